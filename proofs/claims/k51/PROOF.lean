import PyProof.Rows.All
import Wide.All
import OpenK.AllK
import Wide.FinOn
import Lean
import PyProof.EqAt
import PyProof.EqKinds
import PyProof.TupleCall
import PySem.Challenge.RW_leastterms_k51_least_products
noncomputable section
set_option compiler.extract_closed false
set_option Elab.async false
set_option linter.all false
set_option autoImplicit true
set_option relaxedAutoImplicit true
set_option maxRecDepth 100000
open PySem renaming wpAny_bind->aa,Value->ae,Addr->af,Shared->ag,wpAny_pure->am,wpAny->aq,Str->au,model->ax,starEach->aF,Program->aJ,Heap->aR,Expr->aS,World->aU,Around->aX,bootBuiltins->bo,mem_of_lookup->bu,wpAny_field->bF,wpAny_holding->bL,Comprehension->bN,mainGlobals->bV,Scope->cf,foldedSetIterable->cg,wpAny_mono->ci,cellsFrom->ck,Paired->cu,wpAny_newObj_type->cx,compareOp->cy,wpAny_setField_rec->cI,wpAny_seqItems->cK,wpAny_truthy_bool->cQ,Stmt->cT,rawInt->dr,NameKind->dB,importedModules->dD,wpAny_callSpecial?_slot->dH,FuncData->dL,wpAny_call_entry->dM,binaryOp->dU,wpAny_tryCatch->d9,PyData->ee,wpAny_letGo->eu,wpAny_rule->eB,Builtin->eF,Arguments->eG,codeAny_mono->eL,wpAny_pyIter_list->eV,wpAny_standAt->eZ,wpAny_Call_Name_kw->fv,wpAny_passesOwn->fA,wpAny_updateSeq->fD,swapsWithSole->fJ,swappedStores->fK,plainId_quiet->fN,IsPair->fP,sizeLine_eq->fT,wpAny_attempt->f6,wpAny_execs_nil->f7,wpAny_with_toks->f8,codeAny_builtin->gf,Keyword->gC,wpAny_setField->gD,wpAny_execs_cons->gJ,assignEach->gK,call_meets->gL,OsState->gZ,wpAny_binaryOp_repeat_ref->ie,IsEnum->iq,Model->iu,typeIs_int->iw,wpAny_onRaise->iO,wpAny_newList->iS,BindsTo->i3,Params->i7,wpAny_Name->ja,wpAny_loadName_local->jb,wpAny_call->jc,IsPart->jf,pushCells_keeps->jg,wpAny_updateSeq_pair->jh,wpAny_loadName_cell->jp,wpAny_newTuple->jw,PassesOwn->jG,concat_meets->jJ,wpAny_newFunctionEnv_cells->jV,wpAny_assign_Name->j3,IsZip->j8,Meets->j9,wpAny_eqBool_str->kl,noFill_tuple_add->kn,wpAny_getItem_of->ko,codeAny_of_tree->kT,wpAny_of_eq->k9,richCompare_meets_room->lh,wpAny_isTrue_Compare1->lj,codeAny_call_function->lq,exec_Assign_Name_used->lz,intText?->lA,wpAny_newFunctionEnv->lQ,seq_tuple_add->lZ,wpAny_loadName_free->md,nums_intItems->ml,wpAny_pyIter_tuple->mB,pushCells->mC,seqIndex_of->m8,GenState->ng,seqSlot_of->nw
open Option renaming some->XE,none->YP
open Bool renaming true->Y1,false->Y2
abbrev JU:=@if_pos
abbrev J5:=@if_neg
open PyProof.Rows renaming arrOf->J6,pendingOf->J7
open PySem renaming sizeLine->J8
local macro_rules|`(⇑$e)=>`(by simpa using $e)
local macro_rules|`('1')=>`(by walk_at "s")
local macro_rules|`('2')=>`(by walk_at "e")
local macro_rules|`('3')=>`(by walk_at "le")
local macro_rules|`('4')=>`(by walk_at "u")
local macro_rules|`('5')=>`(by walk_at "z")
local macro_rules|`('6')=>`(by walk_at "a")
local macro_rules|`('7')=>`(by walk_at "t")
local macro_rules|`('8')=>`(by walk_at "ss")
set_option hygiene false in
local macro_rules|`('9')=>`(K51.fa_mk KX G ?_ ?_ ?_ ?_)
local macro_rules|`('o')=>`(by lia)
local macro_rules|`('d')=>`(by simp)
local macro_rules|`('s')=>`(by decide)
local macro_rules|`('k')=>`(by kernel_rfl)
open PySem.Heap renaming get?_push_of_some->ah,lt_size->aK,get?_push_size->aM,get?_update_other->bb,get?_update_self->bM,size_push->cJ,SameBut->d6,size_update->gN,get?_none_of_le->i9,ExtBut->m9
open False renaming elim->ai
open PySem.W renaming Frag->aj,kitOne->a7,fnOf->bi,mg_none_of->bE,kla_fn->cr,boot_heap->cD,mg_of->cM,keepIn->cV,codeIn->cX,InstAt->cY,findIn->dR,exmOne->fk,cellsFrom_some->gh,tabIn->gW,nsIn->ip,specialIn->iB,mroIn->iM,noTabs->jz,FnAt->ku,takesIn->kS,kia_one->kU,kla_obj->kX,tabObj->lB,kla_codeExpr->lR,ofPys->l5,excIn->l8,callWith_K->ms,codeRec_of->mw,OpenLaw->mx,ofPy->my,SharedT->mG,holds_law->mH,kitx_none->mL,kitx_bool->mM,kitx_list->mO,kitx_dict->mP,plainGet->nk,instObj->nJ,kitAny->nV,CodeHd->nW,tab_of->n8,clsIn->oi,isFn->on
open List renaming getElem?_eq_some_iff->ak,mem_cons_of_mem->al,getElem?_eq_getElem->ao,mem_cons->ar,mem_cons_self->av,replicate->aw,all_eq_true->ay,mem_map->az,length_append->aA,mem_append_right->aC,length_map->aD,getD_eq_getElem?_getD->aH,getElem?_append_left->aI,mem_of_getElem?->aO,size_toArray->aP,mem_append->aQ,length_cons->aT,range->aW,getElem?_set_self->aY,getElem?_set_ne->aZ,getElem?_append_right->a8,mem_filter->bd,getElem?_eq_none_iff->bg,append_assoc->bh,mem_range->bz,nodup_cons->bA,map_map->bB,getElem?_map->bC,length_filter_le->bD,pairwise_append->bI,map_cons->bJ,pairwise_cons->bK,getElem_mem->bO,append_nil->bP,map_append->bQ,mem_append_left->bS,length_take->bT,not_mem_nil->bU,drop_eq_getElem_cons->cm,length_drop->cq,take_append_drop->cB,any_eq_true->cC,mem_iff_getElem->cE,mem_of_mem_take->cG,length_set->cL,perm_append_comm->cP,take_sublist->cR,length_range->cS,length_eq_zero_iff->cU,mem_of_mem_drop->c9,take_of_length_le->dg,flatMap_cons->dh,drop_sublist->di,map_inj_left->dj,length_nil->dE,mem_singleton->dG,filter_cons_of_neg->dI,filter_cons_of_pos->dJ,drop_of_length_le->dS,flatten_cons->ei,replicate_succ->eo,filter_cons->eD,drop_drop->eH,pairwise_iff_getElem->eJ,find?_cons->eN,drop_append_of_le_length->e8,getElem?_replicate->fc,getElem?_cons_zero->fe,getElem?_cons_succ->fg,lookup_cons->fj,take_length->fo,lt_irrefl->fq,set_cons_zero->fy,length_singleton->fB,foldl_cons->fE,contains_iff_mem->fF,eq_nil_or_concat->fG,concat_eq_append->fH,take_succ->fW,getElem?_take_of_lt->fX,any_cons->fZ,nil_append->gd,set_cons_succ->gg,find?_cons_of_neg->gj,filter_eq_nil_iff->gk,nodup_append->gm,pairwise_map->gw,any_eq_false->gz,take_take->gF,mem_reverse->gP,mem_flatMap->gQ,filterMap_cons->g9,filter_sublist->hJ,forIn_cons->h9,length_zip->ic,mem_or_eq_of_mem_set->ig,map_nil->il,nodup_nil->ix,not_lt->iG,find?_cons_of_pos->iJ,lt_trans->iU,sum_cons->iV,zipIdx_cons->iX,getElem_map->iZ,length_replicate->i4,of_mem_zip->jd,map_congr_left->jq,flatMap_append->js,map_eq_nil_iff->jt,countP_eq_length_filter->jA,length->jC,mem_filterMap->jH,getElem?_take->jK,zip_cons_cons->jN,filter_append->jQ,getElem_range->jS,getElem?_take_eq_none->j0,extract_eq_take_drop->kg,getElem?_zip_eq_some->ki,getElem_inj->km,cons_append->kr,le_antisymm->kA,ext_getElem->kH,length_erase_of_mem->kI,isEmpty_iff->kJ,all_flatMap->kK,pairwise_singleton->kQ,forIn_nil->lv,drop_zero->lE,set_append_right->lF,cons_lt_cons_iff->lH,countP_mono_left->lJ,mem_erase_of_ne->lV,set_append_left->lW,length_take_le'->lX,all_cons->l9,getElem?_range->mh,getElem_of_mem->mj,length_pos_iff->mn,all_map->mF,reverse_cons->mI,getElem_take->mT,getElem_drop->mU,reverse_perm->mV,foldl_append->mZ,filter_congr->m7,all_toArray->ny,drop_length->nD,countP_cons->nG,zipIdx_nil->nM,range_succ->nQ,sum_append->nR,drop_take->nX,drop_left->nY,take_left->nZ,take_add->oj
open Nat renaming le_refl->aB,le_trans->aG,lt_of_lt_of_le->a9,ne_of_lt->bq,zero_le->bX,add_sub_cancel_left->cj,lt_irrefl->cw,succ_pos->cN,pow_le_pow_right->de,ne_of_gt->dO,zero_max->d7,zero_add->eR,lt_succ_self->fi,le_succ->fU,lt_or_ge->fY,lt_of_le_of_lt->f9,min_eq_left->ge,lt_succ_of_lt->gn,le_of_ble_eq_true->gG,le_add_right->gM,reduceLeDiff->gR,add_comm->im,le_of_eq->ir,add_assoc->iP,reduceAdd->iW,le_of_lt->i8,sub_self->jj,reduceLT->jo,mul_le_mul->jy,one_le_two_pow->jO,testBit_two_pow_sub_one->jP,add_zero->kw,testBit_lt_two_pow->li,not_lt->lP,add_le_add_left->me,min_le_right->nq,one_ne_zero->nN,le_antisymm->nO
open PyProof.Rows renaming wpS_bind->aE,wpS_pure->aL,envOfC->aV,KeyKind->ba,Keyed->be,SortSt->cb,wpS_forRange->cO,wpS_mono->dN,callWith_type1->el,slot_tuple_getitem->ft,wpS_modify->fR,AllBare->gA,wpS_get->g8,listUpdate_at->iQ,listItems_at->jl,KeysOf->jr,wpS_lift->jx,seqEpoch_at->jE,assignInOrder_cons->jF,SortedToK->jM,Call_->kL,KK_mirror_equal->kY,subscriptTail_builtinR->k8,wpS_reverse->lf,IntsAre->lr,StrsAre->lL,recsOf->mm
open Array renaming length_toList->aN,toList_append->bR,size_push->cn,perm_iff_toList_perm->dQ,getElem?_eq_getElem->dW,getElem?_eq_some_iff->eC,getElem_toList->eS,size_append->gp,toList_push->gq,map->gH,getElem?_setIfInBounds_self->iF,getElem?_toList->i5,toList_setIfInBounds->jZ,size_setIfInBounds->kz,toList_inj->kB,size_map->lG,mk->lN,toList_extract->lS,toList_reverse->lT,append_assoc->mo,toList->mr,toList_map->nB,size_zip->n6
open PySem.PyData renaming eqv->bj,list->eE,eqvAll->fO,tuple->io,canLay0->ju,int->jW,depth->mD,canLayAll0->mK,depthAll->nK
open Bool renaming and_eq_true->br,false_eq_true->bZ,false_ne_true->cz,eq_iff_iff->dZ,not_eq_true'->ef,not_true->gY,not_false->iy,or_eq_false_iff->jm,and_eq_true_iff->jn,false_or->jX,or_eq_true->kW,false_and->ll,and_eq_false_iff->lI,and_true->ma,true_and->om
open Ne renaming symm->bw
open PySem.F renaming plain_min_loop->bG,entry_min_loop->ez,slot_int_rmul->eI,slot_enumerate_next->fC,slot_tuple_iterator_next->fM,slot_tuple_mul->gi,slot_dict_getitem->hV,args_tuple_add_2->ik,entry_tuple_add->iz,args_int_rmul_2->iA,slot_tuple_add->iE,slot_int_index->iH,entry_int_rmul->iI,fills_int_mul->i6,slot_zip_next->ji,args_tuple_iterator_next_1->jv,entry_tuple_iterator_next->jL,excBase_ValueError->jY,slot_dict_delitem->j5,args_tuple_mul_2->kE,plainAttrs_list->kN,args_enumerate_next_1->kO,slot_tuple_rmul->kP,entry_tuple_mul->kR,entry_enumerate_next->lc,slot_list_append->lu,slot_enumerate_iter->lC,slot_list_extend->lD,attr_ValueError->mJ,args_zip_next_1->mS,plain_min->mW,entry_min->mX,args_tuple_lt_2->mY,entry_zip_next->nv,kind_min->nE,entry_tuple_lt->nF
open PySem.Obj renaming mapSeq->bH,data_mapFields->dF,isFreed_of_fields->d0,mapFields->fL,cls_mapFields->mQ
open PySem.Builtin.Str renaming occurrences->b9
open Option.some renaming inj->cA
open PySem.Builtin.SmallTypes renaming nextOf->cF,ownedTupleIsFree->d8,ownedTupleHandOut->fx
open Classical renaming byContradiction->cH
open PySem.Value renaming none->cZ,ref->c8,type->fu,notImplemented->gO,builtin->gU,isInt->iD,bool->lO,int->n9,str->oa,isStrOf->oh
open PySem.NameKind renaming free->dk,cell->dP
open Sum renaming inr->dq,inl->g7
open PySem.Builtin.List renaming listTooLong->eM,listItems->lg
open True renaming intro->eQ
open PySem.Around renaming under_plainId->eT,frames_deeper->je
open List.Pairwise renaming nil->eU,imp_of_mem->kC
open PySem.Heap.SameBut renaming update->fh
open And renaming intro->fw
open PySem.Builtin.Builtins renaming bindParams->fz
open PySem.Builtin.Slice renaming slicePlaces->fQ,sliceAdjust->hU
open List.Perm renaming refl->fV,append_left->gE
open ForInStep renaming yield->gc
open PyProof.Rows.KeyOrd renaming kle_of_klt->gu,kle_trans->iY
open PySem.Str renaming ofString->gT
open PySem.Builtin.Tuple renaming tupleTooMany->gX
open Option renaming isSome_iff_exists->ij,map_eq_some_iff->iC,none->jD,isSome_some->mz,getD_none->nu,map->nH
open PySem.Builtin renaming bitOr->iK,bitAnd->lp
open PySem.SeqAt renaming EqAt->i0,shaped->ou
open Array.Perm renaming refl->jk
open Sum.inr renaming inj->jB
open PySem.Calls renaming spliced_cons->jI,Name_function_global->jT,spliced_nil->j4,call_function_entry->kh,evalArgs_plain->kM
open Int renaming emod_lt_of_pos->jR,fdiv_eq_ediv_of_nonneg->jU,emod_nonneg->k7,toNat_natCast->mR
open PySem.Builtin.ObjectAttr renaming bindTo->j6
open PySem.Walks renaming list->j7
open PySem.AutoSeq1 renaming sub_tuple_tuple->kF
open PySem.SeqAt.EqAt renaming int_int->kG,same->oz
open PySem.PassesOwn renaming never->kZ
open PyProof.Rows.SortSt renaming mk'->lU
open PySem.Paired renaming length->lY
open PySem.Code renaming compLoop->l7,compStart->nU
open PySem.EntryCells renaming newEntry->mi
open Nat.succ renaming inj->mE
open Prod renaming ext->nj,fst->oo
open PySem.W.WData renaming int->og
open PySem.W.OpenRow renaming toRowW->ow
open Prod.mk renaming inj->oy
open PySem.Heap.IsSliceOf renaming new->oA
namespace K51
open PySem PySem.W
noncomputable def ty(i:Nat):cT:=PySem.Challenge.pw_leastterms_k51_least_products.main.body.getD i (.Pass ⟨0,0,0,0⟩)
def Qv:aJ:={ PySem.Challenge.pw_leastterms_k51_least_products with main:={ PySem.Challenge.pw_leastterms_k51_least_products.main with body:=[ty 1,ty 2,ty 3,ty 4,ty 5,ty 6,ty 7,ty 8,ty 9,ty 10,ty 12,ty 13,ty 15,ty 16,ty 17,ty 18,ty 19,ty 20,ty 22,ty 23,ty 24,ty 25,ty 26,ty 27,ty 29,ty 30,ty 31,ty 32,ty 33,ty 34,ty 36,ty 37,ty 38,ty 39,ty 40,ty 41,ty 42,ty 44,ty 45,ty 46,ty 47,ty 48,ty 50,ty 51,ty 52,ty 53,ty 54,ty 55,ty 56,ty 57,ty 58,ty 59,ty 60,ty 61,ty 62,ty 63,ty 64,ty 65,ty 66,ty 67,ty 68,ty 69] } }
def Lv:List au:=[gT "SWITCHES_BY_POINTS"]
def Xv:ag → Bool:=λs=>PySem.W.xlAt Qv [] s&&PySem.W.recOk (PySem.W.RowW.records (ow PySem.Challenge.rw_leastterms_k51_least_products.row)) s
def bY{α β a:Type}{x:Option α}{f:α → β}{g:α → a}{b:β}{c:a}(d:x.map f=XE b)(e:x.map g=XE c):x.map (λs=>(f s,g s))=XE (b,c):=by
  cases x with
  |none=>cases d
  | some s=>
    have h:f s=b:=cA d;have i:g s=c:=cA e;show XE (f s,g s)=_;rw[h,i]
end K51
section
open PySem PySem.W PyProof.Rows
set_option maxRecDepth 100000 in
def K51.ws:PySem.Challenge.rw_leastterms_k51_least_products.wellSaid=Y1:=by kernel_rfl
local macro_rules|`(tactic| o_head $H)=>`(tactic| skip)
set_option maxRecDepth 100000 in
set_option maxHeartbeats 0 in
def K51.hp:False → PySem.Challenge.rw_leastterms_k51_least_products.Holds:=by
  intro a
  w_on;refine mH K51.ws λb=>?_;k_head
  all_goals exact a.elim
end

namespace DLT
open PySem PySem.W
noncomputable def ph(tb:String → Option eF)(p:aJ)(w:aU)(m:Nat)(an:Option ae):Nat → mG → Thread → Option mG
  |0,_,_=>YP
  | k+1,a,th=>match through th with
    |true=>XE a
    | false=>match stepOk m an th with
      |false=>YP
      | true=>match stepT (denote tb) p w a th with
        |some (b,Wk)=>ph tb p w m an k b Wk
        |none=>YP
theorem pA{d:String → Option eF}{p:aJ}{w:aU}{m:Nat}{e:Option ae}:∀{k:Nat}{a z:mG}{c:Thread},ph d p w m e k a c=XE z → topRun d p w m e k a.abs c=XE z.abs
  |0,_,_,_,H=>by cases H
  | k+1,a,z,c,H=>by
    unfold ph at H;unfold topRun;cases g:through c with
    |true=>rw[g] at H;cases H;rfl
    | false=>
      rw[g] at H;cases h:stepOk m e c with
      |false=>rw[h] at H;cases H
      | true=>
        rw[h] at H;cases f:stepT (denote d) p w a c with
        |none=>rw[f] at H;cases H
        |some q=>obtain⟨b,i⟩:=q;rw[f] at H;rw[stepT_spec f];exact pA H
def pB:Nat → BT → List Obj → BT
  |_,T,[]=>T
  |i,T,o::os=>pB (i+1) (T.ins i o) os
noncomputable def pj(P:i7):BT:=pB 0 .nil (cD P).objs.toList
def boot_abs:∀P:i7,absHeap (pj P) (cD P).objs.size (cD P).life=cD P:=λP=>by kernel_rfl
noncomputable def J0(P:i7)(os:gZ):mG:=⟨pj P,(cD P).objs.size,(cD P).life,lN [],boot_drawn,boot_toks,os⟩
noncomputable def s0(P:i7)(os:gZ):ag:=⟨cD P,lN [],boot_drawn,boot_toks,os⟩
def pI(P:i7)(a:gZ):(J0 P a).abs=s0 P a:=by unfold J0 s0 SharedT.abs;rw[boot_abs P]
def pC:∀P:i7,((cD P).isNs bV&&(lN []:Array ng).size==0,(cD P).objs.size,(cD P).nsMap bV "__annotations__")=(Y1,11,XE (.ref 6)):=λP=>by kernel_rfl
def chk(p:aJ)(h:aR)(s:ag):Bool:=staticsOk (dD p.main.body) h s.heap&&namesBound p s.heap&&gensDone s&&laidKept h s.heap
def pr{p:aJ}{w:aU}{P:i7}{b:gZ}{N:Nat}{α:Type}{f:ag → α}{a:α}(h:(ph treeTable p w 11 (XE (.ref 6)) N (J0 P b) (topStub p)).map (λs=>(chk p (cD P) s.abs,f s.abs))=XE (Y1,a)):(topFrom treeTable p w N (s0 P b)).map f=XE a:=by
  obtain⟨s,e,d⟩:=iC.mp h;have r:=pA e;rw[pI] at r;obtain⟨g,i,j⟩:_ ∧ _ ∧ _:=by simpa only[Prod.mk.injEq] using pC P
  obtain⟨k,l⟩:=oy d;unfold topFrom;show nH f (match (cD P).isNs bV&&(lN []:Array ng).size==0 with
    | true=>(topRun treeTable p w (cD P).objs.size ((cD P).nsMap bV "__annotations__") N (s0 P b) (topStub p)).bind λc=>match chk p (cD P) c with
      |true=>XE c
      |false=>YP
    |false=>YP)=XE a
  rw[g,i,j,r];show nH f (match chk p (cD P) s.abs with
      |true=>XE s.abs
      |false=>YP)=XE a
  rw[k];exact congrArg XE l
def pJ{α β a e:Type}{x:Option α}{f:α → β×a}{g:α → e}{b:β}{c:a}{d:e}(h:x.map (λs=>((f s).1,g s))=XE (b,d))(i:x.map (λs=>(f s).2)=XE c):x.map (λs=>(f s,g s))=XE ((b,c),d):=by
  cases x with
  |none=>cases h
  | some s=>
    obtain⟨j,k⟩:=oy (cA h);have l:(f s).2=c:=cA i;exact congrArg XE (nj (nj j l) k)
noncomputable abbrev R(p:aJ)(N:Nat)(w:aU)(P:i7)(os:gZ):Option mG:=ph treeTable p w 11 (XE (.ref 6)) N (J0 P os) (topStub p)
def left_of{p q:aJ}{loose:List au}{Xt:ag → Bool}{α:Type}{Yf:ag → α}{Ya:aU → α}{N:Nat}{b:Bool}(a:String)(e:opening p=plainProg p.main.scope.names)(i:Nat.ble 600 N=Y1)(j:∀s,fenceModules? p s=XE s)
    (l:∀(v:Bool)(w:aU)(c:gZ),(R p N (w.withFollow a v) w.params c).map (λs=>(chk p (cD w.params) s.abs,((openSeen q loose (dD p.main.body) Xt b s.abs).1,Yf s.abs)))=XE (Y1,(openGood q loose).1,Ya (w.withFollow a v)))
    (m:∀(v:Bool)(w:aU)(c:gZ),(R p N (w.withFollow a v) w.params c).map (λs=>(chk p (cD w.params) s.abs,(openSeen q loose (dD p.main.body) Xt b s.abs).2))=XE (Y1,(openGood q loose).2)):
    LeftO p q loose Xt Yf Ya N b:=LeftO.of_split a λw=>by
  obtain⟨⟨h,n,d,k,c⟩,x,y⟩:=iC.mp (boot_open e i j w);obtain⟨rfl,rfl,rfl,rfl⟩:h=cD w.params ∧ n=lN [] ∧ d=boot_drawn ∧ k=boot_toks:=⇑y
  rw[x];have go (v:Bool):(topFrom treeTable p (w.withFollow a v) N (s0 w.params c)).map (λs=>(openSeen q loose (dD p.main.body) Xt b s,Yf s))=XE (openGood q loose,Ya (w.withFollow a v)):=
    pJ (f:=λs=>openSeen q loose (dD p.main.body) Xt b s) (g:=Yf) (pr (f:=λs=>((openSeen q loose (dD p.main.body) Xt b s).1,Yf s)) (l v w c)) (pr (f:=λs=>(openSeen q loose (dD p.main.body) Xt b s).2) (m v w c))
  exact congrArg XE (nj (go Y2) (go Y1))
end DLT

namespace K51
open PySem PySem.W
abbrev As:List af:=[2,3,15,22,23,24,25,28,35,36,37,40,47,48,49,52,59,60,61,64,71,72,73,76,83,84,85,88,95,96,97,100,107,108,109,112,119,120,121,124,131,132,133,136,138,139,141,142,143,145,146,148,149,150,151,153,154,156,157,158,161,162,163,165,166,168,169,170,172,173,175,176,177,180,181,182,185,186,187,189,190,192,193,194,197,198,199,201,202,204,205,206,208,209,211,212,213,216,217,218,221,222,223,226,227,228,230,231,233,234,235,238,239,240,243,244,245,248,249,250,253,254,255,258,259,260,263,264,265,268,269,270,272,273,275,276,277,279,280,282,283,284,286,287,289,290,291,294,295,296,298,299,301,302,303,305,306,308,309,310,312,313,315,316,317,319,320,322,323,324,326,327,329,330,331,333,334,336,337,338,340,341,343,344,345,347,348,350,351,352,354,355,357,358,359,361,362,364,365,366,369,370,371,374,375,376,379,380,381,384,385,386,389,390,391,394,395,396,399,400,401,404,405,406,409,410,411,414,415,416,418,419,421,422,423,426,427,428,430,431,433,434]
noncomputable def Hk:PySem.W.Hook:=PySem.W.kmHook K51.hp.heap_1 K51.As (λ_=>by kernel_rfl) [256,429]
abbrev Pg:aJ:=PySem.Challenge.rw_leastterms_k51_least_products.row.prog
set_option maxRecDepth 100000 in
def la1:∀(w:aU)(a:gZ),(DLT.R Pg 7434 (w.withFollow "special-get-raises" Y2) w.params a).map (λs=>(DLT.chk Pg (cD w.params) s.abs,((openSeen Qv Lv (dD Pg.main.body) Xv Y1 s.abs).1,(Hk.obs s.abs,decide (0<s.abs.toks)))))=XE (Y1,((openGood Qv Lv).1,(Hk.val (w.withFollow "special-get-raises" Y2),Y1))):=λw a=>by kernel_rfl
set_option maxRecDepth 100000 in
def J9:∀(w:aU)(a:gZ),(DLT.R Pg 7434 (w.withFollow "special-get-raises" Y2) w.params a).map (λs=>(DLT.chk Pg (cD w.params) s.abs,(openSeen Qv Lv (dD Pg.main.body) Xv Y1 s.abs).2))=XE (Y1,(openGood Qv Lv).2):=λw a=>by kernel_rfl
set_option maxRecDepth 100000 in
def lb1:∀(w:aU)(a:gZ),(DLT.R Pg 7434 (w.withFollow "special-get-raises" Y1) w.params a).map (λs=>(DLT.chk Pg (cD w.params) s.abs,((openSeen Qv Lv (dD Pg.main.body) Xv Y1 s.abs).1,(Hk.obs s.abs,decide (0<s.abs.toks)))))=XE (Y1,((openGood Qv Lv).1,(Hk.val (w.withFollow "special-get-raises" Y1),Y1))):=λw a=>by kernel_rfl
set_option maxRecDepth 100000 in
def lb2:∀(w:aU)(a:gZ),(DLT.R Pg 7434 (w.withFollow "special-get-raises" Y1) w.params a).map (λs=>(DLT.chk Pg (cD w.params) s.abs,(openSeen Qv Lv (dD Pg.main.body) Xv Y1 s.abs).2))=XE (Y1,(openGood Qv Lv).2):=λw a=>by kernel_rfl
def lw:PySem.W.LeftO Pg Qv Lv Xv (λs=>(Hk.obs s,decide (0<s.toks))) (λw=>(Hk.val w,Y1)) 7434:=DLT.left_of "special-get-raises" rfl rfl (λ_=>rfl) (λv=>match v with|false=>la1|true=>lb1) (λv=>match v with|false=>J9|true=>lb2)
end K51

abbrev n_:=List Nat
abbrev l_:=List n_
-- O8: your Wp module here, as zP last of Wj rows
namespace L2
open PySem PySem.Spec PyProof.Rows
abbrev Key:=Sum Int au
def DW:Key->ae->Bool
 |.inl k,v=>iD k v
 |.inr x,v=>oh x v
noncomputable def X_(w:aU):Key->Int
 |.inl k=>hashInt k
 |.inr x=>hashStr w x
def zO:∀{k:Key}{v:ae},DW k v=Y1->(∃i t,k=g7 i/\v=n9 i t)\/(∃x t,k=dq x/\v=oa x t)
 | .inl i,v,h=>by
  obtain⟨t,e⟩:=Value.isInt_shape h;exact .inl ⟨i,t,rfl,e⟩
 | .inr x,v,h=>by
  obtain⟨t,e⟩:=Value.isStrOf_shape h;exact .inr ⟨x,t,rfl,e⟩
def zdA(i:Int)(t:Tok):DW (.inl i) (.int i t)=Y1:=by simp[DW,iD]
def zdw(x:au)(t:Tok):DW (.inr x) (.str x t)=Y1:=by simp[DW,oh]
def Z7(a b:Int):decide ((g7 a:Key)=g7 b)=(a==b):=by
 by_cases e:a=b
 ·subst e;simp
 ·have h:¬ (g7 a:Key)=g7 b:=λq=>e (Sum.inl.inj q);rw[decide_eq_false h];exact(beq_eq_false_iff_ne.mpr e).symm
def ZY(a b:au):decide ((dq a:Key)=dq b)=decide (a=b):=by
 by_cases e:a=b
 ·subst e;simp
 ·have h:¬ (dq a:Key)=dq b:=λq=>e (jB q);rw[decide_eq_false h,decide_eq_false e]
def zkh(a:Int)(b:au):decide ((g7 a:Key)=dq b)=Y2:=decide_eq_false (λq=>nomatch q)
def ZI(a:au)(b:Int):decide ((dq a:Key)=g7 b)=Y2:=decide_eq_false (λq=>nomatch q)
def u6(prog:aJ)(w:aU):PySem.KeyKind prog w Key where
 is:=DW
 hash:=X_ w
 inj:=λv a b ha hb=>by
  rcases zO ha with⟨i,t,rfl,rfl⟩|⟨x,t,rfl,rfl⟩
  ·rcases zO hb with⟨j,u,rfl,e⟩|⟨y,u,rfl,e⟩
   ·injection e with e1 _;rw[e1]
   ·exact nomatch e
  ·rcases zO hb with⟨j,u,rfl,e⟩|⟨y,u,rfl,e⟩
   ·exact nomatch e
   ·injection e with e1 _;rw[e1]
 byValue:=λk v h=>by
  rcases zO h with⟨i,t,rfl,rfl⟩|⟨x,t,rfl,rfl⟩<;>rfl
 pyHash:=λhv h=>by
  rcases zO hv with⟨i,t,rfl,rfl⟩|⟨x,t,rfl,rfl⟩
  ·exact wpAny_pyHash_int h
  ·exact wpAny_pyHash_str h
 eqBool:=λhu hv h=>by
  rcases zO hu with⟨i,t,rfl,rfl⟩|⟨x,t,rfl,rfl⟩
  ·rcases zO hv with⟨j,u,rfl,rfl⟩|⟨y,u,rfl,rfl⟩
   ·rw[Z7] at h;exact wpAny_eqBool_int h
   ·rw[zkh] at h;exact SeqAt.EqAt.int_str i t y u _ _ _ _ h
  ·rcases zO hv with⟨j,u,rfl,rfl⟩|⟨y,u,rfl,rfl⟩
   ·rw[ZI] at h;exact SeqAt.EqAt.str_int x t j u _ _ _ _ h
   ·rw[ZY] at h;exact kl h
 «strs»:=λk x t v h=>by
  rcases zO h with⟨i,u,rfl,e⟩|⟨y,u,rfl,e⟩
  ·exact nomatch e
  ·injection e with e1 _;subst e1;cases v<;>rfl
def z8H(prog:aJ)(w:aU)(i:Int)(t:Tok):(u6 prog w).is (.inl i) (.int i t)=Y1:=zdA i t
def z8C(prog:aJ)(w:aU)(x:au)(t:Tok):(u6 prog w).is (.inr x) (.str x t)=Y1:=zdw x t
inductive V where
 |non|bl (b:Bool)|int (i:Int)|str (x:au)|byt (b:Array UInt8)|flt (b:UInt64)|ref (a:af)|ty (n:String)
 deriving DecidableEq
def RelV:V->ae->Prop
 |.non,u=>u=cZ
 |.bl b,u=>u=lO b
 |.int i,u=>∃t,u=n9 i t
 |.str x,u=>∃t,u=oa x t
 |.byt b,u=>∃t,u=Value.bytes b t
 |.flt b,u=>∃t,u=Value.float b t
 |.ref a,u=>u=c8 a
 |.ty n,u=>u=fu n
abbrev oE:List V->List ae->Prop:=cu RelV
def oE.length{xs:List V}{a:List ae}(r:oE xs a):xs.length=a.length:=lY r
theorem oE.get:∀{xs:List V}{a:List ae}{i:Nat}{x:V},oE xs a->xs[i]?=XE x->∃u,a[i]?=XE u/\RelV x u
 |_,_,_,_,.nil,e=>by simp at e
 |_,_,0,_,.cons r _,e=>by simp at e;subst e;exact⟨_,rfl,r⟩
 | _,_,i+1,x,.cons _ t,e=>by
  obtain⟨u,b,c⟩:=oE.get t ⇑e;exact⟨u,by simpa using b,c⟩
theorem oE.set{x:V}{u:ae}(r:RelV x u):∀{xs:List V}{a:List ae}(i:Nat),oE xs a->oE (xs.set i x) (a.set i u)
 |_,_,_,.nil=>.nil
 |_,_,0,.cons _ t=>.cons r t
 |_,_,i+1,.cons q t=>.cons q (oE.set r i t)
theorem oE.append:∀{xs a:List V}{b c:List ae},oE xs b->oE a c->oE (xs++a) (b++c)
 |_,_,_,_,.nil,s=>s
 |_,_,_,_,.cons r t,s=>.cons r (oE.append t s)
theorem oE.take:∀{xs:List V}{a:List ae}(n:Nat),oE xs a->oE (xs.take n) (a.take n)
 |_,_,0,_=>.nil
 |_,_,_+1,.nil=>.nil
 |_,_,n+1,.cons r t=>.cons r (oE.take n t)
theorem oE.drop:∀{xs:List V}{a:List ae}(n:Nat),oE xs a->oE (xs.drop n) (a.drop n)
 |_,_,0,r=>r
 |_,_,_+1,.nil=>.nil
 |_,_,n+1,.cons _ t=>oE.drop n t
def oZ:Option V->Option ae->Prop
 |some v,XE u=>RelV v u
 |none,YP=>True
 |_,_=>False
def KV{κ:Type}:List (κ×V)->List (κ×ae)->Prop:=cu λ(p:κ×V)(q:κ×ae)=>p.1=q.1/\RelV p.2 q.2
def kV:Key->V
 |.inl i=>.int i
 |.inr x=>.str x
inductive HO where
 |lst (xs:List V)
 |tup (xs:List V)
 |dK (i_:List (Key×V))|dT (i_:List (List Key×V))
 |set (S:Int->Bool) (n:Nat)
 |ins (C dx:af) (fs:List (au×V))
 |own (x:af)
 |xd (fs:List (au×V))
 |met (f x:af)
 |rng (lo hi:Int)
 |frz (o:Obj) (u:HO)
 |tbl (ps:Array ae)
 |ext (φ:aR->Prop)
abbrev Hp:=af->Option HO
noncomputable def upd(H:Hp)(a:af)(o:HO):Hp:=λb=>if b=a then XE o else H b
def rG{H:Hp}{a:af}{o:HO}:upd H a o a=XE o:=by unfold upd;rw[JU rfl]
def pX{H:Hp}{a b:af}{o:HO}(h:b≠a):upd H a o b=H b:=by unfold upd;rw[J5 h]
def ziC:upd (upd H a o) a u=upd H a u:=by funext b;unfold upd;split<;>rfl
def YB{H:Hp}{a b:af}{o u:HO}(h:H a=XE o)(h':H b=XE u)(d:o≠u):a≠b:=by intro e;subst e;rw[h] at h';exact d (cA h')
def sk{H:Hp}{a b:af}{o:HO}(h:H a=XE o)(h':H b=YP):a≠b:=by intro e;subst e;rw[h] at h';cases h'
def oW(h:aR)(a:af)(items:Array ae):Prop:=∃o,h.get? a=XE o/\o.cls=.type "tuple"/\(∃n,o.data=.seq items n)/\o.dict=YP
def oW.tup{h:aR}{a:af}{items:Array ae}(x:oW h a items):IsTup h a items:=let ⟨o,e,c,d,_⟩:=x;⟨o,e,c,d⟩
def oW.new(h:aR)(items:Array ae):oW (h.push { cls:=.type "tuple",data:=.seq items }) h.objs.size items:=⟨_,aM _ rfl,rfl,⟨_,rfl⟩,rfl⟩
section
variable(P:aJ)(w:aU)
def oR(H:Hp)(h:aR)(a:af):HO->Prop
 |.lst xs=>xs.length<=J8/\∃(e_:List ae)(n:Nat),oE xs e_/\h.get? a=XE { cls:=.type "list",data:=.seq e_.toArray n }
 |.tup xs=>xs.length<=J8/\∃e_:List ae,oE xs e_/\oW h a e_.toArray
 |.dK i_=>i_.length<=J8/\(a==sysModules)=Y2/\∃vs,KV i_ vs/\h.DictOf (u6 P w) a vs
 | .dT i_=>i_.length<=J8/\(a==sysModules)=Y2/\∃xs:List (List Key×af×ae),
   cu (λ(p:List Key×V)(q:List Key×af×ae)=>p.1=q.1/\H q.2.1=XE (.tup (p.1.map kV))/\RelV p.2 q.2.2) i_ xs/\
   ∃o es ep,h.get? a=XE o/\o.ExactDict/\o.data=.dict es ep/\es.toList=xs.map (entryOfKey (tupleKind (u6 P w)))/\(xs.map (·.1)).Nodup
 |.set S n=>h.SetOf (intKind P w) a S n
 | .ins C dx fs=>H dx=XE (.own a)/\fs.length<=1000/\dx≠a/\h.get? a=XE (nJ C dx)/\
   ∃mA,h.Ns1 dx mA/\(∀f,oZ (fs.lookup f) (mA f))/\PySem.Within mA (fs.map (·.1))
 |.own _=>∃o,h.get? a=XE o
 |.xd fs=>∃mA,h.Ns1 a mA/\∀f,oZ (fs.lookup f) (mA f)
 |.rng lo hi=>∃t u v,h.get? a=XE { cls:=.type "range",data:=.fields #[.int lo t,.int hi u,.int 1 v] }
 |.frz o u=>h.get? a=XE o/\oR H h a u
 |.tbl ps=>h.get? a=XE { cls:=.none,data:=.fields ps }
 |.met f x=>h.get? a=XE (PySem.W.methodObj (.ref f) (.ref x))
 |.ext φ=>φ h/\(∃o,h.get? a=XE o)/\∀h1 h2:aR,φ h1->(∀o,h1.get? a=XE o->h2.get? a=XE o)->φ h2
def HOk(H:Hp)(h:aR):Prop:=∀a o,H a=XE o->oR P w H h a o
end
section
variable{P:aJ}{w:aU}{H H':Hp}{h h':aR}{a:af}{o:HO}
def oR.lt(x:oR P w H h a o):a<h.objs.size:=by
 cases o with
 |lst xs=>obtain⟨_,_,_,_,e⟩:=x;exact aK e
 |tup xs=>obtain⟨_,_,_,p⟩:=x;exact(oW.tup p).lt
 |dK i_=>obtain⟨_,_,_,_,o,_,_,e,_⟩:=x;exact aK e
 |dT i_=>obtain⟨_,_,_,_,o,_,_,e,_⟩:=x;exact aK e
 |set S n=>obtain⟨o,_,_,_,e,_⟩:=x;exact aK e
 |ins C dx fs=>obtain⟨_,_,_,e,_⟩:=x;exact aK e
 |own y=>obtain⟨_,e⟩:=x;exact aK e
 |xd fs=>obtain⟨_,⟨_,_,_,e,_⟩,_⟩:=x;exact aK e
 |rng lo hi=>obtain⟨_,_,_,e⟩:=x;exact aK e
 |frz ob u=>obtain⟨e,_⟩:=x;exact aK e
 |tbl ps=>exact aK (x)
 |met f y=>exact aK (x)
 |ext φ=>obtain⟨_,⟨_,e⟩,_⟩:=x;exact aK e
theorem Paired.mapP{α β:Type}{F G:α->β->Prop}:∀{c:List α}{d:List β},cu F c d->(∀a b,F a b->G a b)->cu G c d
 |_,_,.nil,_=>.nil
 |_,_,.cons r t,f=>.cons (f _ _ r) (Paired.mapP t f)
def oR.stay(x:oR P w H h a o)(k:∀b u,(b=a\/H b=XE (.own a))->h.get? b=XE u->h'.get? b=XE u)
  (B:∀b,H b=XE (.own a)->H' b=XE (.own a)) (D:∀b xs,H b=XE (.tup xs)->H' b=XE (.tup xs)):oR P w H' h' a o:=by
 induction o with
 |lst xs=>obtain⟨z,l,n,r,e⟩:=x;exact⟨z,l,n,r,k _ _ (.inl rfl) e⟩
 |tup xs=>obtain⟨z,l,r,g,e,c⟩:=x;exact⟨z,l,r,g,k _ _ (.inl rfl) e,c⟩
 |dK i_=>obtain⟨z,y,E,r,g,i,j,e,c⟩:=x;exact⟨z,y,E,r,g,i,j,k _ _ (.inl rfl) e,c⟩
 | dT i_=>
  obtain⟨z,y,xs,r,g,i,j,e,c⟩:=x;exact⟨z,y,xs,Paired.mapP r λp q z=>⟨z.1,D _ _ z.2.1,z.2.2⟩,g,i,j,k _ _ (.inl rfl) e,c⟩
 |set S n=>obtain⟨g,i,j,t,e,c⟩:=x;exact⟨g,i,j,t,k _ _ (.inl rfl) e,c⟩
 | ins C dx fs=>
  obtain⟨d,z,F,e,m,⟨s,i,j,G,c⟩,r⟩:=x;exact⟨B _ d,z,F,k _ _ (.inl rfl) e,m,⟨s,i,j,k _ _ (.inr d) G,c⟩,r⟩
 |own y=>obtain⟨g,e⟩:=x;exact⟨g,k _ _ (.inl rfl) e⟩
 |xd fs=>obtain⟨m,⟨s,i,j,e,c⟩,r⟩:=x;exact⟨m,⟨s,i,j,k _ _ (.inl rfl) e,c⟩,r⟩
 |rng lo hi=>obtain⟨t,u,v,e⟩:=x;exact⟨t,u,v,k _ _ (.inl rfl) e⟩
 |frz g u ih=>obtain⟨e,q⟩:=x;exact⟨k _ _ (.inl rfl) e,ih q⟩
 | tbl ps=>
  have e:=x;exact k a _ (.inl rfl) e
 | met f y=>
  have e:=x;exact k a _ (.inl rfl) e
 |ext φ=>obtain⟨p,⟨o,e⟩,A⟩:=x;exact⟨A _ _ p λo q=>k _ _ (.inl rfl) q,⟨o,k _ _ (.inl rfl) e⟩,A⟩
def HOk.lt(x:HOk P w H h)(e:H a=XE o):a<h.objs.size:=(x a o e).lt
def HOk.fresh(x:HOk P w H h)(e:h.objs.size<=a):H a=YP:=by
 cases q:H a with
 |none=>rfl
 |some u=>exact absurd (a9 (x.lt q) e) (cw _)
def HOk.kept(x:HOk P w H h)(k:∀b u,h.get? b=XE u->h'.get? b=XE u):HOk P w H h':=λa o e=>
 (x a o e).stay (λb u _ q=>k b u q) (λ_ q=>q) λ_ _ q=>q
def HOk.laid(x:HOk P w H h)(k:∀b u,h.get? b=XE u->h'.get? b=XE u)(i:h.objs.size<=a)(d:oR P w (upd H a o) h' a o):HOk P w (upd H a o) h':=λb u e=>by
 have f:=x.fresh i;by_cases g:b=a
 ·subst g;rw[rG] at e;cases e;exact d
 ·rw[pX g] at e;exact(x b u e).stay (λc v _ q=>k c v q) (λc q=>by rw[pX (sk q f)];exact q) λc j q=>by rw[pX (sk q f)];exact q
end
def Rd(H:Hp)(a:af)(u:HO):Prop:=H a=XE u \/ ∃o,H a=XE (.frz o u)
def Rd.of(h:H a=XE u):Rd H a u:=.inl h
def Rd.ok(r:Rd H a u)(x:HOk P w H h):oR P w H h a u:=by
 rcases r with r|⟨o,r⟩
 ·exact x a u r
 ·obtain⟨_,q⟩:=x a _ r;exact q
def Hj:Option HO->Prop
 |some (.lst _)=>True
 |some (.dK _)=>True
 |some (.dT _)=>True
 |some (.set _ _)=>True
 |some (.ins _ _ _)=>True
 |some (.ext _)=>True
 |_=>False
section
variable{P:aJ}{w:aU}{H:Hp}{h h':aR}{x e:af}{o':HO}
def HOk.write(ok:HOk P w H h)(a:Hj (H x))(j:e=x\/H e=XE (.own x))(k:∀b u,b≠e->h.get? b=XE u->h'.get? b=XE u)(n:∃u,h'.get? e=XE u)
  (i:oR P w (upd H x o') h' x o'):HOk P w (upd H x o') h':=λb u q=>by
 have l:∀c y,H c=XE (.own y)->c≠x:=λc y r z=>by subst z;rw[r] at a;exact a
 have o:∀c d,H c=XE (.tup d)->c≠x:=λc d r z=>by subst z;rw[r] at a;exact a
 by_cases f:b=x
 ·subst f;rw[rG] at q;cases q;exact i
 ·rw[pX f] at q;by_cases g:b=e
  ·have m:H b=XE (.own x):=by
    rcases j with z|z
    ·exact absurd (g.trans z) f
    ·rw[g];exact z
   rw[q] at m;cases m;obtain⟨v,p⟩:=n;exact⟨v,by rw[g];exact p⟩
  ·refine(ok b u q).stay (λc v hc r=>k c v ?_ r) (λc r=>by rw[pX (l c b r)];exact r) λc d r=>by rw[pX (o c d r)];exact r
   rcases hc with rfl|hc
   ·exact g
   ·rintro rfl;rcases j with z|z
    ·exact l c b hc z
    ·rw[hc] at z;cases z;exact f rfl
end
structure Un(fs ex:List af)(H H':Hp)(h h':aR):Prop where
 keep:∀b o,h.get? b=XE o->H b=YP->b∉fs->b∉ex->h'.get? b=XE o
 slot:∀b o,h.get? b=XE o->H b=YP->b∈fs->b∉ex->∃sl,h'.get? b=XE { o with slots:=sl }
 free:∀b o,h.get? b=XE o->H b=YP->b∉ex->H' b=YP
 there:∀b o,h.get? b=XE o->b∉ex->∃o',h'.get? b=XE o'
 tups:∀b xs,H b=XE (.tup xs)->H' b=XE (.tup xs)
 frzs:∀b o u,H b=XE (.frz o u)->H' b=XE (.frz o u)
 tbls:∀b ps,H b=XE (.tbl ps)->∃more,H' b=XE (.tbl (ps++more))
section
variable{fs Xg ex Xn:List af}{H H1 H2:Hp}{h h1 h2 h':aR}{a x e:af}{o:HO}
def Un.any(u:Un fs ex H H1 h h1){b:af}{c:Obj}(q:h.get? b=XE c)(n:H b=YP)(d:b∉ex):∃sl,h1.get? b=XE { c with slots:=sl }:=by
 by_cases f:b∈fs
 ·exact u.slot b c q n f d
 ·exact⟨c.slots,u.keep b c q n f d⟩
def Un.trans(a:Un fs ex H H1 h h1)(b:Un fs ex H1 H2 h1 h2):Un fs ex H H2 h h2 where
 keep:=λc d q n i f=>b.keep c d (a.keep c d q n i f) (a.free c d q n f) i f
 slot:=λc d q n i f=>by
  obtain⟨t,g⟩:=a.slot c d q n i f;obtain⟨m,k⟩:=b.slot c _ g (a.free c d q n f) i f;exact⟨m,k⟩
 free:=λc d q n f=>by
  obtain⟨l,g⟩:=a.there c d q f;exact b.free c l g (a.free c d q n f) f
 there:=λc d q f=>by
  obtain⟨l,g⟩:=a.there c d q f;exact b.there c l g f
 tups:=λc j q=>b.tups c j (a.tups c j q)
 frzs:=λc d j q=>b.frzs c d j (a.frzs c d j q)
 tbls:=λc p q=>by
  obtain⟨r,g⟩:=a.tbls c p q;obtain⟨s,k⟩:=b.tbls c _ g;exact⟨r++s,by rw[k,mo]⟩
def Un.kept(k:∀b u,h.get? b=XE u->h'.get? b=XE u):Un fs ex H H h h':=
 ⟨λb c q _ _ _=>k b c q,λb c q _ _ _=>⟨c.slots,k b c q⟩,λ_ _ _ n _=>n,λb c q _=>⟨c,k b c q⟩,λ_ _ q=>q,λ_ _ _ q=>q,λ_ d q=>⟨#[],by rw[q];simp⟩⟩
def Un.refl:Un fs ex H H h h:=Un.kept λ_ _ q=>q
def Un.laid(k:∀b u,h.get? b=XE u->h'.get? b=XE u)(d:h.objs.size<=a)(c:H a=YP):Un fs ex H (upd H a o) h h' where
 keep:=λb u q _ _ _=>k b u q
 slot:=λb u q _ _ _=>⟨u.slots,k b u q⟩
 free:=λb u q n _=>by rw[pX (bq (a9 (aK q) d))];exact n
 there:=λb u q _=>⟨u,k b u q⟩
 tups:=λb f q=>by rw[pX (sk q c)];exact q
 frzs:=λb u f q=>by rw[pX (sk q c)];exact q
 tbls:=λb g q=>⟨#[],by rw[pX (sk q c),q];simp⟩
def Un.write(c:Hj (H x))(j:e=x\/H e=XE (.own x))(k:∀b u,b≠e->h.get? b=XE u->h'.get? b=XE u)(l:∃u,h'.get? e=XE u):Un fs ex H (upd H x o) h h':=by
 have f:∀b,H b=YP->b≠x:=λb n z=>by subst z;rw[n] at c;exact c
 have g:∀b,H b=YP->b≠e:=λb n z=>by
  subst z;rcases j with r|r
  ·exact f b n r
  ·rw[n] at r;cases r
 have d:∀b u,H b=XE u->¬ Hj (XE u)->b≠x:=λb u q m z=>by subst z;rw[q] at c;exact m c
 refine⟨λb u q n _ _=>k b u (g b n) q,λb u q n _ _=>⟨u.slots,k b u (g b n) q⟩,λb u q n _=>by rw[pX (f b n)];exact n,λb u q _=>?_,
  λb p q=>by rw[pX (d b _ q λz=>z)];exact q,λb u p q=>by rw[pX (d b _ q λz=>z)];exact q,λb s q=>⟨#[],by rw[pX (d b _ q λz=>z),q];simp⟩⟩
 by_cases i:b=e
 ·subst i;exact l
 ·exact⟨u,k b u i q⟩
def Un.mono(u:Un fs ex H H1 h h1)(g:∀b∈fs,b∈Xg)(f:∀b∈ex,b∈Xn):Un Xg Xn H H1 h h1:=
 ⟨λb d q n i c=>u.keep b d q n (λz=>i (g b z)) λz=>c (f b z),λ_ _ q n _ c=>u.any q n λz=>c (f _ z),λb d q n c=>u.free b d q n λz=>c (f b z),λb d q c=>u.there b d q λz=>c (f b z),u.tups,u.frzs,u.tbls⟩
end
def JT(h:aR)(H:Hp):List af:=(aW h.objs.size).filter λa=>(H a).isSome
def zt(h:aR)(H:Hp):aR:=PySem.W.hideAll h (JT h H)
def zcL(h:aR)(H:Hp):(zt h H).objs.size=h.objs.size:=PySem.W.hideAll_size _ _
def zfi(e:h.get? b=XE o)(n:H b=YP):(zt h H).get? b=XE o:=
 PySem.W.hideAll_get _ e λa=>by
  have q:=(bd.mp a).2;rw[n] at q;simp at q
def zia(e:(zt h H).get? b=XE o):h.get? b=XE o/\H b=YP:=by
 have a:=PySem.W.of_hideAll (JT h H) e;refine⟨a,?_⟩;cases q:H b with
 |none=>rfl
 | some x=>
  have c:b∈JT h H:=bd.mpr ⟨bz.mpr (aK a),by simp[q]⟩;have z:(zt h H).get? b=YP:=PySem.W.hideAll_none (JT h H) c;rw[z] at e;cases e
noncomputable def zj6(g h:aR)(L:af):List (af×Obj):=(aW h.objs.size).filterMap λa=>if a=L\/(g.get? a).isSome=Y1 then YP else (h.get? a).map λo=>(a,o)
def rest(g h:aR)(L d:af):List (af×Obj):=(zj6 g h L).filter λp=>decide (p.1≠d)
structure Mod(K:aj)(mg:au->Option ae)(base:aR):Prop where
 kin:K.In base
 glob:base.Ns bV mg
 blt:∃mb,base.Ns builtinsNs mb/\∀x:au,x ≠ "__name__"->mb x=bo x
 nolimit:base.NoLimit
structure Cx where
 prog:aJ
 w:aU
 K:aj
 mg:au->Option ae
 base:aR
 A:aX
 N:List au
 s₀:ag
 H₀:Hp
 env:Env
 outer:List Env
 stack:List Env
 ex:List af
 fn:au->Bool
 calm:Bool
 pn:List (af×Obj)
 xe:ae->ag->Prop
def rC(l:List Env):List af:=l.filterMap (·.frame)
abbrev Cx.fs(X:Cx):List af:=rC X.outer
def sD(sc:cf)(x:au):Prop:=sc.names.lookup x=XE .local\/sc.names.lookup x=XE .cell\/sc.names.lookup x=XE .free
def Loc(sc:cf)(x:au):Prop:=sc.names.lookup x=XE .local\/sc.names.lookup x=XE .cell
def X4(env:Env)(h:aR)(m:au->Option ae)(x:au)(u:ae):Prop:=
 (env.kindOf x=XE .local/\m x=XE u)\/((env.kindOf x=XE .cell\/env.kindOf x=XE .free)/\∃c,env.cells.lookup x=XE c/\h.IsCell c (XE u))
structure Cx.Ok(X:Cx):Prop where
 mod:Mod X.K X.mg X.base
 kind:X.env.scope.kind=.function
 glob:X.env.globals=bV
 blt:X.env.builtins=builtinsNs
 above:X.s₀.heap.objs.size<=X.env.locals
 inj:∀x y c,X.env.cells.lookup x=XE c->X.env.cells.lookup y=XE c->x=y
 has:∀x,(X.env.kindOf x=XE .cell\/X.env.kindOf x=XE .free)->∃c,X.env.cells.lookup x=XE c
 cab:∀x c,X.fn x=Y1->X.env.cells.lookup x=XE c->X.s₀.heap.objs.size<=c
 hd:X.calm=Y1->X.A.handled=YP
 frames:X.A.frames=XE X.stack
 stk:X.stack=X.outer\/(X.stack=X.env::X.outer/\X.env.frame=XE X.env.locals)
 exf:∀b∈X.ex,b≠X.env.locals/\∀x c,X.env.cells.lookup x=XE c->c≠b
 bs:∀b o,X.base.get? b=XE o->X.s₀.heap.get? b=XE o/\X.H₀ b=YP
 bsz:X.base.objs.size<=X.s₀.heap.objs.size
 noex:∀b o,X.base.get? b=XE o->b∉X.ex
 exfs:∀b∈X.ex,b∉X.fs
 funs:X.s₀.heap.FunFrames X.base X.outer
 frf:∀b∈X.fs,X.H₀ b=YP
structure Inv(X:Cx)(Xd:List (af×Obj))(σ:List (Option V))(H:Hp)(s:ag):Prop where
 ok:X.Ok
 os:s.os=X.s₀.os
 bare:gA s.gens
 base:Un X.fs X.ex X.H₀ H X.s₀.heap s.heap
 loc:∃m,s.heap.Ns X.env.locals m/\∀(i:Nat)(x:au)(v:V),X.N[i]?=XE x->σ[i]?=XE (XE v)->sD X.env.scope x->∃u,RelV v u/\X4 X.env s.heap m x u
 cell:∀x c,X.env.cells.lookup x=XE c->∃v,s.heap.IsCell c v
 free:H X.env.locals=YP
 freeC:∀x c,X.env.cells.lookup x=XE c->H c=YP
 pin:∀p∈X.pn++Xd,s.heap.get? p.1=XE p.2/\H p.1=YP/\p.1≠X.env.locals/\p.1∉X.fs/\∀v,p.2.data ≠ .cell v
 hok:HOk X.prog X.w H s.heap
 len:σ.length=X.N.length
 tk:0<s.toks
section
variable{X:Cx}{Xd:List (af×Obj)}{σ:List (Option V)}{H H':Hp}{s:ag}{h':aR}
def Cx.Ok.nofr(ok:X.Ok)(e:X.base.get? b=XE o):b∉X.fs:=λa=>by
 have:=(ok.funs.mem a).1;rw[e] at this;cases this
def Inv.bs(I:Inv X Xd σ H s):∀b o,X.base.get? b=XE o->s.heap.get? b=XE o/\H b=YP:=λb o e=>
 ⟨I.base.keep b o (I.ok.bs b o e).1 (I.ok.bs b o e).2 (I.ok.nofr e) (I.ok.noex b o e),I.base.free b o (I.ok.bs b o e).1 (I.ok.bs b o e).2 (I.ok.noex b o e)⟩
def Inv.bk(I:Inv X Xd σ H s):∀b o,X.base.get? b=XE o->s.heap.get? b=XE o:=λb o e=>(I.bs b o e).1
def Inv.mod(I:Inv X Xd σ H s):Mod X.K X.mg X.base:=I.ok.mod
def Inv.kIn(I:Inv X Xd σ H s):X.K.In s.heap:=I.ok.mod.kin.keeps I.bk
def Inv.nolimit(I:Inv X Xd σ H s):s.heap.NoLimit:=I.ok.mod.nolimit.keeps I.bk
def Inv.fr(I:Inv X Xd σ H s):∃m,Fr X.base X.env.locals s.heap m:=
 let ⟨m,hn,_⟩:=I.loc
 ⟨m,hn,I.bk,aG I.ok.bsz I.ok.above⟩
def Inv.lt(I:Inv X Xd σ H s):X.env.locals<s.heap.objs.size:=let ⟨_,hn,_⟩:=I.loc;hn.lt
def Inv.sz(I:Inv X Xd σ H s):X.s₀.heap.objs.size<=s.heap.objs.size:=aG I.ok.above (i8 I.lt)
def Inv.nofs(I:Inv X Xd σ H s)(h:s.heap.objs.size<=a):a∉X.fs:=λb=>by
 obtain⟨_,o,c,_⟩:=I.ok.funs.mem b;exact absurd (a9 (aK c) (aG I.sz h)) (cw _)
def Inv.cne(I:Inv X Xd σ H s):∀x c,X.env.cells.lookup x=XE c->c≠X.env.locals:=λx c e z=>by
 obtain⟨v,o,a,b⟩:=I.cell x c e;obtain⟨m,⟨g,h,i,d,f,_⟩,_⟩:=I.loc;rw[z,d] at a;cases a;rw[f] at b;cases b
def Inv.funs(I:Inv X Xd σ H s):s.heap.FunFrames X.base X.outer:=by
 have a:∀(l:List Env),(∀b∈rC l,b∈X.fs)->X.s₀.heap.FunFrames X.base l->s.heap.FunFrames X.base l:=by
  intro l
  induction l with
  |nil=>intro _ _;trivial
  | cons env r ih=>
   intro g h;obtain⟨i,⟨L,o,c,j,k,m⟩,n⟩:=h;have d:=g L (by unfold rC;rw[g9,c];exact av);obtain⟨p,e⟩:=I.base.slot L o k (I.ok.frf L d) d λz=>I.ok.exfs L z d;exact⟨i,⟨L,_,c,j,e,m⟩,ih (λb f=>g b (by unfold rC;rw[g9,c];exact al _ f)) n⟩
 exact a X.outer (λ_ f=>f) I.ok.funs
def Inv.stack(I:Inv X Xd σ H s):s.heap.FunFrames X.base X.stack:=by
 rcases I.ok.stk with e|⟨e,a⟩
 ·rw[e];exact I.funs
 ·rw[e];obtain⟨m,b,_⟩:=I.loc;refine .cons (by rw[I.ok.kind];decide) a b ?_ I.funs;exact i9 (aG I.ok.bsz I.ok.above)
def Inv.stkSub(I:Inv X Xd σ H s):∀b∈rC X.stack,b∈X.env.locals::X.fs:=λb a=>by
 rcases I.ok.stk with e|⟨e,c⟩
 ·rw[e] at a;exact al _ a
 ·rw[e] at a;unfold rC at a;rw[g9,c] at a;exact a
def Inv.stkFree(I:Inv X Xd σ H s):∀b∈rC X.stack,H b=YP:=λb hb=>by
 rcases ar.mp (I.stkSub b hb) with e|hb
 ·rw[e];exact I.free
 ·obtain⟨_,o,a,_⟩:=I.ok.funs.mem hb;exact I.base.free b o a (I.ok.frf b hb) λz=>I.ok.exfs b z hb
def Inv.step{Q:Array ng}{t':Nat}{d':Drawn}{ch:List af}(I:Inv X Xd σ H s)
  (C:∀b∈ch,(b∈X.ex\/X.s₀.heap.objs.size<=b)/\b≠X.env.locals/\(∀x c,X.env.cells.lookup x=XE c->c≠b)/\∀p∈X.pn++Xd,p.1≠b)
  (g:∀b o,b≠X.env.locals->b∉X.fs->b∉ch->s.heap.get? b=XE o->H b=YP->h'.get? b=XE o)
  (t:∀b o,b≠X.env.locals->b∈X.fs->b∉ch->s.heap.get? b=XE o->H b=YP->∃sl,h'.get? b=XE { o with slots:=sl }) (f:∀b o,b∉ch->s.heap.get? b=XE o->H b=YP->H' b=YP)
  (y:∀b o,b∉ch->s.heap.get? b=XE o->∃D,h'.get? b=XE D)
  (E:∀b xs,H b=XE (.tup xs)->H' b=XE (.tup xs)) (F:∀b o u,H b=XE (.frz o u)->H' b=XE (.frz o u)) (G:∀b M,H b=XE (.tbl M)->∃J,H' b=XE (.tbl (M++J)))
  (ns:∀m,s.heap.Ns X.env.locals m->h'.Ns X.env.locals m) (O:HOk X.prog X.w H' h') (Y:gA Q) (Z:0<t'):
  Inv X Xd σ H' { s with heap:=h',gens:=Q,drawn:=d',toks:=t' }:=by
 have R:∀b o,X.s₀.heap.get? b=XE o->b≠X.env.locals:=λb o e=>bq (a9 (aK e) I.ok.above);have N:∀b o,X.s₀.heap.get? b=XE o->b∉X.ex->b∉ch:=λb o e a A=>by
  rcases (C b A).1 with z|z
  ·exact a z
  ·exact absurd (a9 (aK e) z) (cw _)
 have h:∀x c,X.env.cells.lookup x=XE c->∀v,s.heap.IsCell c v->h'.IsCell c v:=λx c e v ⟨o,B,P⟩=>by
  have K:c∉ch:=λz=>(C c z).2.2.1 x c e rfl;by_cases S:c∈X.fs
  ·obtain⟨sl,q⟩:=t c o (I.cne x c e) S K B (I.freeC x c e);exact⟨_,q,P⟩
  ·exact⟨o,g c o (I.cne x c e) S K B (I.freeC x c e),P⟩
 refine⟨I.ok,I.os,Y,⟨λb o e n A a=>?_,λb o e n A a=>?_,λb o e n a=>?_,λb o e a=>?_,λb xs e=>E b xs (I.base.tups b xs e),λb o xs e=>F b o xs (I.base.frzs b o xs e),λb M e=>?_⟩,?_,λx c e=>?_,?_,λx c e=>?_,λp T=>?_,O,I.len,Z⟩
 ·exact g b o (R b o e) A (N b o e a) (I.base.keep b o e n A a) (I.base.free b o e n a)
 ·obtain⟨sl,j⟩:=I.base.slot b o e n A a;obtain⟨xU,L⟩:=t b _ (R b o e) A (N b o e a) j (I.base.free b o e n a);exact⟨xU,L⟩
 ·obtain⟨D,j⟩:=I.base.there b o e a;exact f b D (N b o e a) j (I.base.free b o e n a)
 ·obtain⟨D,j⟩:=I.base.there b o e a;exact y b D (N b o e a) j
 ·obtain⟨m1,j⟩:=I.base.tbls b M e;obtain⟨m2,L⟩:=G b _ j;exact⟨m1++m2,by rw[L,mo]⟩
 ·obtain⟨m,hn,hl⟩:=I.loc;refine⟨m,ns m hn,λi x v j L e3=>?_⟩;obtain⟨u,r,l⟩:=hl i x v j L e3;refine⟨u,r,?_⟩;rcases l with l|⟨k,c,e,z⟩
  ·exact .inl l
  ·exact .inr ⟨k,c,e,h x c e _ z⟩
 ·obtain⟨v,z⟩:=I.cell x c e;exact⟨v,h x c e v z⟩
 ·obtain⟨m,⟨o,_,_,B,_⟩,_⟩:=I.loc;exact f _ o (λz=>(C _ z).2.1 rfl) B I.free
 ·obtain⟨v,o,B,P⟩:=I.cell x c e;exact f c o (λz=>(C c z).2.2.1 x c e rfl) B (I.freeC x c e)
 ·obtain⟨e,n,U,W,d⟩:=I.pin p T;have K:p.1∉ch:=λz=>(C p.1 z).2.2.2 p T rfl;exact⟨g p.1 p.2 U W K e n,f p.1 p.2 K e n,U,W,d⟩
def Inv.un{t':Nat}(I:Inv X Xd σ H s)(u:Un X.fs [] H H' s.heap h')(a:HOk X.prog X.w H' h')(g:0<t':=by first|exact cN _|exact Inv.tk ‹_›|assumption|lia):Inv X Xd σ H' { s with heap:=h',toks:=t' }:=by
 obtain⟨m,⟨o,p,q,d,r⟩,_⟩:=id I.loc;obtain⟨t,h⟩:=u.any d I.free 'd';exact I.step (ch:=[]) (λ_ z=>nomatch z) (λb o _ c _ e n=>u.keep b o e n c 'd') (λb o _ c _ e n=>u.slot b o e n c 'd') (λb o _ e n=>u.free b o e n 'd') (λb o _ e=>u.there b o e 'd') u.tups u.frzs u.tbls (λv i=>by
  obtain⟨x,j,k,f,l⟩:=i;rw[d] at f;cases f;exact⟨_,j,k,h,l⟩) a I.bare g
def Inv.call{g:Array ng}{t':Nat}{d':Drawn}{ch:List af}(I:Inv X Xd σ H s)(u:Un (rC X.stack) ch H H' s.heap h')(d:HOk X.prog X.w H' h')(k:gA g)
  (h:∀b∈ch,(b∈X.ex\/X.s₀.heap.objs.size<=b)/\b≠X.env.locals/\(∀x c,X.env.cells.lookup x=XE c->c≠b)/\∀p∈X.pn++Xd,p.1≠b) (l:0<t':=by first|exact cN _|exact Inv.tk ‹_›|assumption|lia):
  Inv X Xd σ H' { s with heap:=h',gens:=g,drawn:=d',toks:=t' }:=by
 obtain⟨m,⟨o,B,C,i,r⟩,_⟩:=id I.loc;obtain⟨D,f⟩:=u.any i I.free λz=>(h _ z).2.1 rfl;exact I.step h (λb o f q a e n=>u.keep b o e n (λz=>(ar.mp (I.stkSub b z)).elim f q) a) (λb o _ _ a e n=>u.any e n a) (λb o a e n=>u.free b o e n a) (λb o a e=>u.there b o e a) u.tups u.frzs u.tbls (λE t=>by
  obtain⟨F,v,y,j,A⟩:=t;rw[i] at j;cases j;exact⟨_,v,y,f,A⟩) d k l
def Inv.turned{t':Nat}{it:af}(I:Inv X Xd σ H s)(k:∀b o,b≠it->s.heap.get? b=XE o->h'.get? b=XE o)(g:H it=YP)(d:it≠X.env.locals)
  (h:it∈X.ex\/X.s₀.heap.objs.size<=it) (i:∀x c,X.env.cells.lookup x=XE c->c≠it) (j:∀p∈X.pn++Xd,p.1≠it) (l:0<t':=by first|exact cN _|exact Inv.tk ‹_›|assumption|lia):Inv X Xd σ H { s with heap:=h',toks:=t' }:=by
 have f:∀b u,H b=XE u->b≠it:=λb u e z=>by rw[z,g] at e;cases e
 refine I.step (ch:=[it]) (λb t=>?_) (λb o _ _ a e _=>k b o (λz=>a (by simp[z])) e) (λb o _ _ a e _=>⟨o.slots,k b o (λz=>a (by simp[z])) e⟩) (λ_ _ _ _ n=>n)
  (λb o a e=>⟨o,k b o (λz=>a (by simp[z])) e⟩) (λ_ _ e=>e) (λ_ _ _ e=>e) (λb C e=>⟨#[],by rw[e];simp⟩) (λm w=>?_) (λb u e=>?_) I.bare l
 ·have e:b=it:=⇑t
  subst e;exact⟨h,d,i,j⟩
 ·obtain⟨o,y,A,B,r⟩:=w;exact⟨o,y,A,k _ o (bw d) B,r⟩
 ·refine(I.hok b u e).stay (λc v a q=>k c v ?_ q) (λ_ q=>q) λ_ _ q=>q;rcases a with z|z
  ·rw[z];exact f b u e
  ·exact f c _ z
def Inv.tok(I:Inv X Xd σ H s)(t:Nat)(a:0<t:=by first|exact cN _|exact Inv.tk ‹_›|assumption|lia):Inv X Xd σ H { s with toks:=t }:=I.un Un.refl I.hok
def Inv.kept(I:Inv X Xd σ H s)(k:∀b u,s.heap.get? b=XE u->h'.get? b=XE u)(a:0<t':=by first|exact cN _|exact Inv.tk ‹_›|assumption|lia):Inv X Xd σ H { s with heap:=h',toks:=t' }:=I.un (Un.kept k) (I.hok.kept k)
def Inv.laid{a:af}{o:HO}{t':Nat}(I:Inv X Xd σ H s)(k:∀b u,s.heap.get? b=XE u->h'.get? b=XE u)(c:s.heap.objs.size<=a)(d:oR X.prog X.w (upd H a o) h' a o)(e:0<t':=by first|exact cN _|exact Inv.tk ‹_›|assumption|lia):
  Inv X Xd σ (upd H a o) { s with heap:=h',toks:=t' }:=I.un (Un.laid k c (I.hok.fresh c)) (I.hok.laid k c d)
def Inv.write(I:Inv X Xd σ H s)(c:Hj (H x))(d:e=x\/H e=XE (.own x))(k:∀b u,b≠e->s.heap.get? b=XE u->h'.get? b=XE u)(f:∃u,h'.get? e=XE u)
  (a:oR X.prog X.w (upd H x o) h' x o) (g:0<t':=by first|exact cN _|exact Inv.tk ‹_›|assumption|lia):Inv X Xd σ (upd H x o) { s with heap:=h',toks:=t' }:=I.un (Un.write c d k f) (I.hok.write c d k f a)
def Inv.weak(I:Inv X Xd σ H s)(a:σ'.length=σ.length)(w:∀(i:Nat)v,σ'[i]?=XE (XE v)->σ[i]?=XE (XE v)):Inv X Xd σ' H s:=
 ⟨I.ok,I.os,I.bare,I.base,let ⟨m,hn,xZ⟩:=I.loc;⟨m,hn,λi x v b c d=>xZ i x v b (w i v c) d⟩,I.cell,I.free,I.freeC,I.pin,I.hok,a.trans I.len,I.tk⟩
def Inv.pins_of(I:Inv X Xd σ H s)(h:∀p∈F2,s.heap.get? p.1=XE p.2/\H p.1=YP/\p.1≠X.env.locals/\p.1∉X.fs/\∀v,p.2.data ≠ .cell v):Inv X F2 σ H s:=
 ⟨I.ok,I.os,I.bare,I.base,I.loc,I.cell,I.free,I.freeC,λp a=>(aQ.mp a).elim (λz=>I.pin p (bS _ z)) (h p),I.hok,I.len,I.tk⟩
def L6{N:List au}(c:N.Nodup){i j:Nat}{x:au}(a:N[i]?=XE x)(b:N[j]?=XE x):i=j:=by obtain⟨f,d⟩:=ak.mp a;obtain⟨g,e⟩:=ak.mp b;exact(km c).mp (d.trans e.symm)
def Mt{M:iu}{A:aX}{E:ae->ag->Prop}{i:Nat}{x:au}{v:V}{u:ae}{Q:Unit->ag->Prop}(I:Inv X Xd σ H s)(hN:X.N.Nodup)(G:X.N[i]?=XE x)(t:Loc X.env.scope x)(r:RelV v u)
  (h:∀s',Inv X Xd (σ.set i (XE v)) H s'->(∃a,d6 a s.heap s'.heap/\(a=X.env.locals\/X.env.cells.lookup x=XE a))->Q () s') (hf:X.fn x=Y1\/X.env.scope.names.lookup x=XE .local:=by first|exact .inl rfl|exact .inr rfl|assumption):aq M A (storeName X.env x u) Q E s:=by
 obtain⟨m,O,hl⟩:=id I.loc;have zm:(X.env.scope.kind == .class||(X.env.scope.kind == .module&&X.env.locals !=X.env.globals))=Y2:=by rw[I.ok.kind];rfl
 have GJ:i<σ.length:=by rw[I.len];exact(ak.mp G).1
 have C:=I.cne;have g:∀{a:af}{h':aR},(∃o,s.heap.get? a=XE o/\H a=YP)->d6 a s.heap h'->HOk X.prog X.w H h':=λ{a h'}ha f b ob e=>by
  obtain⟨_,_,qg⟩:=ha;refine(I.hok b ob e).stay (λc J hc q=>(f.2 c ?_).trans q) (λ_ q=>q) λ_ _ q=>q;rintro rfl;rcases hc with rfl|hc
  ·rw[qg] at e;cases e
  ·rw[qg] at hc;cases hc
 rcases t with hk|hk
 ·refine wpAny_storeName_local hk O (λh' AX f=>?_) zm;obtain⟨oL,_,_,P,_⟩:=id O;refine h _ ⟨I.ok,I.os,I.bare,⟨λb o e n D t=>?_,λb o e n D t=>?_,I.base.free,λb o e t=>?_,I.base.tups,I.base.frzs,I.base.tbls⟩,⟨_,AX,λj y R l B S=>?_⟩,λy c e=>?_,I.free,I.freeC,λp T=>?_,g ⟨oL,P,I.free⟩ f,by simpa using I.len,cN _⟩ ⟨_,f,.inl rfl⟩
  ·exact(f.2 b (bq (a9 (aK e) I.ok.above))).trans (I.base.keep b o e n D t)
  ·obtain⟨U,l⟩:=I.base.slot b o e n D t;exact⟨U,(f.2 b (bq (a9 (aK e) I.ok.above))).trans l⟩
  ·obtain⟨W,l⟩:=I.base.there b o e t;exact⟨W,(f.2 b (bq (a9 (aK e) I.ok.above))).trans l⟩
  ·by_cases F:j=i
   ·subst F;rw[G] at l;cases l;rw[aY GJ] at B;cases B;exact⟨u,r,.inl ⟨hk,by simp⟩⟩
   ·rw[aZ (bw F)] at B;obtain⟨Y,Z,q⟩:=hl j y R l B S;refine⟨Y,Z,?_⟩;rcases q with⟨k,e⟩|⟨k,c,e,z⟩
    ·refine .inl ⟨k,?_⟩;have:y≠x:=λe=>F (L6 hN l (e▸G));simp[this,e]
    ·exact .inr ⟨k,c,e,z.sameBut f (C y c e)⟩
  ·obtain⟨J,z⟩:=I.cell y c e;exact⟨J,z.sameBut f (C y c e)⟩
  ·obtain⟨e,n,K,nf,d⟩:=I.pin p T;exact⟨(f.2 p.1 K).trans e,n,K,nf,d⟩
 ·have EN:X.fn x=Y1:=by
   rcases hf with z|z
   ·exact z
   ·rw[z] at hk;cases hk
  obtain⟨c,hc⟩:=I.ok.has x (.inl hk);obtain⟨J,z⟩:=I.cell x c hc;refine wpAny_storeName_cell I.ok.kind hk hc z (λh' xy f=>?_);obtain⟨oc,BH,N6⟩:=id z;refine h { s with heap:=h' } ⟨I.ok,I.os,I.bare,⟨λb o e n D t=>?_,λb o e n D t=>?_,I.base.free,λb o e t=>?_,I.base.tups,I.base.frzs,I.base.tbls⟩,⟨m,O.sameBut f (bw (C x c hc)),λj y R l B S=>?_⟩,λy L e=>?_,I.free,I.freeC,λp T=>?_,g ⟨oc,BH,I.freeC x c hc⟩ f,by simpa using I.len,I.tk⟩ ⟨c,f,.inr hc⟩
  ·exact(f.2 b (bq (a9 (aK e) (I.ok.cab x c EN hc)))).trans (I.base.keep b o e n D t)
  ·obtain⟨U,l⟩:=I.base.slot b o e n D t;exact⟨U,(f.2 b (bq (a9 (aK e) (I.ok.cab x c EN hc)))).trans l⟩
  ·obtain⟨W,l⟩:=I.base.there b o e t;exact⟨W,(f.2 b (bq (a9 (aK e) (I.ok.cab x c EN hc)))).trans l⟩
  ·by_cases F:j=i
   ·subst F;rw[G] at l;cases l;rw[aY GJ] at B;cases B;exact⟨u,r,.inr ⟨.inl hk,c,hc,xy⟩⟩
   ·rw[aZ (bw F)] at B;obtain⟨Y,Z,q⟩:=hl j y R l B S;refine⟨Y,Z,?_⟩;rcases q with q|⟨k,L,e,z'⟩
    ·exact .inl q
    ·refine .inr ⟨k,L,e,z'.sameBut f ?_⟩;rintro rfl;exact F (L6 hN l (I.ok.inj _ _ _ e hc▸G))
  ·by_cases uJ:L=c
   ·subst uJ;exact⟨_,xy⟩
   ·obtain⟨w2,z2⟩:=I.cell y L e;exact⟨w2,z2.sameBut f uJ⟩
  ·obtain⟨e,n,K,nf,d⟩:=I.pin p T;refine⟨(f.2 p.1 ?_).trans e,n,K,nf,d⟩;intro q;rw[q,BH] at e;have q':=cA e;exact d J (by rw[<- q'];exact N6)
def Cg(I:Inv X Xd σ H s)(a:X.N.Nodup)(b:X.N[i]?=XE x)(c:Loc X.env.scope x)(r:RelV v u)
  (h:∀s',Inv X Xd (σ.set i (XE v)) H s'->Q () s') (d:X.fn x=Y1\/X.env.scope.names.lookup x=XE .local:=by first|exact .inl rfl|exact .inr rfl|assumption):aq M A (storeName X.env x u) Q E s:=
 Mt I a b c r (λs' e _=>h s' e) d
def Inv.call'(I:Inv X Xd σ H s)(d:s'.os=s.os)(u:Un (rC X.stack) ch H H' s.heap s'.heap)(a:HOk X.prog X.w H' s'.heap)(f:gA s'.gens)
  (g:∀b∈ch,(b∈X.ex\/X.s₀.heap.objs.size<=b)/\b≠X.env.locals/\(∀x c,X.env.cells.lookup x=XE c->c≠b)/\∀p∈X.pn++Xd,p.1≠b) (h:0<s'.toks:=by first|exact cN _|exact Inv.tk ‹_›|assumption|lia):Inv X Xd σ H' s':=by obtain⟨h',i,j,k,l⟩:=s';have e:=d;subst e;exact I.call u a f g
end
abbrev XK:=ae->Option af->Hp->Prop
abbrev St:=List (Option V)
abbrev VK:=V->Hp->Prop
abbrev TE:=St->Hp->VK->Prop
abbrev TT:=St->Hp->(Bool->Hp->Prop)->Prop
abbrev TA:=St->Hp->(List V->Hp->Prop)->Prop
structure yE where
 nx:St->Hp->Prop
 rt:VK
 bk:St->Hp->Prop:=λ_ _=>False
 ct:St->Hp->Prop:=λ_ _=>False
abbrev TS:=yE->St->Hp->Prop
def EP(X:Cx)(Xd:List (af×Obj))(σ:St)(Q:VK)(u:ae)(s':ag):Prop:=∃v H',Inv X Xd σ H' s'/\RelV v u/\Q v H'
def TP(X:Cx)(Xd:List (af×Obj))(σ:St)(Q:Bool->Hp->Prop)(b:Bool)(s':ag):Prop:=∃H',Inv X Xd σ H' s'/\Q b H'
def AP(X:Cx)(Xd:List (af×Obj))(σ:St)(Q:List V->Hp->Prop)(us:List ae)(s':ag):Prop:=∃vs H',Inv X Xd σ H' s'/\oE vs us/\Q vs H'
def SP(X:Cx)(Xd:List (af×Obj))(D:yE)(f:Flow)(s':ag):Prop:=
 match f with
 |.next=>∃σ' H',Inv X Xd σ' H' s'/\D.nx σ' H'
 |.brk=>∃σ' H',Inv X Xd σ' H' s'/\D.bk σ' H'
 |.cont=>∃σ' H',Inv X Xd σ' H' s'/\D.ct σ' H'
 |.ret u=>∃v σ' H',Inv X Xd σ' H' s'/\RelV v u/\D.rt v H'
def PE(X:Cx)(e:aS)(t:TE):Prop:=
 ∀(Xd:List (af×Obj))(s:ag)(σ:St)(H:Hp)(Q:VK),Inv X Xd σ H s->t σ H Q->aq (ax X.prog X.w) X.A (eval e X.env) (EP X Xd σ Q) X.xe s
def PT(X:Cx)(e:aS)(t:TT):Prop:=
 ∀(Xd:List (af×Obj))(s:ag)(σ:St)(H:Hp)(Q:Bool->Hp->Prop),Inv X Xd σ H s->t σ H Q->aq (ax X.prog X.w) X.A (isTrue e X.env (eval e X.env)) (TP X Xd σ Q) X.xe s
def PW(X:Cx)(e:aS)(t:TT):Prop:=
 ∀(whole:Sem ae)(Xd:List (af×Obj))(s:ag)(σ:St)(H:Hp)(Q:Bool->Hp->Prop),Inv X Xd σ H s->t σ H Q->aq (ax X.prog X.w) X.A (isTrue e X.env whole) (TP X Xd σ Q) X.xe s
def PW.pt(h:PW X e t):PT X e t:=h _
def PA(X:Cx)(es:List aS)(t:TA):Prop:=
 ∀(pos:Pos)(Xd:List (af×Obj))(s:ag)(σ:St)(H:Hp)(Q:List V->Hp->Prop),Inv X Xd σ H s->t σ H Q->aq (ax X.prog X.w) X.A (spliced (backTo pos (aF es X.env))) (AP X Xd σ Q) X.xe s
def PS(X:Cx)(st:cT)(t:TS):Prop:=
 ∀(Xd:List (af×Obj))(s:ag)(σ:St)(H:Hp)(D:yE),Inv X Xd σ H s->t D σ H->aq (ax X.prog X.w) X.A (exec st X.env) (SP X Xd D) X.xe s
def sE(X:Cx)(st:List cT)(t:TS):Prop:=
 ∀(Xd:List (af×Obj))(s:ag)(σ:St)(H:Hp)(D:yE),Inv X Xd σ H s->t D σ H->aq (ax X.prog X.w) X.A (execs st X.env) (SP X Xd D) X.xe s
def pS{α:Type}{t:Sem α}{Q b:α->ag->Prop}{M:iu}{A:aX}{E:ae->ag->Prop}{s:ag}(h:aq M A t Q E s)(c:∀a s,Q a s->b a s):aq M A t b E s:=ci h c λ_ _ x=>x
section
variable{X:Cx}
def bin{a b:aS}{i j:TE}(k:PE X a i)(l:PE X b j){c:List (af×Obj)}{s:ag}{σ:St}{H:Hp}{R:V->V->Hp->Prop}(I:Inv X c σ H s)(h:i σ H λx g=>j σ g λy d=>R x y d)
  {α:Type} {Q:α->ag->Prop} {f:ae->ae->Sem α}
  (m:∀v u e x y d,Inv X c σ d e->RelV x v->RelV y u->R x y d->aq (ax X.prog X.w) X.A (f v u) Q X.xe e):
  aq (ax X.prog X.w) X.A (eval a X.env) (λv n=>aq (ax X.prog X.w) X.A (eval b X.env) (λu o=>aq (ax X.prog X.w) X.A (f v u) Q X.xe o) X.xe n) X.xe s:=by refine pS (k c s σ H _ I h) λv p ⟨x,g,q,r,t⟩=>?_;refine pS (l c p σ g _ q t) λu e ⟨y,d,z,B,C⟩=>?_;exact m v u e x y d z r B C
def KQ(i:Nat):TE:=λσ H Q=>∃v,σ[i]?=XE (XE v)/\Q v H
def tC(v:V):TE:=λ_ H Q=>Q v H
abbrev rH(x:au):Prop:=(x==("__debug__":au))=Y2
def IH(j:X.N[i]?=XE x)(k:sD X.env.scope x)(d:rH x:=by decide)(n:(x==("__classdict__":au))=Y2:=by decide):PE X (.Name x pos) (KQ i):=by
 intro b s o H Q I h;obtain⟨v,e,h⟩:=h;obtain⟨m,p,q⟩:=I.loc;obtain⟨u,r,l⟩:=q i x v j e k;have a:EP X b o Q u s:=⟨v,H,I,r,h⟩;rcases l with⟨hk,t⟩|⟨hk,c,f,g⟩
 ·exact ja (jb I.ok.kind hk p t a) d
 ·rcases hk with hk|hk
  ·exact ja (jp I.ok.kind hk f g a) d
  ·exact ja (md I.ok.kind hk f g a n) d
def QG:PE X (.Constant (.int i) j pos) (tC (.int i)):=λ_ _ _ H _ I h=>wpAny_Constant_int ⟨.int i,H,I.tok _,⟨_,rfl⟩,h⟩
def YR:PE X (.Constant (.bool b) j pos) (tC (.bl b)):=λ_ _ _ H _ I h=>Constant_bool ⟨.bl b,H,I,rfl,h⟩
def Lo:PE X (.Constant .none j pos) (tC .non):=λ_ _ _ H _ I h=>Constant_none ⟨.non,H,I,rfl,h⟩
def Rh:PE X (.Constant (.str x) j pos) (tC (.str x)):=λ_ _ _ H _ I h=>Calls.Constant_str ⟨.str x,H,I.tok _,⟨_,rfl⟩,h⟩
def Gl(X:Cx)(x:au):Prop:=X.env.kindOf x=XE .globalImplicit
def Fq(I:Inv X Xd σ H s)(a:Gl X x)(b:X.mg x=XE u)(h:Q u s)
  (c:rH x:=by decide):aq (ax X.prog X.w) X.A (eval (.Name x pos) X.env) Q E s:=
 jT I.ok.kind a (Calls.loadGlobal_global (by rw[I.ok.glob];exact I.mod.glob.keeps I.bk) b h) c
def Bk(I:Inv X Xd σ H s)(a:Gl X x)(b:X.mg x=YP)(c:bo x=XE u)(h:Q u s)
  (d:x ≠ "__name__":=by decide) (e:rH x:=by decide):aq (ax X.prog X.w) X.A (eval (.Name x pos) X.env) Q E s:=by obtain⟨i,f,g⟩:=I.mod.blt;exact jT I.ok.kind a (Calls.loadGlobal_builtin (by rw[I.ok.glob];exact I.mod.glob.keeps I.bk) b (by rw[I.ok.blt];exact f.keeps I.bk) ((g x d).trans c) h) e
def IL(a:Gl X x)(b:X.mg x=XE u)(r:RelV v u)(c:rH x:=by decide):PE X (.Name x pos) (tC v):=
 λ_ _ _ H _ I h=>Fq I a b ⟨v,H,I,r,h⟩ c
def IV(a:Gl X x)(b:X.mg x=YP)(c:bo x=XE u)(r:RelV v u)(d:x ≠ "__name__":=by decide)(e:rH x:=by decide):PE X (.Name x pos) (tC v):=
 λ_ _ _ H _ I h=>Bk I a b c ⟨v,H,I,r,h⟩ d e
variable{a b:aS}{ta tb:TE}{pos:Pos}
def PC(X:Cx)(op:CmpOp)(a b:aS)(t:TE):Prop:=
 ∀(Xd:List (af×Obj))(s:ag)(σ:St)(H:Hp)(Q:VK),Inv X Xd σ H s->t σ H Q->
  aq (ax X.prog X.w) X.A (eval a X.env) (λv pK=>aq (ax X.prog X.w) X.A (eval b X.env) (λu tK=>aq (ax X.prog X.w) X.A (cy op v u) (EP X Xd σ Q) X.xe tK) X.xe pK) X.xe s
def Uw(b:aS)(h:op ≠ .In)(c:op ≠ .NotIn):behindInMarks op b=Y2:=by
 have d:(op==CmpOp.In)=Y2:=by cases op<;>first|rfl|exact absurd rfl h
 have e:(op==CmpOp.NotIn)=Y2:=by cases op<;>first|rfl|exact absurd rfl c
 cases b<;>simp[behindInMarks,d,e]
def tB(t:TE):TT:=λσ H Q=>t σ H λx H1=>∃c,x=.bl c/\Q c H1
def Zj(h:PC X op a b t)(d:behindInMarks op b=Y2:=by first|exact Uw _ 's' 's'|rfl):PE X (.Compare a [op] [b] pos) t:=λc s e H Q I f=>wpAny_Compare1 (h c s e H Q I f) d
def zkY{op:CmpOp}{t:TE}(h:PC X op a b t)(f:behindInMarks op b=Y2:=by first|exact Uw _ 's' 's'|rfl):PT X (.Compare a [op] [b] pos) (tB t):=by intro e s g H Q I i;refine lj (pS (h e s g H _ I i) λv o f=>pS f λu p j=>pS j λc r ⟨x,k,l,m,n⟩=>?_) f;obtain⟨d,rfl,q⟩:=n;cases m;exact cQ ⟨k,l,q⟩
variable{tA JW:TT}{rest:List aS}
def X2(t u:TT):TT:=λσ H Q=>t σ H λc H1=>if c=Y1 then u σ H1 Q else Q Y2 H1
def tOr(t u:TT):TT:=λσ H Q=>t σ H λc H1=>if c=Y1 then Q Y1 H1 else u σ H1 Q
def XT(t:TT):TT:=λσ H Q=>t σ H λc H1=>Q (!c) H1
def zhy(f:PT X a tA):PW X (.BoolOp .And [a] pos) tA:=by
 intro i d s g H Q I h;refine isTrue_and (pS (f d s g H Q I h) λc j e=>?_);cases c with
 |true=>exact isTrue_and_nil e
 |false=>exact e
def YT(f:PT X a tA):PW X (.BoolOp .Or [a] pos) tA:=by
 intro i d s g H Q I h;refine isTrue_or (pS (f d s g H Q I h) λc j e=>?_);cases c with
 |false=>exact isTrue_or_nil e
 |true=>exact e
def zk9(j:PT X a tA)(k:PW X (.BoolOp .And (b::rest) pos) JW):PW X (.BoolOp .And (a::b::rest) pos) (X2 tA JW):=by
 intro l d s e H Q I h;refine isTrue_and (pS (j d s e H _ I h) λc m ⟨f,g,i⟩=>?_);cases c with
 |true=>exact k l d m e f Q g i
 |false=>exact⟨f,g,i⟩
def Yx(j:PT X a tA)(k:PW X (.BoolOp .Or (b::rest) pos) JW):PW X (.BoolOp .Or (a::b::rest) pos) (tOr tA JW):=by
 intro l d s e H Q I h;refine isTrue_or (pS (j d s e H _ I h) λc m ⟨f,g,i⟩=>?_);cases c with
 |true=>exact⟨f,g,i⟩
 |false=>exact k l d m e f Q g i
def Z0(e:PT X a tA):PT X (.UnaryOp .Not a pos) (XT tA):=by intro d s f H Q I h;exact isTrue_not (e d s f H (λc g=>Q (!c) g) I h)
def YK(ta tb:TE):TE:=λσ H Q=>ta σ H λx H1=>∃c,x=.bl c/\if c=Y1 then tb σ H1 Q else Q (.bl Y2) H1
def XZ(ta tb:TE):TE:=λσ H Q=>ta σ H λx H1=>∃c,x=.bl c/\if c=Y1 then Q (.bl Y1) H1 else tb σ H1 Q
def Za(ta:TE):TE:=λσ H Q=>ta σ H λx H1=>∃c,x=.bl c/\Q (.bl (!c)) H1
def Y5(h:PE X a t):PE X (.BoolOp op [a] pos) t:=λc s d H Q I e=>BoolOp_one (h c s d H Q I e)
def Z_(j:PE X a ta)(k:PE X (.BoolOp .And (b::rest) pos) tb):PE X (.BoolOp .And (a::b::rest) pos) (YK ta tb):=by
 intro d s f H Q I h;refine BoolOp_and (pS (j d s f H _ I h) λv l ⟨x,g,i,m,e⟩=>?_);obtain⟨c,rfl,e⟩:=e;cases m;refine cQ ?_;cases c with
 |true=>exact k d l f g Q i e
 |false=>exact⟨.bl Y2,g,i,rfl,e⟩
def Yz(j:PE X a ta)(k:PE X (.BoolOp .Or (b::rest) pos) tb):PE X (.BoolOp .Or (a::b::rest) pos) (XZ ta tb):=by
 intro d s f H Q I h;refine BoolOp_or (pS (j d s f H _ I h) λv l ⟨x,g,i,m,e⟩=>?_);obtain⟨c,rfl,e⟩:=e;cases m;refine cQ ?_;cases c with
 |false=>exact k d l f g Q i e
 |true=>exact⟨.bl Y1,g,i,rfl,e⟩
def Zs(f:PE X a ta):PE X (.UnaryOp .Not a pos) (Za ta):=by intro d s g H Q I h;refine UnaryOp_ (pS (f d s g H _ I h) λv l ⟨x,i,j,k,e⟩=>?_);obtain⟨c,rfl,e⟩:=e;cases k;exact not_of (cQ ⟨.bl (!c),i,j,rfl,e⟩)
def tIf(t:TT)(ta tb:TE):TE:=λσ H Q=>t σ H λc H1=>if c=Y1 then ta σ H1 Q else tb σ H1 Q
def zfN{c:aS}(l:PT X c tA)(m:PE X a ta)(n:PE X b tb):PE X (.IfExp c a b pos) (tIf tA ta tb):=by
 intro e s f H Q I h;refine wpAny_IfExp (pS (l e s f H _ I h) λd g ⟨i,j,k⟩=>?_);cases d with
 |true=>exact m e g f i Q j k
 |false=>exact n e g f i Q j k
end
def qY(K:aj)(H:Hp)(a:af)(xs:List V):Prop:=
 Rd H a (.lst xs) \/
  ∃(o:Obj)(e_:Array ae)(n:Nat),K.lookup a=XE o/\o.cls=.type "list"/\o.dict=YP/\o.data=.seq e_ n/\e_.size<=J8/\oE xs e_.toList
def rW(K:aj)(H:Hp)(a:af)(xs:List V):Prop:=
 Rd H a (.tup xs) \/
  ∃(o:Obj)(e_:Array ae)(n:Nat),K.lookup a=XE o/\o.cls=.type "tuple"/\o.data=.seq e_ n/\e_.size<=J8/\oE xs e_.toList
def XO:ae->Option V
 |.none=>XE .non
 |.bool b=>XE (.bl b)
 |.int i _=>XE (.int i)
 |.str x _=>XE (.str x)
 |.bytes b _=>XE (.byt b)
 |.float b _=>XE (.flt b)
 |.ref a=>XE (.ref a)
 |.type n=>XE (.ty n)
 |_=>YP
def RelV.abs(r:RelV x u):XO u=XE x:=by
 cases x with
 |non=>cases r;rfl
 |bl _=>cases r;rfl
 |int _=>obtain⟨t,rfl⟩:=r;rfl
 |str _=>obtain⟨t,rfl⟩:=r;rfl
 |byt _=>obtain⟨t,rfl⟩:=r;rfl
 |flt _=>obtain⟨t,rfl⟩:=r;rfl
 |ref _=>cases r;rfl
 |ty _=>cases r;rfl
def RelV.inj(r:RelV x u)(q:RelV y u):x=y:=cA (r.abs.symm.trans q.abs)
theorem oE.inj:∀{xs a:List V}{b:List ae},oE xs b->oE a b->xs=a
 |_,_,_,.nil,.nil=>rfl
 |_,_,_,.cons r t,.cons r' t'=>by rw[r.inj r',oE.inj t t']
section
variable{X:Cx}{Xd:List (af×Obj)}{σ:St}{H:Hp}{s:ag}{a:af}{xs ys:List V}
def qY.of{K:aj}(h:H a=XE (.lst xs)):qY K H a xs:=.inl (.inl h)
def rW.of{K:aj}(h:H a=XE (.tup xs)):rW K H a xs:=.inl (.inl h)
def Inv.list(I:Inv X Xd σ H s)(h:qY X.K H a xs):∃b:List ae,oE xs b/\PlainL s.heap a b.toArray/\xs.length<=J8:=by
 rcases h with h|⟨o,b,n,c,d,f,g,i,r⟩
 ·obtain⟨z,b,n,r,e⟩:=h.ok I.hok;exact⟨b,r,⟨_,n,e,rfl,rfl,rfl⟩,z⟩
 ·refine⟨b.toList,r,⟨o,n,I.kIn a o c,d,f,by simpa using g⟩,?_⟩;have e:=r.length;simp at e;lia
def Inv.tuple(I:Inv X Xd σ H s)(h:rW X.K H a xs):∃b:List ae,oE xs b/\IsTup s.heap a b.toArray/\xs.length<=J8:=by
 rcases h with h|⟨o,b,n,c,d,f,g,r⟩
 ·obtain⟨z,b,r,p⟩:=h.ok I.hok;exact⟨b,r,p.tup,z⟩
 ·refine⟨b.toList,r,⟨o,I.kIn a o c,d,n,by simpa using f⟩,?_⟩;have e:=r.length;simp at e;lia
def Inv.list_inj(I:Inv X Xd σ H s)(h:qY X.K H a xs)(h':qY X.K H a ys):xs=ys:=by
 obtain⟨f,r,⟨o,n,e,_,_,d⟩,_⟩:=I.list h;obtain⟨g,i,⟨j,k,b,_,_,c⟩,_⟩:=I.list h';rw[e] at b;cases b;rw[d] at c;injection c with d1 _;have:f=g:=by simpa using congrArg mr d1
 subst this;exact r.inj i
def Inv.tuple_inj(I:Inv X Xd σ H s)(h:rW X.K H a xs)(h':rW X.K H a ys):xs=ys:=by
 obtain⟨f,r,⟨o,e,_,n,d⟩,_⟩:=I.tuple h;obtain⟨g,i,⟨j,b,_,k,c⟩,_⟩:=I.tuple h';rw[e] at b;cases b;rw[d] at c;injection c with d1 _;have:f=g:=by simpa using congrArg mr d1
 subst this;exact r.inj i
end
abbrev Cx.wish(X:Cx)(E:ae->ag->Prop):Cx:={ X with xe:=E }
abbrev Cx.nox(X:Cx):Cx:=X.wish λ_ _=>False
def Cx.Ok.wish{X:Cx}(ok:X.Ok)(E:ae->ag->Prop):(X.wish E).Ok:=
 ⟨ok.mod,ok.kind,ok.glob,ok.blt,ok.above,ok.inj,ok.has,ok.cab,ok.hd,ok.frames,ok.stk,ok.exf,ok.bs,ok.bsz,ok.noex,ok.exfs,ok.funs,ok.frf⟩
def Cx.Ok.unwish{X:Cx}{E:ae->ag->Prop}(ok:(X.wish E).Ok):X.Ok:=
 ⟨ok.mod,ok.kind,ok.glob,ok.blt,ok.above,ok.inj,ok.has,ok.cab,ok.hd,ok.frames,ok.stk,ok.exf,ok.bs,ok.bsz,ok.noex,ok.exfs,ok.funs,ok.frf⟩
section
variable{X:Cx}{Xd:List (af×Obj)}{σ:St}{H:Hp}{s:ag}{E:ae->ag->Prop}
def Inv.wish(I:Inv X Xd σ H s)(E:ae->ag->Prop):Inv (X.wish E) Xd σ H s:=⟨I.ok.wish E,I.os,I.bare,I.base,I.loc,I.cell,I.free,I.freeC,I.pin,I.hok,I.len,I.tk⟩
def Inv.unwish(I:Inv (X.wish E) Xd σ H s):Inv X Xd σ H s:=⟨I.ok.unwish,I.os,I.bare,I.base,I.loc,I.cell,I.free,I.freeC,I.pin,I.hok,I.len,I.tk⟩
def SP.unwish{D:yE}{f:Flow}{s':ag}(h:SP (X.wish E) Xd D f s'):SP X Xd D f s':=by
 cases f with
 |next=>obtain⟨a,b,I,q⟩:=h;exact⟨a,b,I.unwish,q⟩
 |brk=>obtain⟨a,b,I,q⟩:=h;exact⟨a,b,I.unwish,q⟩
 |cont=>obtain⟨a,b,I,q⟩:=h;exact⟨a,b,I.unwish,q⟩
 |ret u=>obtain⟨v,a,b,I,r,q⟩:=h;exact⟨v,a,b,I.unwish,r,q⟩
def PE.nox(h:PE X.nox e t):PE X e t:=λXd s σ H Q I a=>
 ci (h Xd s σ H Q (I.wish _) a) (λ_ _ ⟨v,b,c,r,q⟩=>⟨v,b,c.unwish,r,q⟩) λ_ _ z=>ai z
def PT.nox(h:PT X.nox e t):PT X e t:=λXd s σ H Q I a=>
 ci (h Xd s σ H Q (I.wish _) a) (λ_ _ ⟨b,c,q⟩=>⟨b,c.unwish,q⟩) λ_ _ z=>ai z
def sE.nox{a:List cT}{t:TS}(h:sE X.nox a t):sE X a t:=λXd s σ H D I b=>
 ci (h Xd s σ H D (I.wish _) b) (λ_ _ q=>q.unwish) λ_ _ z=>ai z
end
section
variable{X:Cx}{st:cT}{rest:List cT}{t u:TS}{e:aS}{te:TE}{pos:Pos}
def PU:TS:=λD σ H=>D.nx σ H
def XW(t u:TS):TS:=λD σ H=>t { D with nx:=u D } σ H
def SY:sE X [] PU:=λ_ _ a H _ I h=>f7 ⟨a,H,I,h⟩
def Eh(c:PS X st t)(d:sE X rest u):sE X (st::rest) (XW t u):=by
 intro a s g H D I h;refine gJ (pS (c a s g H { D with nx:=u D } I h) λf i q=>?_);cases f with
 | next=>
  obtain⟨b,j,k,q⟩:=q;exact d a i b j D k q
 |ret v=>exact q
 |brk=>exact q
 |cont=>exact q
def So(b:PS X st t):sE X [st] t:=by
 intro a s c H D I h;refine gJ (pS (b a s c H D I h) λf d q=>?_);cases f with
 |next=>exact f7 q
 |ret v=>exact q
 |brk=>exact q
 |cont=>exact q
def ziA:PS X (.Pass pos) PU:=λ_ _ a H _ I h=>wpAny_Pass ⟨a,H,I,h⟩
def Inv.quiet{a:List (af×Obj)}{σ:St}{H:Hp}{s:ag}(I:Inv X a σ H s):interactive X.env=Y2:=by simp[interactive,I.ok.kind]
def YL(te:TE):TS:=λD σ H=>te σ H λ_ H1=>D.nx σ H1
def RL(c:PE X e te)(d:swapsWith e YP pos.line X.env=pure Y2:=by rfl):PS X (.Expr e pos) (YL te):=by intro a s b H D I h;exact wpAny_Expr_any (pS (c a s b H _ I h) λv j ⟨x,f,g,k,i⟩=>⟨b,f,g,i⟩) I.quiet d
def X0(te:TE):TS:=λD σ H=>te σ H D.rt
def Zc(c:PE X e te):PS X (.Return (XE e) pos) (X0 te):=by intro a s b H D I h;exact wpAny_Return_some (pS (c a s b H _ I h) λv j ⟨x,d,f,g,i⟩=>⟨x,b,d,f,g,i⟩)
def Yh(c:TT)(t u:TS):TS:=λD σ H=>c σ H λb H1=>if b=Y1 then t D σ H1 else u D σ H1
def Yy{c:aS}{a b:List cT}{i:TT}(n:PT X c i)(o:sE X a t)(p:sE X b u):PS X (.If c a b pos) (Yh i t u):=by
 intro f s g H D I h;refine wpAny_If (pS (n f s g H _ I h) λd j ⟨k,l,m⟩=>?_);cases d with
 |true=>exact o f j g k D l m
 |false=>exact p f j g k D l m
def zjZ:TS:=λ_ _ _=>False
def zei:sE X sts zjZ:=λ_ _ _ _ _ _ h=>h.elim
end
abbrev TG:=V->St->Hp->(St->Hp->Prop)->Prop
abbrev EW:=List V->St->Hp->(St->Hp->Prop)->Prop
def PG(X:Cx)(target:aS)(t:TG):Prop:=
 ∀(Xd:List (af×Obj))(s:ag)(σ:St)(H:Hp)(v:V)(u:ae)(Q:St->Hp->Prop),Inv X Xd σ H s->RelV v u->t v σ H Q->
  aq (ax X.prog X.w) X.A (assign target X.env u) (λ_ s'=>∃σ' H',Inv X Xd σ' H' s'/\Q σ' H') X.xe s
def KD(X:Cx)(ts:List aS)(t:EW):Prop:=
 ∀(Xd:List (af×Obj))(s:ag)(σ:St)(H:Hp)(vs:List V)(us:List ae)(Q:St->Hp->Prop),Inv X Xd σ H s->oE vs us->t vs σ H Q->
  aq (ax X.prog X.w) X.A (assignInOrder ((gK ts X.env).map (·.2)) us) (λ_ s'=>∃σ' H',Inv X Xd σ' H' s'/\Q σ' H') X.xe s
abbrev KR:=V->V->V->Hp->(Hp->Prop)->Prop
def Pq(X:Cx)(t:KR):Prop:=
 ∀(Xd:List (af×Obj))(s:ag)(σ:St)(H:Hp)(o i v:V)(ov iv u:ae)(Q:Hp->Prop),Inv X Xd σ H s->RelV o ov->RelV i iv->RelV v u->t o i v H Q->
  aq (ax X.prog X.w) X.A (setItem ov iv u) (λ_ s'=>∃H',Inv X Xd σ H' s'/\Q H') X.xe s
abbrev KC:=V->V->Hp->VK->Prop
def Xx(X:Cx)(op:Operator)(t:KC):Prop:=
 ∀(Xd:List (af×Obj))(s:ag)(σ:St)(H:Hp)(x y:V)(v u:ae)(Q:VK),Inv X Xd σ H s->RelV x v->RelV y u->t x y H Q->
  aq (ax X.prog X.w) X.A (inplaceOp op v u) (EP X Xd σ Q) X.xe s
section
variable{X:Cx}{pos:Pos}
def Ar(i:Nat):TG:=λv σ H Q=>Q (σ.set i (XE v)) H
def IS(b:X.N.Nodup)(c:X.N[i]?=XE x)(d:Loc X.env.scope x)(e:X.fn x=Y1\/X.env.scope.names.lookup x=XE .local:=by first|exact .inl rfl|exact .inr rfl|assumption):PG X (.Name x pos) (Ar i):=by intro a s g H v u Q I r h;exact j3 (Cg I b c d r (λj f=>⟨_,H,f,h⟩) e)
def Pm:EW:=λvs σ H Q=>vs=[]/\Q σ H
def K7(t:TG)(u:EW):EW:=λvs σ H Q=>∃v r,vs=v::r/\t v σ H λσ' H'=>u r σ' H' Q
def zjj:KD X [] Pm:=by intro a s b H c d Q I r h;obtain⟨e,h⟩:=h;subst e;exact assignInOrder_nil ⟨b,H,I,h⟩
def T6{e:aS}{b:List aS}{t:TG}{u:EW}(c:PG X e t)(d:KD X b u)
  (f:(gK (e::b) X.env).map (·.2)=assign e X.env::(gK b X.env).map (·.2):=by rfl):KD X (e::b) (K7 t u):=by
 intro a s g H o p Q I r h;obtain⟨v,q,i,h⟩:=h;subst i;cases r with
 | cons r rr=>
  rw[f];exact jF (pS (c a s g H _ _ _ I r h) λ_ j ⟨k,l,m,n⟩=>(d a j k l _ _ Q m rr n))
noncomputable def Po(K:aj)(n:Nat)(t:EW):TG:=λv σ H Q=>∃a xs,v=.ref a/\rW K H a xs/\xs.length=n/\t xs σ H Q
def Z5(g:X.calm=Y1)(h:KD X es t)
  (i:(gK es X.env).length=n:=by rfl) (j:(gK es X.env).findIdx? (·.1)=YP:=by rfl):PG X (.Tuple es k pos) (Po X.K n t):=by intro c s l H v u Q I r d;obtain⟨a,m,p,q,w,d⟩:=d;subst p;cases r;obtain⟨A,f,x,B⟩:=I.tuple q;refine assign_Tuple_tuple (I.ok.hd g) x (by simp[i,<- w,f.length]) j λC y=>?_;have z:=I.kept λb o e=>y b o (bq (aK e)) e;exact h c _ l H m _ Q z ⇑f d
def vA(to ti:TE)(t:KR):TG:=λv σ H Q=>to σ H λo H1=>ti σ H1 λi H2=>t o i v H2 λH3=>Q σ H3
def zke{o i:aS}{e f:TE}{t:KR}(g:PE X o e)(j:PE X i f)(k:Pq X t)
  (G:∀v,assign (.Subscript o i pos) X.env v=(do
   let b <- holding [v] (eval o X.env);let c <- holding [v,b] (eval i X.env)
   standAt pos
   holding [v,b,c] (setItem b c v)
   release [v,b,c] []):=by intro _;rfl):PG X (.Subscript o i pos) (vA e f t):=by intro a s d H v u Q I r h;refine aa (bL (pS (g a s d H _ I h) λb l ⟨x,m,n,p,q⟩=>?_));refine aa (bL (pS (j a l d m _ n q) λc w ⟨y,z,A,B,C⟩=>?_));refine aa (eZ (aa (bL (pS (k a w d z x y v b c u _ A p B r C) λ_ J ⟨D,E,F⟩=>?_))));exact wpAny_release ⟨d,D,E,F⟩
def DG(te:TE)(g:TG):TS:=λD σ H=>te σ H λx H1=>g x σ H1 D.nx
def LD{b e:aS}{te:TE}{g:TG}(d:PE X e te)(f:PG X b g)(i:fJ [b] e pos.line X.env=pure Y2:=by rfl)(j:fK [b] e X.env=pure YP:=by rfl)
  (k:(gK [b] X.env).map (·.2)=[assign b X.env]:=by rfl):PS X (.Assign [b] e pos) (DG te g):=by intro a s c H D I h;refine wpAny_Assign_stores (pS (d a s c H _ I h) λv l ⟨x,m,n,o,p⟩=>?_) i j;rw[k];exact pS (f a l c m x v _ n o p) λ_ r q=>q
def Lh{i:Nat}{x:au}{e:aS}{te:TE}{pos':Pos}(b:X.N.Nodup)(c:X.N[i]?=XE x)(d:Loc X.env.scope x)(f:PE X e te)(g:swapsWith e (XE (.Name x pos')) pos.line X.env=pure Y2:=by rfl)(j:X.fn x=Y1\/X.env.scope.names.lookup x=XE .local:=by first|exact .inl rfl|exact .inr rfl|assumption):
  PS X (.Assign [.Name x pos'] e pos) (DG te (Ar i)):=by intro a s k H D I h;refine wpAny_Assign_Name (pS (f a s k H _ I h) λv q ⟨y,l,m,n,o⟩=>?_) g;exact Cg m b c d n (λr p=>⟨_,l,p,o⟩) j
def XS(i j:Nat)(ta:TA):TS:=λD σ H=>ta σ H λvs H1=>∃v w,vs=[v,w]/\D.nx ((σ.set i (XE v)).set j (XE w)) H1
def YU{i j:Nat}{x y:au}{a b:aS}{r:TA}{k l m:Pos}{kt k2 CA}(F:X.calm=Y1)(t:X.N.Nodup)(G:X.N[i]?=XE x)(J:X.N[j]?=XE y)(K:i≠j)
  (u:X.env.scope.names.lookup x=XE .local) (z:X.env.scope.names.lookup y=XE .local) (L:PA X [a,b] r)
  (M:fK [.Tuple [.Name x k,.Name y l] kt m] (.Tuple [a,b] k2 CA) X.env=pure (XE [x,y]))
  (O:fJ [.Tuple [.Name x k,.Name y l] kt m] (.Tuple [a,b] k2 CA) pos.line X.env=pure Y2:=by rfl):
  PS X (.Assign [.Tuple [.Name x k,.Name y l] kt m] (.Tuple [a,b] k2 CA) pos) (XS i j r):=by
 intro c s B H D I h;rw[exec_Assign_arm];refine aa (eZ ?_);rw[O];refine aa (am ?_);rw[J5 's'];refine aa (Tuple_ (pS (L _ c s B H _ I h) λP d ⟨vs,C,Q,R,n⟩=>?_));obtain⟨v,w,S,n⟩:=n;subst S;obtain⟨f,g,rfl,T,U⟩:∃f g,P=[f,g]/\RelV v f/\RelV w g:=by
  cases R with
  | cons p q=>
   cases q with
   | cons p' q'=>
    cases q';exact⟨_,_,rfl,p,p'⟩
 refine cx ?_ (by show 2<=J8;decide);have V:Inv X c B C { d with heap:=d.heap.push { cls:=.type "tuple",data:=.seq [f,g].toArray } }:=Q.kept (t':=d.toks) λb o e=>ah _ e;rw[M];refine aa (am ?_);show aq (ax X.prog X.w) X.A (do rule "assign.swapped-stores";let items <- unpackItems (.ref d.heap.objs.size) 2 YP;assignInOrder [λv=>bindName X.env y v,λv=>bindName X.env x v] items.reverse;pure Flow.next) _ _ _;refine aa (eB (aa (unpackItems_tuple (items:=#[f,g]) (I.ok.hd F) (IsTup.new d.heap _) λh' W=>?_)));have Y:=V.kept (h':=h') (t':=d.toks) λb o e=>W b o (bq (aK e)) e;show aq _ _ (assignInOrder [λv=>bindName X.env y v,λv=>bindName X.env x v] [g,f] >>= λ_=>pure Flow.next) _ _ _;refine aa (jF (wpAny_bindName (Cg Y t J (.inl z) U (λs2 Z=>?_) (.inr z))));refine jF (wpAny_bindName (Cg Z t G (.inl u) T (λs3 E=>assignInOrder_nil (am ?_)) (.inr u)));rw[List.set_comm _ _ (bw K)] at E;exact⟨_,C,E,n⟩
def X7(i:Nat)(te:TE)(ti:KC):TS:=λD σ H=>∃x,σ[i]?=XE (XE x)/\te σ H λy H1=>ti x y H1 λz H2=>D.nx (σ.set i (XE z)) H2
def Zp{i:Nat}{x:au}{e:aS}{te:TE}{op:Operator}{f:KC}{pos':Pos}(o:X.N.Nodup)(g:X.N[i]?=XE x)(b:Loc X.env.scope x)(p:PE X e te)(q:Xx X op f)(t:X.fn x=Y1\/X.env.scope.names.lookup x=XE .local:=by first|exact .inl rfl|exact .inr rfl|assumption):
  PS X (.AugAssign (.Name x pos') op e pos) (X7 i te f):=by
 intro a s j H D I h;obtain⟨v,B,h⟩:=h;obtain⟨m,C,E⟩:=I.loc;have d:sD X.env.scope x:=by rcases b with k|k;exact .inl k;exact .inr (.inl k)
 obtain⟨u,r,l⟩:=E i x v g B d;refine wpAny_AugAssign_Name ?_;have n:aq (ax X.prog X.w) X.A (eval e X.env) (λw F=>aq (ax X.prog X.w) X.A (inplaceOp op u w) (λr G=>aq (ax X.prog X.w) X.A (storeName X.env x r) (λ_=>SP X a D .next) X.xe G) X.xe F) X.xe s:=by
  refine pS (p a s j H _ I h) λw J ⟨y,K,L,M,O⟩=>?_;exact pS (q a J j K v y u w _ L r M O) λz Y ⟨Z,P,Q,R,S⟩=>(Cg Q o g b R (λs3 T=>⟨_,P,T,S⟩) t)
 rcases l with⟨hk,U⟩|⟨hk,c,V,W⟩
 ·exact jb I.ok.kind hk C U n
 ·rcases hk with hk|hk
  ·exact jp I.ok.kind hk V W n
  ·rcases b with k|k
   ·have:X.env.scope.names.lookup x=XE .free:=hk;rw[k] at this;cases this
   ·have:X.env.scope.names.lookup x=XE .free:=hk;rw[k] at this;cases this
def ipI(f:Int->Int->Int):KC:=λx y H Q=>∃i j,x=.int i/\y=.int j/\Q (.int (f i j)) H
def ZN:Xx X .Add (ipI λi j=>i+j):=by intro a s f H x y v u Q I b c h;obtain⟨i,j,d,e,q⟩:=h;subst d;subst e;obtain⟨t,rfl⟩:=b;obtain⟨g,rfl⟩:=c;exact iadd_int ⟨.int _,H,I.tok _,⟨_,rfl⟩,q⟩
end
section
variable{X:Cx}{pos:Pos}
noncomputable def zk8(c:TT)(tb:TS):TS:=λD σ H=>∃W:Nat->St->Hp->Prop,(∃m,W m σ H)/\∀m σ H,W m σ H->
 c σ H λb H1=>if b=Y1 then ∃N:St->Hp->Prop,(∀σ' H',N σ' H'->∃m',m'<m/\W m' σ' H')/\tb { D with nx:=N,ct:=N,bk:=D.nx } σ H1 else D.nx σ H1
def zfy{c:aS}{body:List cT}{t:TT}{u:TS}(x:jG (ax X.prog X.w) X.A X.env X.xe)(F:PT X c t)(G:sE X body u):PS X (.While c body [] pos) (zk8 t u):=by
 intro a s J H D I h;obtain⟨W,⟨K,L⟩,d⟩:=h;refine wpAny_While (codeAny_whileLoop (λn M=>∃e y,Inv X a e y M/\W n e y) ?_ K ⟨J,H,I,L⟩);rintro n O ⟨j,z,P,Q⟩;refine fA x (pS (F a O j z _ P (d n j z Q)) λb R ⟨B,C,k⟩=>?_);cases b with
 | true=>
  obtain⟨N,E,k⟩:=k;refine fA x (pS (G a R j B _ C k) λf S l=>?_);cases f with
  | next=>
   obtain⟨g,i,m,o⟩:=l;obtain⟨p,q,r⟩:=E g i o;exact⟨p,q,g,i,m,r⟩
  | cont=>
   obtain⟨g,i,m,o⟩:=l;obtain⟨p,q,r⟩:=E g i o;exact⟨p,q,g,i,m,r⟩
  |brk=>exact l
  |ret v=>exact l
 | false=>
  exact f7 ⟨j,B,C,k⟩
end
structure It where
 go:Nat->Hp->Prop
 yld:Nat->Hp->V->Hp->Prop
 stop:Nat->Hp->Prop
def sS(X:Cx)(Xd:List (af×Obj))(H:Hp)(b:af):Prop:=
 H b=YP/\b≠X.env.locals/\b∉X.fs/\(b∈X.ex\/X.s₀.heap.objs.size<=b)/\(∀x c,X.env.cells.lookup x=XE c->c≠b)/\∀p∈X.pn++Xd,p.1≠b
def Inv.fpOk(I:Inv X Xd σ H s)(a:s.heap.objs.size<=b)(d:H' b=YP):sS X Xd H' b:=by
 refine⟨d,dO (a9 I.lt a),I.nofs a,.inr (aG I.sz a),λx c e z=>?_,λp f z=>?_⟩
 ·obtain⟨v,q⟩:=I.cell x c e;exact absurd (a9 q.lt (by rw[z];exact a)) (cw _)
 ·exact absurd (a9 (aK (I.pin p f).1) (by rw[z];exact a)) (cw _)
structure yc(P:aJ)(w:aU)(K:aj)(tg:aS)(J:It)(fp:List af)(it:af)(tn:Nat->aR->Prop):Prop where
 mem:it∈fp
 obj:∀i h,tn i h->∀b∈fp,∃o,h.get? b=XE o/\∀v,o.data ≠ .cell v
 keep:∀i h h',tn i h->(∀b∈fp,∀o,h.get? b=XE o->h'.get? b=XE o)->tn i h'
 item:∀(X:Cx),X.prog=P->X.w=w->X.K=K->X.calm=Y1->∀(i:Nat)(Xd:List (af×Obj))(s:ag)(σ:St)(H:Hp)(E:ae->ag->Prop),Inv X Xd σ H s->(∀b∈fp,sS X Xd H b)->tn i s.heap->J.go i H->
  aq (ax P w) X.A (pyNext (.ref it)) (λr s1=>∃u,r=XE u/\
   aq (ax P w) X.A (letOwnedTupleGo tg (.ref it) u) (λ_ s2=>∃x H',Inv X Xd σ H' s2/\RelV x u/\J.yld i H x H'/\tn (i+1) s2.heap/\∀b∈fp,H' b=YP) E s1) E s
 done:∀(X:Cx),X.prog=P->X.w=w->X.K=K->X.calm=Y1->∀(i:Nat)(Xd:List (af×Obj))(s:ag)(σ:St)(H:Hp)(E:ae->ag->Prop),Inv X Xd σ H s->(∀b∈fp,sS X Xd H b)->tn i s.heap->J.stop i H->
  aq (ax P w) X.A (pyNext (.ref it)) (λr s1=>r=YP/\Inv X Xd σ H s1) E s
 self:∀(A:aX)(i:Nat)(s:ag)(Q:ae->ag->Prop)(E:ae->ag->Prop),tn i s.heap->Q (.ref it) s->aq (ax P w) A (pyIter (.ref it)) Q E s
abbrev TI:=St->Hp->(It->Hp->Prop)->Prop
def Xy(X:Cx)(Xd:List (af×Obj))(σ:St)(tg:aS)(R:It->Hp->Prop)(Gj:ae)(s2:ag):Prop:=
 ∃(it:af)(fp:List af)(tn:Nat->aR->Prop)(J:It)(H':Hp),Gj=.ref it/\Inv X Xd σ H' s2/\yc X.prog X.w X.K tg J fp it tn/\tn 0 s2.heap/\(∀b∈fp,sS X Xd H' b)/\R J H'
def PI(X:Cx)(tg iter:aS)(wi:TI):Prop:=
 ∀(Xd:List (af×Obj))(s:ag)(σ:St)(H:Hp)(R:It->Hp->Prop),Inv X Xd σ H s->wi σ H R->
  aq (ax X.prog X.w) X.A (eval iter X.env) (λv s1=>aq (ax X.prog X.w) X.A (pyIter v) (Xy X Xd σ tg R) X.xe s1) X.xe s
def E7(b:s.heap.get? it=XE o)(c:o.cls=.type n)(d:o.data=.fields vs)
  (e:["enumerate", "zip", "dict_itemiterator", "dict_reverseitemiterator", "odict_iterator", "itertools.zip_longest", "itertools.pairwise"].contains n=Y2) (a:Q () s):aq M A (letOwnedTupleGo tg (.ref it) u) Q E s:=by
 cases tg<;>first
  |exact am a
  | (cases u<;>first
    |exact am a
    | (refine aa (wpAny_load b ?_)
       rw[c,d];show aq M A (if (["enumerate", "zip", "dict_itemiterator", "dict_reverseitemiterator", "odict_iterator", "itertools.zip_longest", "itertools.pairwise"].contains n&&vs[0]?==XE (dr _))=Y1 then _ else _) Q E s;rw[J5 (by intro h;rw[e,ll] at h;cases h)];exact am a))
noncomputable def OY(K:aj)(a:af):It:=
 ⟨λi H=>∃xs x,qY K H a xs/\xs[i]?=XE x,λi H x H'=>H'=H/\∀xs,qY K H a xs->xs[i]?=XE x,λi H=>∃xs,qY K H a xs/\xs.length<=i⟩
noncomputable def OW(K:aj)(a:af):It:=
 ⟨λi H=>∃xs x,rW K H a xs/\xs[i]?=XE x,λi H x H'=>H'=H/\∀xs,rW K H a xs->xs[i]?=XE x,λi H=>∃xs,rW K H a xs/\xs.length<=i⟩
noncomputable def Hm(lo:Int)(n:Nat):It:=⟨λi _=>i<n,λi H x H'=>H'=H/\x=.int (lo+i),λi _=>n<=i⟩
def Vm{P:aJ}{w:aU}{K:aj}{N:aS}(a it:af):yc P w K N (OY K a) [it] it (λi h=>h.IsListIter it a i) where
 mem:=by simp
 obj:=λi h f b g=>by
  have e:b=it:=⇑g
  subst e;obtain⟨o,e,c,d⟩:=f;exact⟨o,e,λv z=>by rw[d] at z;cases z⟩
 keep:=λi h J f k=>f.at λo e=>k it 'd' o e
 item:=by
  intro X n q r L i j s O H E I l f t;subst n q r;obtain⟨Q,x,m,y⟩:=t;obtain⟨R,A,p,S⟩:=I.list m;obtain⟨u,T,U⟩:=A.get y;obtain⟨B,C,V,D,F,G⟩:=l it 'd';refine wpAny_pyNext_list_item f p.isList ⇑T λJ M W=>?_;have Y:=I.turned (λb o g e=>(W.2 b g).trans e) B C D F G;obtain⟨o,e,c,d⟩:=id M;exact⟨u,rfl,E7 e c d 's' ⟨x,H,Y,U,⟨rfl,λys Z=>by rw[I.list_inj Z m];exact y⟩,M,λb g=>(l b g).1⟩⟩
 done:=by
  intro X n q r L i j s O H E I l f t;subst n q r;obtain⟨Q,m,y⟩:=t;obtain⟨R,A,p,S⟩:=I.list m;obtain⟨B,C,V,D,F,G⟩:=l it 'd';have hl:=A.length;exact wpAny_pyNext_list_end (I.ok.hd L) f p.isList (by simp;lia) λJ eb=>⟨rfl,I.turned (λb o g e=>eb b o g e) B C D F G⟩
 self:=λ_ _ _ _ _ f h=>wpAny_pyIter_listiter f h
def zbh{P:aJ}{w:aU}{K:aj}{N:aS}(a it:af):yc P w K N (OW K a) [it] it (λi h=>h.IsTupleIter it a i) where
 mem:=by simp
 obj:=λi h f b g=>by
  have e:b=it:=⇑g
  subst e;obtain⟨o,e,c,d⟩:=f;exact⟨o,e,λv z=>by rw[d] at z;cases z⟩
 keep:=λi h J f k=>f.at λo e=>k it 'd' o e
 item:=by
  intro X n q r L i j s O H E I l f t;subst n q r;obtain⟨Q,x,m,y⟩:=t;obtain⟨R,A,p,S⟩:=I.tuple m;obtain⟨u,T,U⟩:=A.get y;obtain⟨B,C,V,D,F,G⟩:=l it 'd';refine wpAny_pyNext_tuple_item f (p) ⇑T λJ M W=>?_;have Y:=I.turned (λb o g e=>(W.2 b g).trans e) B C D F G;obtain⟨o,e,c,d⟩:=id M;exact⟨u,rfl,E7 e c d 's' ⟨x,H,Y,U,⟨rfl,λys Z=>by rw[I.tuple_inj Z m];exact y⟩,M,λb g=>(l b g).1⟩⟩
 done:=by
  intro X n q r L i j s O H E I l f t;subst n q r;obtain⟨Q,m,y⟩:=t;obtain⟨R,A,p,S⟩:=I.tuple m;obtain⟨B,C,V,D,F,G⟩:=l it 'd';have hl:=A.length;exact wpAny_pyNext_tuple_end (I.ok.hd L) f (p) (by simp;lia) λJ eb=>⟨rfl,I.turned (λb o g e=>eb b o g e) B C D F G⟩
 self:=λ_ _ _ _ _ f h=>wpAny_pyIter_tupleiter f h
def zaX{P:aJ}{w:aU}{K:aj}{D:aS}(it:af)(lo:Int)(n:Nat):yc P w K D (Hm lo n) [it] it (λi h=>IsRangeIter h it (lo+(i:Nat)*1) ((n:Int)-(i:Nat)) 1) where
 mem:=by simp
 obj:=λi h a b d=>by
  have e:b=it:=⇑d
  subst e;exact⟨_,a,λv z=>by
   have F:=z;cases F⟩
 keep:=λi h g a k=>k it 'd' _ a
 item:=by
  intro X x y A j i c s B H E I f a l;subst x y A;obtain⟨m,p,G,q,r,u⟩:=f it 'd';have W:=Walks.range (prog:=X.prog) (w:=X.w) (I.ok.hd j) it lo 1 n;refine f8 I.tk (W.item i s _ _ l a λv g J L C M Q=>?_);obtain⟨t,rfl⟩:=L;have N:Inv X c B H { s with heap:=g,toks:=J }:=I.turned (λb o d e=>M b o ⇑d e) m p q r u;refine⟨_,rfl,E7 C rfl rfl 's' ⟨.int (lo+i),H,N,⟨t,?_⟩,⟨rfl,rfl⟩,C,λb d=>(f b d).1⟩⟩;rw[Int.mul_one]
 done:=by
  intro X x y A j i c s B H E I f a l;obtain⟨m,p,G,q,r,u⟩:=f it 'd';exact wpAny_pyNext_range_end (I.ok.hd j) a (by have:n<=i:=l;lia) λg O=>⟨rfl,I.turned (λb o d e=>O b o d e) m p q r u⟩
 self:=λ_ _ _ _ _ a h=>wpAny_pyIter_rangeiter a h
section
variable{X:Cx}{tg:aS}
def T3{a:List (af×Obj)}{σ:St}{H:Hp}{s:ag}{R:It->Hp->Prop}{E:ae->ag->Prop}{lo c:Int}{t u v:Tok}{tk:Nat}(I:Inv X a σ H s)(f:-(2 ^ 62)<=lo)(g:lo<2 ^ 62)(h:-(2 ^ 62)<=c)(i:c<2 ^ 62)
  (q:R (Hm lo (c-lo).toNat) H) (m:0<tk):aq (ax X.prog X.w) X.A (pyIter (.ref s.heap.objs.size)) (Xy X a σ tg R) E { s with heap:=s.heap.push { cls:=.type "range",data:=.fields #[.int lo t,.int c u,.int 1 v] },toks:=tk }:=by
 refine wpAny_pyIter_range (IsRange.new ..) (small_one f g h i) ?_;have d:Inv X a σ H { s with heap:=s.heap.push { cls:=.type "range",data:=.fields #[.int lo t,.int c u,.int 1 v] },toks:=tk }:=I.kept λb o e=>ah _ e;refine⟨(s.heap.push { cls:=.type "range",data:=.fields #[.int lo t,.int c u,.int 1 v] }).objs.size,[(s.heap.push { cls:=.type "range",data:=.fields #[.int lo t,.int c u,.int 1 v] }).objs.size],_,_,H,rfl,
  d.kept λb o e=>ah _ e,zaX _ lo (c-lo).toNat,?_,λb j=>?_,q⟩
 ·have k:lo+((0:Nat):Int)*1=lo:=by simp
  have l:(((c-lo).toNat:Nat):Int)-((0:Nat):Int)=Builtin.Range.rangeSize lo c 1:=by rw[rangeSize_one];split<;>lia
  rw[k,l];exact aM _ rfl
 ·have e:b=(s.heap.push { cls:=.type "range",data:=.fields #[.int lo t,.int c u,.int 1 v] }).objs.size:=⇑j
  subst e;exact d.fpOk (aB _) (d.hok.fresh (aB _))
def Ym(ta:TA):TI:=λσ H R=>ta σ H λvs H1=>∃j:Int,vs=[.int j]/\-(2 ^ 62)<=j/\j<2 ^ 62/\R (Hm 0 j.toNat) H1
def Yp(ta:TA):TI:=λσ H R=>ta σ H λvs H1=>∃i j:Int,vs=[.int i,.int j]/\(-(2 ^ 62)<=i/\i<2 ^ 62/\-(2 ^ 62)<=j/\j<2 ^ 62)/\R (Hm i (j-i).toNat) H1
def zdO{a:aS}{d:TA}{p pos:Pos}(g:Gl X "range")(i:X.mg "range" = YP)(k:PA X [a] d)(l:aF [a] X.env=[(Y2,eval a X.env)]:=by rfl):PI X tg (.Call (.Name "range" p) [a] [] pos) (Ym d):=by
 intro b s m H R I h;refine kL (Bk I g i boot_range (el (pS (k pos b s m H _ I h) λu v ⟨w,x,f,n,c⟩=>?_) l rfl));obtain⟨j,e,c,o,q⟩:=c;subst e;cases n with
 | cons r rr=>
  cases rr;obtain⟨t,rfl⟩:=r;exact call_range_1 (T3 f 'o' 'o' c o ⇑q (by first|exact cN _|exact f.tk))
def zc9(k:Gl X "range")(l:X.mg "range" = YP)(m:PA X [a,b] ta)(n:aF [a,b] X.env=[(Y2,eval a X.env),(Y2,eval b X.env)]:=by rfl)(f:aF [b] X.env=[(Y2,eval b X.env)]:=by rfl):
  PI X tg (.Call (.Name "range" p) [a,b] [] pos) (Yp ta):=by
 intro c s o H R I h;refine kL (Bk I k l boot_range (el (pS (m pos c s o H _ I h) λy z ⟨A,B,g,u,d⟩=>?_) (by rw[n,f]) (by rw[f];rfl)));obtain⟨i,j,e,⟨d,v,w,x⟩,q⟩:=d;subst e;cases u with
 | cons r rr=>
  cases rr with
  | cons r' rr=>
   cases rr;obtain⟨t,rfl⟩:=r;obtain⟨C,rfl⟩:=r';exact call_range_2 (T3 g d v w x q (by first|exact cN _|exact g.tk))
noncomputable def Yb(wi:TI)(g:TG)(tb:TS):TS:=λD σ H=>wi σ H λJ H1=>∃W:Nat->Nat->St->Hp->Prop,(∃m,W 0 m σ H1)/\∀i m σ H,W i m σ H->
 (J.stop i H/\D.nx σ H)\/(J.go i H/\∃N:St->Hp->Prop,(∀σ' H',N σ' H'->∃m',m'<m/\W (i+1) m' σ' H')/\∀x H',J.yld i H x H'->g x σ H' λsQ H2=>tb { D with nx:=N,ct:=N,bk:=D.nx } sQ H2)
def Fj(fp:List af)(h:aR):List (af×Obj):=fp.filterMap λb=>(h.get? b).map λo=>(b,o)
def Ju(a:b∈fp)(e:h.get? b=XE o):(b,o)∈Fj fp h:=jH.mpr ⟨b,a,by rw[e];rfl⟩
def zc6(a:p∈Fj fp h):p.1∈fp/\h.get? p.1=XE p.2:=by
 obtain⟨b,c,e⟩:=jH.mp a;cases q:h.get? b with
 |none=>rw[q] at e;cases e
 | some o=>
  rw[q] at e;have d:=cA e;subst d;exact⟨c,q⟩
def Inv.pinned(I:Inv X Xd σ H s)(f:∀b∈fp,sS X Xd H b)(g:∀b∈fp,∃o,s.heap.get? b=XE o/\∀v,o.data ≠ .cell v):Inv X (Xd++Fj fp s.heap) σ H s:=
 I.pins_of λp h=>(aQ.mp h).elim (λz=>I.pin p (aC _ z)) λz=>by
  obtain⟨a,e⟩:=zc6 z;obtain⟨i,j,k,_⟩:=f p.1 a;obtain⟨o,c,d⟩:=g p.1 a;rw[e] at c;cases c;exact⟨e,i,j,k,d⟩
def Inv.unpinned(I:Inv X (Xd++pl) σ H s):Inv X Xd σ H s:=I.pins_of λp a=>I.pin p (aC _ (bS _ a))
def QO(z:jG (ax X.prog X.w) X.A X.env X.xe)(U:X.calm=Y1)(hi:PI X tg iter wi)(hg:PG X tg g)(c:sE X body tb)
  (hs:∀x,cg iter X.env x=pure x:=by intro _;rfl):PS X (.For tg iter body [] pos) (Yb wi g tb):=by
 intro a s V H D I h;refine wpAny_For (pS (hi a s V H _ I h) λv s1 h1=>pS h1 λGj s2 h2=>?_) hs;obtain⟨it,B,Y,J,H2,e,I2,T,ql,Z,W,⟨m0,w0⟩,C⟩:=h2;subst e
 -- what stays Y1 of zP CJ objects through zP loop
 have M:∀{t:Hp},(∀b∈B,t b=YP)->∀b∈B,sS X a t b:=λhn b c=>⟨hn b c,(Z b c).2⟩;refine codeAny_forLoop_any (λn s'=>∃i j t,Inv X a j t s'/\Y i s'.heap/\(∀b∈B,t b=YP)/\W i n j t) ?_ m0 ⟨0,V,H2,I2,ql,λb c=>(Z b c).1,w0⟩;rintro n s3 ⟨i,E,L,I3,qf,Kv,w3⟩;rcases C i n E L w3 with⟨F,qn⟩|⟨go,N,hN,G⟩
 ·refine fA z (pS (T.done X rfl rfl rfl U i a s3 E L X.xe I3 (M Kv) qf F) λr s4 ⟨O,I4⟩=>?_);subst O;exact f7 ⟨E,L,I4,qn⟩
 ·refine fA z (pS (T.item X rfl rfl rfl U i a s3 E L X.xe I3 (M Kv) qf go) λr s4 ⟨u,O,h4⟩=>?_);subst O;refine fA z (pS h4 λ_ s5 ⟨x,H5,I5,r5,y5,P,Q⟩=>?_);have R:=I5.pinned (M Q) (T.obj _ _ P);refine fA z (pS (hg _ s5 E H5 x u _ R r5 (G x H5 y5)) λ_ s6 ⟨O9,H6,I6,q6⟩=>(fA z (pS (c _ s6 O9 H6 _ I6 q6) λf S y=>?_)));have k:∀{l:St}{p:Hp},Inv X (a++Fj B s5.heap) l p S->N l p->∃m,m<n/\∃i j t,Inv X a j t S/\Y i S.heap/\(∀b∈B,t b=YP)/\W i m j t:=λ{l p}q K=>by
   obtain⟨m',hm,w7⟩:=hN l p K;refine⟨m',hm,i+1,l,p,q.unpinned,T.keep _ _ _ P λb c o e=>(q.pin (b,o) (aC _ (aC _ (Ju c e)))).1,λb c=>?_,w7⟩;obtain⟨o,e,d⟩:=T.obj _ _ P b c;exact(q.pin (b,o) (aC _ (aC _ (Ju c e)))).2.1
  cases f with
  |next=>obtain⟨l,p,q,K⟩:=y;exact k q K
  |cont=>obtain⟨l,p,q,K⟩:=y;exact k q K
  |brk=>obtain⟨l,p,q,y⟩:=y;exact⟨l,p,q.unpinned,y⟩
  |ret v=>obtain⟨x7,l,p,q,r7,y⟩:=y;exact⟨x7,l,p,q.unpinned,r7,y⟩
end
abbrev R2:=V->V->Hp->VK->Prop
def qI(X:Cx)(f:ae->ae->Sem ae)(r:R2):Prop:=
 ∀(Xd:List (af×Obj))(s:ag)(σ:St)(H:Hp)(x y:V)(v u:ae)(Q:VK),Inv X Xd σ H s->RelV x v->RelV y u->r x y H Q->
  aq (ax X.prog X.w) X.A (f v u) (EP X Xd σ Q) X.xe s
def OU(X:Cx)(f:ae->Sem ae)(r:V->Hp->VK->Prop):Prop:=
 ∀(Xd:List (af×Obj))(s:ag)(σ:St)(H:Hp)(x:V)(v:ae)(Q:VK),Inv X Xd σ H s->RelV x v->r x H Q->
  aq (ax X.prog X.w) X.A (f v) (EP X Xd σ Q) X.xe s
def oO(X:Cx)(f:ae)(r:List V->Hp->VK->Prop):Prop:=
 ∀(Xd:List (af×Obj))(s:ag)(σ:St)(H:Hp)(xs:List V)(us:List ae)(Q:VK),Inv X Xd σ H s->oE xs us->r xs H Q->
  aq (ax X.prog X.w) X.A (call f us) (EP X Xd σ Q) X.xe s
def Yc(X:Cx)(r:V->Hp->(Bool->Hp->Prop)->Prop):Prop:=
 ∀(Xd:List (af×Obj))(s:ag)(σ:St)(H:Hp)(x:V)(v:ae)(Q:Bool->Hp->Prop),Inv X Xd σ H s->RelV x v->r x H Q->
  aq (ax X.prog X.w) X.A (truthy v) (TP X Xd σ Q) X.xe s
def F0(r:R2)(ta tb:TE):TE:=λσ H Q=>ta σ H λx H1=>tb σ H1 λy H2=>r x y H2 Q
def tUn(r:V->Hp->VK->Prop)(ta:TE):TE:=λσ H Q=>ta σ H λx H1=>r x H1 Q
def rI(C:Int->Int->Prop)(g:Int->Int->V):R2:=λx y H Q=>∃i j,x=.int i/\y=.int j/\C i j/\Q (g i j) H
def vF(g:Int->Int->V):R2:=λx y H Q=>∃i j,x=.int i/\y=.int j/\Q (g i j) H
def rU(g:Int->V):V->Hp->VK->Prop:=λx H Q=>∃i,x=.int i/\Q (g i) H
section
variable{X:Cx}{a b:aS}{ta tb:TE}{pos:Pos}
def KL(i:PE X a ta)(j:PE X b tb){c:List (af×Obj)}{s:ag}{σ:St}{H:Hp}{R:V->V->Hp->Prop}(I:Inv X c σ H s)
  (h:ta σ H λx g=>tb σ g λy d=>R x y d) {Q:ae->ag->Prop} {f:ae->ae->Sem ae}
  (k:∀v u e x y d,Inv X c σ d e->RelV x v->RelV y u->R x y d->aq (ax X.prog X.w) X.A (f v u) Q X.xe e):
  aq (ax X.prog X.w) X.A (eval a X.env) (λv l=>aq (ax X.prog X.w) X.A (eval b X.env) (λu m=>aq (ax X.prog X.w) X.A (f v u) Q X.xe m) X.xe l) X.xe s:=by refine pS (i c s σ H _ I h) λv n ⟨x,g,o,p,q⟩=>?_;exact pS (j c n σ g _ o q) λu e ⟨y,d,r,t,z⟩=>(k v u e x y d r p t z)
def Ys{op:Operator}{r:R2}(d:qI X (dU op) r)(e:PE X a ta)(f:PE X b tb):PE X (.BinOp a op b pos) (F0 r ta tb):=by intro c s g H Q I h;exact wpAny_BinOp (KL e f I h λv u i x y j k l m q=>d c i g j x y v u Q k l m q)
def Y8(e:OU X (unaryOp op) r)(f:PE X a ta):PE X (.UnaryOp op a pos) (tUn r ta):=by intro c s d H Q I h;exact UnaryOp_ (pS (f c s d H _ I h) λv g ⟨x,i,j,k,l⟩=>e c g d i x v Q j k l)
def EA{f:ae->ae->Sem ae}{C:Int->Int->Prop}{g:Int->Int->Int}
  (c:∀(i j:Int)(t u:Tok)(s:ag)(Q:ae->ag->Prop)(E:ae->ag->Prop),C i j->Q (.int (g i j) s.toks) { s with toks:=s.toks+1 }->aq (ax X.prog X.w) X.A (f (.int i t) (.int j u)) Q E s):
  qI X f (rI C λi j=>.int (g i j)):=by intro d s n H x y v u Q I e k h;obtain⟨i,j,rfl,rfl,l,q⟩:=h;obtain⟨t,rfl⟩:=e;obtain⟨m,rfl⟩:=k;exact c i j t m s _ _ l ⟨.int (g i j),H,I.tok _,⟨_,rfl⟩,q⟩
def Ht{f:ae->ae->Sem ae}{g:Int->Int->Int}
  (c:∀(i j:Int)(t u:Tok)(s:ag)(Q:ae->ag->Prop)(E:ae->ag->Prop),Q (.int (g i j) s.toks) { s with toks:=s.toks+1 }->aq (ax X.prog X.w) X.A (f (.int i t) (.int j u)) Q E s):
  qI X f (vF λi j=>.int (g i j)):=by intro d s m H x y v u Q I e k h;obtain⟨i,j,rfl,rfl,q⟩:=h;obtain⟨t,rfl⟩:=e;obtain⟨l,rfl⟩:=k;exact c i j t l s _ _ ⟨.int (g i j),H,I.tok _,⟨_,rfl⟩,q⟩
def KP{f:ae->ae->Sem ae}{g:Int->Int->Bool}
  (c:∀(i j:Int)(t u:Tok)(s:ag)(Q:ae->ag->Prop)(E:ae->ag->Prop),Q (.bool (g i j)) s->aq (ax X.prog X.w) X.A (f (.int i t) (.int j u)) Q E s):
  qI X f (vF λi j=>.bl (g i j)):=by intro d s m H x y v u Q I e k h;obtain⟨i,j,rfl,rfl,q⟩:=h;obtain⟨t,rfl⟩:=e;obtain⟨l,rfl⟩:=k;exact c i j t l s _ _ ⟨.bl (g i j),H,I,rfl,q⟩
def Pj(i j:Int):Prop:=0<j/\j<1073741824
def Hv(i j:Int):Prop:=0<=j/\j<=1000000/\i.natAbs<2 ^ 64
def pv(i j:Int):Prop:=(-(2 ^ 64)<i/\i<2 ^ 64)\/(-(2 ^ 64)<j/\j<2 ^ 64)
def pv.ok(h:pv i j):IntMulOk i j:=by
 rcases h with⟨c,d⟩|⟨c,d⟩
 ·exact .of_left (intBits_le_64 c d)
 ·exact .of_right (intBits_le_64 c d)
def zbi(k:Nat):(0:Int)<=2 ^ k:=by rw[two_pow_cast];exact Int.natCast_nonneg _
def ZQ:qI X (dU .Add) (vF λi j=>.int (i+j)):=Ht λ_ _ _ _ _ _ _ q=>add_int q
def ZE:qI X (dU .Sub) (vF λi j=>.int (i-j)):=Ht λ_ _ _ _ _ _ _ q=>sub_int q
def Zu:qI X (dU .Mult) (rI pv λi j=>.int (i*j)):=EA λ_ _ _ _ _ _ _ c q=>mul_int q c.ok
def zjn:qI X (dU .FloorDiv) (rI Pj λi j=>.int (i/j)):=EA λi j _ _ _ _ _ c q=>by
 have d:=c.1;have e:=c.2;exact floordiv_int 'o' (by rw[jU i 'o'];exact q) (.inl (PyProof.noPylong_small 'o'))
def Zb:qI X (dU .Mod) (rI (λ_ j=>0<j) λi j=>.int (i%j)):=EA λi j _ _ _ _ _ c q=>by
 exact mod_int' 'o' (by rw[Int.fmod_eq_emod_of_nonneg i 'o'];exact q)
def Zy:qI X (dU .Pow) (rI Hv λi j=>.int (i ^ j.toNat)):=EA λ_ _ _ _ _ _ _ c q=>pow_int_small c.1 c.2.1 c.2.2 q
def ZX:qI X (dU .LShift) (rI Hv λi j=>.int (i*2 ^ j.toNat)):=EA λ_ _ _ _ _ _ _ c q=>lshift_int_small c.1 c.2.1 c.2.2 q
def zk7:qI X (dU .RShift) (rI (λ_ j=>0<=j) λi j=>.int (i/2 ^ j.toNat)):=EA λi j _ _ _ _ _ c q=>
 rshift_int c (by rw[jU i (zbi _)];exact q)
def Zf:qI X (dU .BitAnd) (vF λi j=>.int (lp i j)):=Ht λ_ _ _ _ _ _ _ q=>and_int q
def YE:qI X (dU .BitOr) (vF λi j=>.int (iK i j)):=Ht λ_ _ _ _ _ _ _ q=>or_int q
def unI{f:ae->Sem ae}{g:Int->Int}
  (c:∀(i:Int)(t:Tok)(s:ag)(Q:ae->ag->Prop)(E:ae->ag->Prop),Q (.int (g i) s.toks) { s with toks:=s.toks+1 }->aq (ax X.prog X.w) X.A (f (.int i t)) Q E s):
  OU X f (rU λi=>.int (g i)):=by intro d s j H x v Q I e h;obtain⟨i,rfl,q⟩:=h;obtain⟨t,rfl⟩:=e;exact c i t s _ _ ⟨.int (g i),H,I.tok _,⟨_,rfl⟩,q⟩
def Zk:OU X (unaryOp .USub) (rU λi=>.int (-i)):=unI λ_ _ _ _ _ q=>neg_int q
end
section
variable{X:Cx}{a b c:aS}{ta tb tc:TE}{pos:Pos}
def Li(I:Inv X Xd σ H s)(q:Q (.bl k) H)(e:k=k'):EP X Xd σ Q (.bool k') s:=by subst e;exact⟨.bl k,H,I,rfl,q⟩
def H_:qI X (cy .Lt) (vF λi j=>.bl (decide (i<j))):=KP λ_ _ _ _ _ _ _ q=>lt_int q
def Qd:qI X (cy .LtE) (vF λi j=>.bl (decide (i<=j))):=KP λ_ _ _ _ _ _ _ q=>le_int q
def P_:qI X (cy .GtE) (vF λi j=>.bl (decide (j<=i))):=KP λ_ _ _ _ _ _ _ q=>ge_int q
def zdo:qI X (cy .In) (λx y H Q=>∃i j,x=.str i/\y=.str j/\Q (.bl (!(b9 j i 0 j.length 1).isEmpty)) H):=by intro d s g H x y v u Q I e f h;obtain⟨i,j,rfl,rfl,q⟩:=h;obtain⟨t,rfl⟩:=e;obtain⟨k,rfl⟩:=f;exact in_str (Li I q rfl)
def Rw:qI X (cy .Is) (λx y H Q=>y=.non/\Q (.bl (decide (x=.non))) H):=by
 intro d s g H x y v u Q I e f h;obtain⟨rfl,q⟩:=h;cases f;refine is_none_gen (Li I q ?_);cases x<;>first
  |(cases e;rfl)
  |(obtain⟨t,rfl⟩:=e;rfl)
def z7w:qI X (cy .NotIn) (λx y H Q=>∃i j,x=.str i/\y=.str j/\Q (.bl (!(!(b9 j i 0 j.length 1).isEmpty))) H):=by intro d s g H x y v u Q I e f h;obtain⟨i,j,rfl,rfl,q⟩:=h;obtain⟨t,rfl⟩:=e;obtain⟨k,rfl⟩:=f;exact notIn_str (Li I q rfl)
def qI.or(h:qI X f r)(h':qI X f r'):qI X f (λx y H Q=>r x y H Q\/r' x y H Q):=by
 intro d s e H x y v u Q I g i q;rcases q with q|q
 ·exact h d s e H x y v u Q I g i q
 ·exact h' d s e H x y v u Q I g i q
def Aw(b:aS)(h:op ≠ .In:=by decide)(d:op ≠ .NotIn:=by decide):behindInMarks op b=Y2:=by
 have e:(op==CmpOp.In)=Y2:=by cases op<;>first|rfl|exact absurd rfl h
 have f:(op==CmpOp.NotIn)=Y2:=by cases op<;>first|rfl|exact absurd rfl d
 cases b<;>simp[behindInMarks,e,f]
def zhp{op:CmpOp}{r:R2}(e:qI X (cy op) r)(f:PE X a ta)(g:PE X b tb)(i:behindInMarks op b=Y2):PE X (.Compare a [op] [b] pos) (F0 r ta tb):=by intro d s j H Q I h;exact wpAny_Compare1 (KL f g I h λv u k x y l m n o q=>e d k j l x y v u Q m n o q) i
def Qx(t:TE):TT:=λσ H Q=>t σ H λx H'=>∃k,x=.bl k/\Q k H'
def zi1(g:qI X (cy op) r)(i:PE X a ta)(j:PE X b tb)(l:behindInMarks op b=Y2):PT X (.Compare a [op] [b] pos) (Qx (F0 r ta tb)):=by
 intro d s f H Q I h;refine lj (pS (i d s f H _ I h) λv m ⟨x,n,o,p,q⟩=>pS (j d m f n _ o q) λu t ⟨y,w,A,B,C⟩=>
  pS (g d t f w x y v u _ A p B C) λc J ⟨z,D,E,F,k,e,G⟩=>?_) l
 subst e;cases F;exact cQ ⟨D,E,G⟩
noncomputable def ZL(r r':R2)(ta tb tc:TE):TE:=λσ H Q=>ta σ H λx H1=>tb σ H1 λy H2=>r x y H2 λz H3=>∃k,z=.bl k/\
 (if k=Y1 then tc σ H3 λw' H4=>r' y w' H4 Q else Q (.bl Y2) H3)
def zfA(n:qI X (cy op) r)(o:qI X (cy EB) r')(p:PE X a ta)(q:PE X b tb)(t:PE X c tc)
  (w:lastMarks [op,EB] [b,c]=Y2:=by with_unfolding_all rfl):PE X (.Compare a [op,EB] [b,c] pos) (ZL r r' ta tb tc):=by
 intro f s g H Q I h;refine Compare_chain (pS (p f s g H _ I h) λv A ⟨x,B,C,D,E⟩=>chain_link (pS (q f A g B _ C E) λu F ⟨y,G,J,i,K⟩=>
  pS (n f F g G x y v u _ J D i K) λd L ⟨z,j,l,M,k,e,m⟩=>?_)) w
 subst e;cases M;refine cQ ?_;cases k with
 |false=>exact ite_ff ⟨.bl Y2,j,l,rfl,m⟩
 |true=>exact ite_tt (chain_last (pS (t f L g j _ l m) λN O ⟨P,R,S,T,U⟩=>o f O g R y P u N Q S i T U))
def Pp(K:aj)(x:V)(H:Hp)(k:Bool):Prop:=
 match x with
 |.non=>k=Y2
 |.bl b=>k=b
 |.int i=>k=(i !=0)
 |.str y=>y.length<=J8/\k=((y.length:Int) !=0)
 |.byt y=>y.size<=J8/\k=((y.size:Int) !=0)
 |.ref p=>(∃xs,qY K H p xs/\k = !xs.isEmpty)\/(∃xs,rW K H p xs/\k = !xs.isEmpty) \/ ∃i_,H p=XE (.dK i_)/\k = !i_.isEmpty
 |_=>False
def zbb{κ:Type}{d:List (κ×V)}{vs:List (κ×ae)}(r:KV d vs):(!vs.isEmpty) = !d.isEmpty:=by cases r<;>rfl
def VL{xs:List V}{d:List ae}(r:oE xs d):(!d.toArray.isEmpty) = !xs.isEmpty:=by cases r<;>simp
def Ij:(J8:Nat)<2 ^ 63:=by rw[fT];decide
def Zm:Yc X (λx H Q=>∃k,Pp X.K x H k/\Q k H):=by
 intro o s E H x v Q I g h;obtain⟨k,e,q⟩:=h;have F:=fT;cases x with
 | non=>
  cases g;have d:=e;subst d;exact truthy_none ⟨H,I,q⟩
 | bl b=>
  cases g;have d:=e;subst d;exact cQ ⟨H,I,q⟩
 | int i=>
  obtain⟨t,rfl⟩:=g;have d:=e;subst d;exact PySem.P.truthy_int ⟨H,I,q⟩
 | str y=>
  obtain⟨t,rfl⟩:=g;obtain⟨A,d⟩:y.length<=J8/\k=((y.length:Int) !=0):=e;subst d;exact PySem.P.truthy_str 'o' ⟨H,I.tok _,q⟩
 | byt y=>
  obtain⟨t,rfl⟩:=g;obtain⟨A,d⟩:y.size<=J8/\k=((y.size:Int) !=0):=e;subst d;exact PySem.W.truthy_bytes 'o' ⟨H,I.tok _,q⟩
 | ref p=>
  cases g;have d:=e;rcases d with⟨B,j,d⟩|⟨B,j,d⟩|⟨u,j,d⟩
  ·subst d;obtain⟨C,r,l,z⟩:=I.list j;have f:=r.length;exact wpAny_truthy_list l.isList (by simp;lia) ⟨H,I.tok _,by rw[VL r];exact q⟩
  ·subst d;obtain⟨C,r,l,z⟩:=I.tuple j;have f:=r.length;exact truthy_tuple l (by simp;lia) ⟨H,I.tok _,by rw[VL r];exact q⟩
  ·subst d;obtain⟨z,D,n,r,m⟩:u.length<=J8/\(p==sysModules)=Y2/\∃n,KV u n/\s.heap.DictOf (u6 X.prog X.w) p n:=I.hok p _ j;have f:=lY r;exact wpAny_truthy_dict D m 'o' ⟨H,I.tok _,by rw[zbb r];exact q⟩
 |_=>exact(e).elim
def zeM(f:PE X a ta)(g:∀d,isTrue a X.env d=(do let v <- d;standAt a.pos;holding [v] (truthy v))):
  PT X a (λσ H Q=>ta σ H λx H'=>∃k,Pp X.K x H' k/\Q k H'):=by intro e s σ H Q I h;exact isTrue_plain (pS (f e s σ H _ I h) λv i ⟨x,j,l,m,n⟩=>Zm e i σ j x v Q l m n) (g _)
def zaW:qI X (dU .Add) (λx y H Q=>∃i j,x=.str i/\y=.str j/\i.length+j.length<=J8/\Q (.str (i++j)) H):=by intro d s m H x y v u Q I e f h;obtain⟨i,j,rfl,rfl,g,q⟩:=h;obtain⟨t,rfl⟩:=e;obtain⟨k,rfl⟩:=f;exact f8 I.tk (add_str (λk n l=>⟨.str (i++j),H,I.tok _ l,⟨_,rfl⟩,q⟩) g)
def vC(r:oE [x] us):∃u,us=[u]/\RelV x u:=by
 cases r with
 |cons r1 r2=>cases r2;exact⟨_,rfl,r1⟩
def Aq(r:oE [x,y] us):∃u d,us=[u,d]/\RelV x u/\RelV y d:=by
 cases r with
 | cons r1 r2=>
  cases r2 with
  |cons r3 r4=>cases r4;exact⟨_,_,rfl,r1,r3⟩
def zd3(f:X.calm=Y1):oO X (.builtin "max") (λxs H Q=>∃i j,xs=[.int i,.int j]/\Q (.int (if j>i then j else i)) H):=by
 intro e s l H xs m Q I r h;obtain⟨i,j,rfl,q⟩:=h;obtain⟨u,n,rfl,⟨t,rfl⟩,⟨o,rfl⟩⟩:=Aq r;refine f8 I.tk (max_two_ints (I.ok.hd f) λp v k g=>⟨_,H,I.kept k g,?_,q⟩);by_cases d:j>i
 ·rw[JU d,JU d];exact⟨_,rfl⟩
 ·rw[J5 d,J5 d];exact⟨_,rfl⟩
def zd8(f:X.calm=Y1):oO X (.builtin "min") (λxs H Q=>∃i j,xs=[.int i,.int j]/\Q (.int (if j<i then j else i)) H):=by
 intro e s l H xs m Q I r h;obtain⟨i,j,rfl,q⟩:=h;obtain⟨u,n,rfl,⟨t,rfl⟩,⟨o,rfl⟩⟩:=Aq r;refine f8 I.tk (min_two_ints (I.ok.hd f) λp v k g=>⟨_,H,I.kept k g,?_,q⟩);by_cases d:j<i
 ·rw[JU d,JU d];exact⟨_,rfl⟩
 ·rw[J5 d,J5 d];exact⟨_,rfl⟩
def zcg:oO X (.type "int") (λxs H Q=>(∃i,xs=[.int i]/\Q (.int i) H) \/ ∃k,xs=[.bl k]/\Q (.int (if k then 1 else 0)) H):=by
 intro d s f H xs g Q I r h;rcases h with⟨i,rfl,q⟩|⟨k,rfl,q⟩
 ·obtain⟨u,rfl,t,rfl⟩:=vC r;exact call_int_int ⟨.int i,H,I,⟨_,rfl⟩,q⟩
 ·obtain⟨u,rfl,e⟩:=vC r;cases e;exact call_int_bool ⟨.int (if k then 1 else 0),H,I.tok _,⟨_,rfl⟩,q⟩
def z8g:oO X (.type "str") (λxs H Q=>∃i,xs=[.int i]/\i.natAbs.log2<1920/\Q (.str (toString i)) H):=by intro d s f H xs g Q I r h;obtain⟨i,rfl,e,q⟩:=h;obtain⟨u,rfl,t,rfl⟩:=vC r;exact PySem.P.str_of_int e ⟨.str _,H,I.tok _,⟨_,rfl⟩,q⟩
def Pa(K:aj)(x:V)(H:Hp)(n:Nat):Prop:=
 match x with
 |.str y=>y.length<=J8/\n=y.length
 |.byt y=>y.size<=J8/\n=y.size
 |.ref p=>(∃xs,qY K H p xs/\n=xs.length) \/ ∃xs,rW K H p xs/\n=xs.length
 |_=>False
def Tu:oO X (.builtin "len") (λxs H Q=>∃x n,xs=[x]/\Pa X.K x H n/\Q (.int n) H):=by
 intro l s w H xs z Q I r h;obtain⟨x,n,rfl,e,q⟩:=h;obtain⟨u,rfl,g⟩:=vC r;have A:=fT;cases x with
 | str y=>
  obtain⟨t,rfl⟩:=g;obtain⟨m,f⟩:y.length<=J8/\n=y.length:=e;subst f;exact len_str 'o' ⟨.int _,H,I.tok _,⟨_,rfl⟩,q⟩
 | byt y=>
  obtain⟨t,rfl⟩:=g;obtain⟨m,f⟩:y.size<=J8/\n=y.size:=e;subst f;exact PySem.W.len_bytes 'o' ⟨.int _,H,I.tok _,⟨_,rfl⟩,q⟩
 | ref p=>
  cases g;have f:=e;rcases f with⟨xs,i,f⟩|⟨xs,i,f⟩
  ·subst f;obtain⟨o,j,k,v⟩:=I.list i;have d:=j.length;exact Calls.call_len_list k.isList (by simp;lia) ⟨.int xs.length,H,I.tok _,⟨_,by simp only[aP];rw[d]⟩,q⟩
  ·subst f;obtain⟨o,j,k,v⟩:=I.tuple i;have d:=j.length;exact len_tuple k (by simp;lia) ⟨.int xs.length,H,I.tok _,⟨_,by simp only[aP];rw[d]⟩,q⟩
 |_=>exact(e).elim
end
structure zoK(h:aR)(x dx C:af)(mA:au->Option ae):Prop where
 obj:h.get? x=XE (nJ C dx)
 ns:h.Ns1 dx mA
 ne:dx≠x
section
end
def oZ.some_of(r:oZ (XE v) o):∃u,o=XE u/\RelV v u:=by
 cases o with
 |none=>exact(r).elim
 |some u=>exact⟨u,rfl,r⟩
structure O7(K:aj)(C:af):Prop where
 pg:nk K C Str.empty=Y1
 hd:PySem.W.hasDictIn K C=Y1
 po:PySem.W.plainOver K C=Y1
 sa:dR K (.ref C) "__setattr__" = XE (XE (.builtin "object.__setattr__"))
def O7.get{K:aj}{C:af}(c:O7 K C)(f:au):nk K C f=Y1:=c.pg
structure Con(K:aj)(C:af)(f:au)(v:V)(u:ae):Prop where
 at_:dR K (.ref C) f=XE (XE u)
 rel:RelV v u
 get:iB K u "__get__" = XE YP
 cp:PySem.W.copiedNames.contains f=Y2
structure zoJ(K:aj)(C:af)(m:au)(f:af):Prop where
 at_:dR K (.ref C) m=XE (XE (.ref f))
 fn:on K (.ref f)=Y1
 kp:cV K (.ref f)=Y1
section
end
section
variable{H:Hp}
inductive yB(K:aj)(H:Hp):V->ae->Prop where
 |non:yB K H .non (.type "NoneType")
 |bl (x:Bool):yB K H (.bl x) (.type "bool")
 |int (i:Int):yB K H (.int i) (.type "int")
 |str (x:au):yB K H (.str x) (.type "str")
 |flt (x:UInt64):yB K H (.flt x) (.type "float")
 |lst {a:af} {xs:List V} (e:H a=XE (.lst xs)):yB K H (.ref a) (.type "list")
 |frz {a:af} {o:Obj} {xs:List V} (e:H a=XE (.frz o (.lst xs))):yB K H (.ref a) (.type "list")
 |tup {a:af} {xs:List V} (e:H a=XE (.tup xs)):yB K H (.ref a) (.type "tuple")
 |dK {a:af} {i_:List (Key×V)} (e:H a=XE (.dK i_)):yB K H (.ref a) (.type "dict")
 |dT {a:af} {i_:List (List Key×V)} (e:H a=XE (.dT i_)):yB K H (.ref a) (.type "dict")
 | ins {a C dx:af} {fs:List (au×V)} (e:H a=XE (.ins C dx fs)) (cl:O7 K C) (ha:dR K (.ref C) "__class__" = XE (XE (.builtin "object.__class__")))
   (hn:iB K (.builtin "object.__class__") "__get__" = XE (XE (.builtin "getset_descriptor.__get__"))) (qt:kS K (.builtin "object.__class__")=XE Y1)
   (hm:iM K C (.type "object")=XE Y1):yB K H (.ref a) (.ref C)
end
structure oF(k:Nat)(A:aX):Prop where
 hd:A.handled=YP
 dp:A.depth+3*k+5<recursionLimit
 un:A.units+16*k+200<cLine
def oF.mono(r:oF k A)(h:j<=k):oF j A:=⟨r.hd,by have:=r.dp;lia,by have:=r.un;lia⟩
def oF.deeper(r:oF (k+1) A)(env:Env):oF k (A.deeper env):=
 ⟨r.hd,by have:=r.dp;show A.depth+1+3*k+5<_;lia,by have:=r.un;show A.units+3+16*k+200<_;lia⟩
def oF.in1(r:oF (k+1) A):oF k A.in1:=
 ⟨r.hd,by have:=r.dp;show A.depth+3*k+5<_;lia,by have:=r.un;show A.units+1+16*k+200<_;lia⟩
def oF.depth(r:oF k A):A.depth<recursionLimit:=by have:=r.dp;lia
def oF.units(r:oF k A):A.units+64<cLine:=by have:=r.un;lia
def Px:TA:=λ_ H Q=>Q [] H
def PZ(ta:TE)(tr:TA):TA:=λσ H Q=>ta σ H λx H1=>tr σ H1 λxs H2=>Q (x::xs) H2
section
variable{X:Cx}{e:aS}{es:List aS}{te:TE}{t:TA}{pos:Pos}
def B9:PA X [] Px:=λ_ _ _ _ H Q I h=>j4 ⟨[],H,I,.nil,h⟩
def yn(c:PE X e te)(d:PA X es t)(f:aF (e::es) X.env=(Y2,eval e X.env)::aF es X.env:=by rfl):PA X (e::es) (PZ te t):=by intro pos a s b H Q I h;rw[f];refine jI (pS (c a s b H _ I h) λu g ⟨x,i,j,k,l⟩=>?_);exact pS (d pos a g b i _ j l) λr v ⟨m,n,o,p,q⟩=>⟨x::m,n,o,.cons k p,q⟩
def Ye(t:TA):TE:=λσ H Q=>t σ H λxs H1=>xs.length<=J8/\∀p,H1 p=YP->Q (.ref p) (upd H1 p (.tup xs))
def XN(t:TA):TE:=λσ H Q=>t σ H λxs H1=>xs.length<=J8/\∀p,H1 p=YP->Q (.ref p) (upd H1 p (.lst xs))
def QF(h:PA X es t):PE X (.Tuple es x1 pos) (Ye t):=by intro a s f H Q I g;refine wpAny_Tuple_spliced (pS (h pos a s f H _ I g) λi c ⟨j,k,d,r,z,q⟩=>⟨by rw[<- r.length];exact z,?_⟩);have l:=d.hok.fresh (aB _);refine⟨.ref c.heap.objs.size,upd k c.heap.objs.size (.tup j),d.laid (λb u e=>ah _ e) (aB _) ?_,rfl,q _ l⟩;exact⟨z,i,r,oW.new _ _⟩
def QD(h:PA X es t):PE X (.List es pos) (XN t):=by intro a s f H Q I g;refine wpAny_List_spliced (pS (h pos a s f H _ I g) λi c ⟨j,k,d,r,z,q⟩=>⟨by rw[<- r.length];exact z,?_⟩);have l:=d.hok.fresh (aB _);refine⟨.ref c.heap.objs.size,upd k c.heap.objs.size (.lst j),d.laid (λb u e=>ah _ e) (aB _) ?_,rfl,q _ l⟩;exact⟨z,i,0,r,aM _ rfl⟩
end
abbrev Sp:=List V->Hp->VK->XK->Prop
abbrev xh:=List Env->Hp->ag->XK->ae->ag->Prop
structure o0(P:aJ)(w:aU)(K:aj)(mg:au->Option ae)(base:aR)(A:aX)(outer:List Env)(s:ag)(H:Hp):Prop where
 frames:A.frames=XE outer
 mod:Mod K mg base
 bs:∀b o,base.get? b=XE o->s.heap.get? b=XE o/\H b=YP
 bsz:base.objs.size<=s.heap.objs.size
 funs:s.heap.FunFrames base outer
 frf:∀b∈rC outer,H b=YP
 hok:HOk P w H s.heap
 bare:gA s.gens
 tk:0<s.toks
def CE(outer:List Env)(P:aJ)(w:aU)(H:Hp)(s:ag)(Q:VK)(u:ae)(s':ag):Prop:=
 (∃v H',s'.os=s.os/\gA s'.gens/\Un (rC outer) [] H H' s.heap s'.heap/\HOk P w H' s'.heap/\RelV v u/\Q v H')/\0<s'.toks
def CR(CX:xh)(outer:List Env)(P:aJ)(w:aU)(H:Hp)(s:ag)(Q:VK)(E:XK)(r:Result)(s':ag):Prop:=
 match r with
 |.ok (.ret u)=>CE outer P w H s Q u s'
 |.ok _=>False
 |.error e=>CX outer H s E e s'
structure oP(P:aJ)(w:aU)(K:aj)(mg:au->Option ae)(base:aR)(CX:xh)(k:Nat)(f:af)(fd:dL)(ps:List au)(sp:Sp):Prop where
 len:∀vs H Q E,sp vs H Q E->vs.length=ps.length
 run:∀(A:aX)(outer:List Env)(s:ag)(H:Hp)(args:Args)(us:List ae)(vs:List V)(Q:VK)(E:XK),oF k A->o0 P w K mg base A outer s H->i3 s fd args (ps.zip us)->oE vs us->sp vs H Q E->
  codeAny (ax P w) A (.call (.ref f) args) (CR CX outer P w H s Q E) s
def oP.mono{P:aJ}{w:aU}{K:aj}{c:au->Option ae}{base:aR}{d:xh}{j k:Nat}{f:af}{e:dL}{g:List au}{i:Sp}(F:oP P w K c base d j f e g i)(h:j<=k):
  oP P w K c base d k f e g i:=⟨F.len,λA a s H b l m Q E n=>F.run A a s H b l m Q E (n.mono h)⟩
def oP.imp{P:aJ}{w:aU}{K:aj}{c:au->Option ae}{base:aR}{d:xh}{k:Nat}{f:af}{e:dL}{g:List au}{i j:Sp}(F:oP P w K c base d k f e g i)
  (h:∀vs H Q E,j vs H Q E->i vs H Q E):oP P w K c base d k f e g j:=
 ⟨λvs H Q E q=>F.len vs H Q E (h _ _ _ _ q),λA a s H b l vs Q E m n o p r=>F.run A a s H b l vs Q E m n o p (h _ _ _ _ r)⟩
def o0.in1{P:aJ}{w:aU}{K:aj}{b:au->Option ae}{base:aR}{A:aX}{a:List Env}{s:ag}{H:Hp}(e:o0 P w K b base A a s H):
  o0 P w K b base A.in1 a s H:=⟨e.frames,e.mod,e.bs,e.bsz,e.funs,e.frf,e.hok,e.bare,e.tk⟩
section
variable{X:Cx}{Xd:List (af×Obj)}{σ:St}{H:Hp}{s s':ag}
def Inv.env0(I:Inv X Xd σ H s):o0 X.prog X.w X.K X.mg X.base X.A X.stack s H:=
 ⟨I.ok.frames,I.ok.mod,I.bs,aG I.ok.bsz I.sz,I.stack,I.stkFree,I.hok,I.bare,I.tk⟩
def Inv.after(I:Inv X Xd σ H s)(h:CE X.stack X.prog X.w H s Q u s'):EP X Xd σ Q u s':=by obtain⟨⟨v,e,f,a,i,c,r,q⟩,j⟩:=h;obtain⟨l,g,d,t,k⟩:=s';obtain rfl:k=s.os:=f;exact⟨v,e,I.call i c a (λb z=>absurd z 'd') j,r,q⟩
end
def Yq(sp:Sp)(dvs:List V)(E:XK)(t:TA):TE:=λσ H Q=>t σ H λvs H1=>sp (vs++dvs) H1 Q E
def Binds(K:aj)(fd:dL)(ps:List au)(ds:List ae):Prop:=
 ∀(s:ag)(us:List ae),K.In s.heap->(us++ds).length=ps.length->i3 s fd ⟨us,[]⟩ (ps.zip (us++ds))
def Binds.all{K:aj}{c:dL}{b:List au}(h:∀a:List ae,a.length=b.length->bindArgs c ⟨a,[]⟩=pure (b.zip a)):Binds K c b []:=λs a _ d=>by
 rw[bP] at d ⊢;exact .of_eq (h a d)
def Bn(CX:xh)(X:Cx)(E:XK):Prop:=∀(Xd:List (af×Obj))(σ:St)(H:Hp)(s:ag)(e:ae)(s':ag),Inv X Xd σ H s->CX X.stack H s E e s'->X.xe e s'
section
variable{X:Cx}{CX:xh}{k:Nat}{f C:af}{fd:dL}{ps:List au}{sp:Sp}{dvs:List V}{ds:List ae}{E:XK}{x:au}{p pos:Pos}{e:aS}{es:List aS}{t:TA}
def YX(F:oP X.prog X.w X.K X.mg X.base CX k f fd ps sp)(c:oF k X.A)(d:Binds X.K fd ps ds)(g:oE dvs ds)(i:Bn CX X E)
  (I:Inv X Xd σ H s) (r:oE vs us) (h:sp (vs++dvs) H Q E):aq (ax X.prog X.w) X.A (call (.ref f) us) (EP X Xd σ Q) X.xe s:=by
 have b:=r.append g;have j:(us++ds).length=ps.length:=by rw[<- b.length];exact F.len _ _ _ _ h
 refine jc (eL (F.run X.A X.stack s H ⟨us,[]⟩ (us++ds) (vs++dvs) Q E c I.env0 (d s us I.kIn j) b h) λr l a=>?_);cases r with
 |error e=>exact i Xd σ H s e l I a
 | ok fl=>
  cases fl with
  |ret u=>exact I.after a
  |next=>exact ai a
  |brk=>exact ai a
  |cont=>exact ai a
def LU(F:oP X.prog X.w X.K X.mg X.base CX k f fd ps sp)(c:oF k X.A)(d:Gl X x)(g:X.mg x=XE (.ref f))(i:cV X.K (.ref f)=Y1)(j:Binds X.K fd ps ds)(l:oE dvs ds)(m:Bn CX X E)
  (n:PA X (e::es) t) (o:rH x:=by decide) (u:aF (e::es) X.env=(Y2,eval e X.env)::aF es X.env:=by rfl) (v:(backTo pos (aF es X.env)).any (·.1)=Y2:=by rfl):
  PE X (.Call (.Name x p) (e::es) [] pos) (Yq sp dvs E t):=by intro a s y H Q I h;refine fv (Fq I d g ?_ o);refine ms I.ok.mod.kin i (pS (n pos a s y H _ I h) λz B ⟨D,G,b,r,q⟩=>⟨b.kIn,?_⟩) u v;exact YX F c j l m b r q
structure Mk(K:aj)(C f:af):Prop where
 makes:PySem.W.makesIn K C=Y1
 init:dR K (.ref C) "__init__" = XE (XE (.ref f))
 fn:on K (.ref f)=Y1
 kp:cV K (.ref C)=Y1
end
section
variable{fd:dL}{ps ks:List au}
structure zo1(K:aj)(fd:dL)(ps ks:List au)(g:List ae->List ae->List ae)(gV:List V->List V->List V):Prop where
 to:∀(s:ag)(us ws:List ae),K.In s.heap->(g us ws).length=ps.length->i3 s fd ⟨us,ks.zip ws⟩ (ps.zip (g us ws))
 rel:∀{vs:List V}{us:List ae}{zs:List V}{ws:List ae},oE vs us->oE zs ws->oE (gV vs zs) (g us ws)
end
structure rO(N P:List au)(sc:cf):Prop where
 kind:sc.kind=.function
 co:sc.isCoroutine=Y2
 gen:sc.isGenerator=Y2
 nd:N.Nodup
 pre:N.take P.length=P
 par:∀x∈P,sc.names.lookup x=XE .local\/sc.names.lookup x=XE .cell
 nofree:∀y∈sc.names,y.2 ≠ .free
theorem UY{a:au->Option dB}{x:au}:∀{binds:List (au×ae)}{m:au->Option ae},(∀v,(x,v)∉binds)->bindL a binds m x=m x
 |[],_,_=>rfl
 | (n,v)::r,m,h=>by
  unfold bindL;rw[UY λw b=>h w (al _ b)];split
  ·have:x≠n:=by rintro rfl;exact h v av
   simp[this]
  ·rfl
theorem US{a:au->Option dB}{x:au}:∀{binds:List (au×ae)}{m:au->Option ae},(∀v,(x,v)∉binds)->bindC a binds m x=m x
 |[],_,_=>rfl
 | (n,v)::r,m,h=>by
  unfold bindC;rw[US λw b=>h w (al _ b)];split
  ·rfl
  ·have:x≠n:=by rintro rfl;exact h v av
   simp[this]
theorem U4{a:au->Option dB}{x:au}{v:ae}:∀{P:List au}{vs:List ae}{i:Nat}{m:au->Option ae},P.Nodup->P[i]?=XE x->vs[i]?=XE v->a x=XE .local->
  bindL a (P.zip vs) m x=XE v
 |[],_,_,_,_,h,_,_=>by simp at h
 |_::_,[],_,_,_,_,h,_=>by simp at h
 | p::P,w::vs,0,m,nd,h1,h2,hk=>by
  simp at h1 h2;subst h1;subst h2;show bindL a ((p,w)::P.zip vs) m p=_;unfold bindL;rw[UY λv b=>(bA.mp nd).1 (jd b).1,JU hk];simp
 | p::P,w::vs,i+1,m,nd,h1,h2,hk=>by
  unfold bindL;exact U4 (i:=i) (bA.mp nd).2 ⇑h1 ⇑h2 hk
theorem Vg{a:au->Option dB}{x:au}{v:ae}:∀{P:List au}{vs:List ae}{i:Nat}{m:au->Option ae},P.Nodup->P[i]?=XE x->vs[i]?=XE v->a x≠XE .local->
  bindC a (P.zip vs) m x=XE v
 |[],_,_,_,_,h,_,_=>by simp at h
 |_::_,[],_,_,_,_,h,_=>by simp at h
 | p::P,w::vs,0,m,nd,h1,h2,hk=>by
  simp at h1 h2;subst h1;subst h2;show bindC a ((p,w)::P.zip vs) m p=_;unfold bindC;rw[US λv b=>(bA.mp nd).1 (jd b).1,J5 hk];simp
 | p::P,w::vs,i+1,m,nd,h1,h2,hk=>by
  unfold bindC;exact Vg (i:=i) (bA.mp nd).2 ⇑h1 ⇑h2 hk
def start(N:List au)(vs:List V):St:=vs.map XE++aw (N.length-vs.length) YP
noncomputable def zy(CX:xh)(P:aJ)(w:aU)(K:aj)(mg:au->Option ae)(base:aR)(N:List au)(qual:au)(scope:cf)(f:af)(cd:ae)(A:aX)(outer:List Env)(s:ag)(H:Hp)(E:XK):Cx where
 prog:=P
 w:=w
 K:=K
 mg:=mg
 base:=base
 A:=A.deeper (envOfC qual scope s.heap.objs.size f cd)
 N:=N
 s₀:=s
 H₀:=H
 env:=envOfC qual scope s.heap.objs.size f cd
 outer:=outer
 stack:=envOfC qual scope s.heap.objs.size f cd::outer
 ex:=[]
 calm:=Y1
 fn:=λ_=>Y1
 pn:=[]
 xe:=λe s'=>aq (ax P w) (A.deeper (envOfC qual scope s.heap.objs.size f cd)) (leaving (envOfC qual scope s.heap.objs.size f cd) e) (λ_ sM=>CX outer H s E e sM) (λe' sM=>CX outer H s E e' sM) s'
def Td{a:cf}{n:Nat}{x:au}(h:a.names.lookup x=XE .cell):∃c,(ck n a.names []).lookup x=XE c:=by have q:=gh a.names n [] (.inl h);exact ij.mp q
def U_{G:xh}{P:aJ}{w:aU}{K:aj}{C:au->Option ae}{base:aR}{N m:List au}{g:au}{scope:cf}{f:af}{o:ae}{A:aX}{d:List Env}{s s1:ag}{H:Hp}{E:XK}{D:List ae}{vs:List V}
  (S:rO N m scope) (M:A.handled=YP) (l:o0 P w K C base A d s H) (T:vs.length=m.length) (r:oE vs D)
  (x:InCallC s s.heap.objs.size (bindL (envOfC g scope s.heap.objs.size f o).kindOf (m.zip D) λ_=>YP) (ck (s.heap.objs.size+1) scope.names []) (bindC (envOfC g scope s.heap.objs.size f o).kindOf (m.zip D) λ_=>YP) s1) (O:0<s1.toks):
  Inv (zy G P w K C base N g scope f o A d s H E) [] (start N vs) H s1:=by
 have U:m.length<=N.length:=by have:=congrArg jC S.pre;rw[bT] at this;lia
 obtain⟨t,W,rfl,I⟩:=x.done;have F:∀b:af,b∉(zy G P w K C base N g scope f o A d s H E).ex:=λb z=>absurd (show b∈([]:List af) from z) 'd';refine⟨⟨l.mod,S.kind,rfl,rfl,aB _,λy z c t j=>?_,λy hy=>?_,λy c _ h=>?_,λ_=>M,je l.frames,.inr ⟨rfl,rfl⟩,λb z=>absurd z (F b),l.bs,l.bsz,λb _ _=>F b,λb z=>absurd z (F b),l.funs,l.frf⟩,
  rfl,l.bare,Un.kept I,⟨_,x.toInCall.ns,λi y v t j X=>?_⟩,λy c h=>⟨_,x.cell y c h⟩,l.hok.fresh (aB _),λy c h=>?_,λp n=>absurd (show p∈([]:List (af×Obj)) from n) 'd',l.hok.kept I,?_,O⟩
 ·exact name_of_addr x.apart (bu t) (bu j)
 ·have hy:=hy;rcases hy with hy|hy
  ·exact Td hy
  ·exact absurd rfl (S.nofree _ (bu hy))
 ·exact i8 (x.above y c (bu h))
 ·have B:i<vs.length:=by
   unfold start at j;by_cases B:i<vs.length
   ·exact B
   ·rw[a8 ⇑B] at j;rw[fc] at j;split at j<;>cases j
  have Q:vs[i]?=XE v:=by
   unfold start at j;rw[aI ⇑B,bC] at j;cases e:vs[i]? with
   |none=>rw[e] at j;cases j
   |some a=>rw[e] at j;cases j;rfl
  obtain⟨u,J,R⟩:=r.get Q;have n:m[i]?=XE y:=by
   rw[<- S.pre,fX 'o'];exact t
  have L:m.Nodup:=by rw[<- S.pre];exact S.nd.sublist (cR _ _)
  refine⟨u,R,?_⟩;rcases S.par y (aO n) with k|k
  ·exact .inl ⟨k,U4 L n J k⟩
  ·obtain⟨c,e⟩:=Td k;refine .inr ⟨.inl k,c,e,?_⟩;have q:=x.cell y c e;rw[Vg L n J (by show scope.names.lookup y≠_;rw[k];decide)] at q;exact q
 ·exact l.hok.fresh (i8 (x.above y c (bu h)))
 ·unfold start;show _=N.length;rw[aA,aD,i4];lia
def rq{z:xh}{P:aJ}{w:aU}{K:aj}{B:au->Option ae}{base:aR}{k:Nat}{f:af}{name c:au}{d:eG}{body:List cT}{scope:cf}{O R l T h U oc:ae}{W od:Option af}
  {sv:Array (Option ae)} {N C:List au} {D:Sp} (lk:K.lookup f=XE ⟨oc,od,.func (bi name c d body scope O R l T W h U),sv⟩) (qp:cX K h c=Y1) (S:rO N C scope)
  (m:∀vs H Q E,D vs H Q E->vs.length=C.length)
  (pO:∀(A:aX)(a:List Env)(s:ag)(H:Hp)(vs:List V)(Q:VK)(E:XK),oF k (A.deeper (envOfC c scope s.heap.objs.size f h))->D vs H Q E->
   ∃t,sE (zy z P w K B base N c scope f h A a s H E) body t/\t { nx:=λ_ H'=>Q .non H',rt:=Q } (start N vs) H):
  oP P w K B base z (k+1) f (bi name c d body scope O R l T W h U) C D:=by
 refine⟨m,λA a s H X us vs Q E F i hb r Y=>?_⟩;have hl:=m _ _ _ _ Y;have Z:=i.mod.kin.keeps λb o e=>(i.bs b o e).1;have G:=i.mod.nolimit.keeps λb o e=>(i.bs b o e).1;have yX:∀y∈C.zip us,scope.names.lookup y.1=XE .local\/(scope.names.lookup y.1=XE .cell/\((ck (s.heap.objs.size+1) scope.names []).lookup y.1).isSome=Y1):=λ⟨n,v⟩ hy=>by
  rcases S.par n (jd hy).1 with q|q
  ·exact .inl q
  ·exact .inr ⟨q,gh _ _ _ (.inl q)⟩
 refine lq F.depth (Z _ _ lk) rfl S.co S.gen rfl (mw Z qp) (hb _ _ _ _ (f8 i.tk (jV S.kind yX λenv he s1 x qt=>?_)));subst he;refine⟨G.keeps x.toInCall.keep,codeAny_func ?_⟩;obtain⟨t,ht,hq⟩:=pO A a s H vs Q E (F.deeper _) Y;have I:Inv (zy z P w K B base N c scope f h A a s H E) [] (start N vs) H s1:=U_ S F.hd i hl r x qt;refine ci (ht [] s1 (start N vs) H _ I hq) (λfl L j=>?_) λe L j=>j;have p:∀{g:St}{H':Hp}{v:V}{u:ae},Inv (zy z P w K B base N c scope f h A a s H E) [] g H' L->RelV v u->Q v H'->CE a P w H s Q u L:=
  λ{g H' v u}J M q=>⟨⟨v,H',J.os,J.bare,J.base,J.hok,M,q⟩,J.tk⟩
 cases fl with
 | ret u=>
  obtain⟨v,g,H',J,M,q⟩:=j;exact p J M q
 | next=>
  obtain⟨g,H',J,q⟩:=j;exact p (v:=V.non) J rfl q
 | brk=>
  obtain⟨_,_,_,q⟩:=j;exact ai q
 | cont=>
  obtain⟨_,_,_,q⟩:=j;exact ai q
section
variable{X:Cx}{x:au}{p pos:Pos}{e:aS}{es:List aS}{t:TA}{id T:String}{r:List V->Hp->VK->Prop}
def JV(r:List V->Hp->VK->Prop)(t:TA):TE:=λσ H Q=>t σ H λvs H1=>r vs H1 Q
def Fx(c:oO X (.builtin id) r)(d:Gl X x)(f:X.mg x=YP)(g:bo x=XE (.builtin id))(i:PA X (e::es) t)(j:x ≠ "__name__":=by decide)(k:rH x:=by decide)
  (l:aF (e::es) X.env=(Y2,eval e X.env)::aF es X.env:=by rfl) (m:(backTo pos (aF es X.env)).any (·.1)=Y2:=by rfl):PE X (.Call (.Name x p) (e::es) [] pos) (JV r t):=by intro a s b H Q I h;refine fv (Bk I d f g ?_ j k);exact PyProof.Rows.callWith_builtin1 (pS (i pos a s b H _ I h) λn o ⟨q,u,v,w,y⟩=>c a o b u q n Q v w y) l m
def UQ(c:oO X (.type T) r)(d:Gl X x)(f:X.mg x=YP)(g:bo x=XE (.type T))(i:PA X (e::es) t)(j:x ≠ "__name__":=by decide)(k:rH x:=by decide)
  (l:aF (e::es) X.env=(Y2,eval e X.env)::aF es X.env:=by rfl) (m:(backTo pos (aF es X.env)).any (·.1)=Y2:=by rfl):PE X (.Call (.Name x p) (e::es) [] pos) (JV r t):=by intro a s b H Q I h;refine fv (Bk I d f g ?_ j k);exact el (pS (i pos a s b H _ I h) λn o ⟨q,u,v,w,y⟩=>c a o b u q n Q v w y) l m
end
end L2
namespace HT
open PySem PyProof.Rows
section
open PySem.SeqAt
open PySem.AutoSeq1 (wpAny_loadPart')
open PySem.MeetsSeq PySem.MeetsSeq2 PySem.MeetsSeq3
end
section
variable{prog:aJ}{w:aU}{A:aX}{E:ae->ag->Prop}{s:ag}
def cat_tup(o:IsTup s.heap t vs.toArray)(p:IsTup s.heap b ws.toArray)(h:vs≠[])
  (q:ws=[]->Q (.ref t) s) (r:ws≠[]->Q (.ref s.heap.objs.size) { s with heap:=s.heap.push { cls:=.type "tuple",data:=.seq (vs++ws).toArray } })
  (u:vs.length+ws.length<=J8):aq (ax prog w) A (dU .Add (.ref t) (.ref b)) Q E s:=by
 obtain⟨⟨cls,i,data,j⟩,a,v,n,x⟩:=id o;obtain⟨⟨z,k,f,l⟩,c,y,m,g⟩:=id p;subst v x y g;have e:vs.toArray++ws.toArray=(vs++ws).toArray:=by simp
 by_cases d:ws=[]
 ·exact jJ ⟨_,a,rfl⟩ ⟨_,c,rfl⟩ kn lZ iE iz (ik _ _)
   (tuple_addW1 t b vs.toArray ws.toArray n m i k j l ⇑h (by simp[d])) ⟨a,c,q d⟩
 ·refine jJ ⟨_,a,rfl⟩ ⟨_,c,rfl⟩ kn lZ iE iz (ik _ _)
   (tuple_addW2 t b vs.toArray ws.toArray n m i k j l ⇑h ⇑d (by rw[aP,aP];exact u)) ⟨a,c,?_⟩
  rw[e];exact r d
def sIx(n d:Nat):Option Int->Nat
 |none=>d
 |some v=>if v<0 then (v+(n:Int)).toNat else min v.toNat n
def zo3(n d:Nat)(b:d<=n)(o:Option Int):sIx n d o<=n:=by
 cases o with
 |none=>exact b
 | some v=>
  show(if v<0 then (v+(n:Int)).toNat else min v.toNat n)<=n;by_cases a:v<0
  ·rw[JU a];lia
  ·rw[J5 a];exact nq _ _
def RH(v:Int)(n d:Nat):(if v<0 then max (v+(n:Int)) 0 else min v (n:Int))=((sIx n d (XE v):Nat):Int):=by
 show(if v<0 then max (v+(n:Int)) 0 else min v (n:Int))=(((if v<0 then (v+(n:Int)).toNat else min v.toNat n):Nat):Int);by_cases a:v<0
 ·simp only[JU a];lia
 ·simp only[J5 a];lia
def zba(lo a:Option Int)(n:Nat):hU lo a 1 (n:Int)=(((sIx n 0 lo:Nat):Int),((sIx n n a:Nat):Int)):=by
 have b:¬ ((1:Int)<0):=by lia
 unfold hU;refine nj ?_ ?_
 ·cases lo with
  |none=>rfl
  |some v=>exact RH v n 0
 ·cases a with
  |none=>rfl
  |some v=>exact RH v n n
def zaR(i j:Nat):fQ (i:Int) (j:Int) 1=j-i:=by
 unfold fQ;have a:(1:Int)>0:=by lia
 split<;>lia
def VJ(p:jf v o)(h:Q o s):aq (ax prog w) A (Builtin.Slice.slicePartIndex v) Q E s:=by
 cases p with
 |none=>exact slicePart_none h
 |int i t=>exact slicePart_int h
def z4L{sl:af}{d e:ae}{lo a:Option Int}{n:Nat}{Q:Int×Int×Nat->ag->Prop}(f:s.heap.IsSliceOf sl d e .none)(g:jf d lo)(i:jf e a)
  (h:Q (((sIx n 0 lo:Nat):Int),1,sIx n n a-sIx n 0 lo) s):aq (ax prog w) A (Builtin.Slice.sliceApplied (.ref sl) (pure (n:Int))) Q E s:=by obtain⟨j,b,k,c⟩:=id f;refine aa (aa (bF b c rfl (aa (bF b c rfl (aa (bF b c rfl (am ?_)))))));refine aa (slicePart_none ?_);refine aa (VJ g (aa (VJ i (aa (am ?_)))));show aq _ _ (match hU lo a 1 (n:Int) with|(lo,a)=>pure (lo,(1:Int),fQ lo a 1)) _ _ s;rw[zba lo a n];show aq _ _ (pure (((sIx n 0 lo:Nat):Int),(1:Int),fQ ((sIx n 0 lo:Nat):Int) ((sIx n n a:Nat):Int) 1)) _ _ s;rw[zaR];exact am h
def zfm(xs:Array ae)(i k:Nat):((aW k).filterMap λ(m:Nat)=>xs[((i:Int)+(m:Int)*1).toNat]?).toArray=((xs.toList.drop i).take k).toArray:=by
 have e:(λ(m:Nat)=>xs[((i:Int)+(m:Int)*1).toNat]?)=λm=>xs[i+m]?:=by
  funext m;have:((i:Int)+(m:Int)*1).toNat=i+m:=by lia
  rw[this]
 rw[e];have:=pick_run xs i k;rw[List.filterMap_map] at this;have a:((λx=>xs[x]?)∘λx=>i+x)=λm=>xs[i+m]?:=rfl;rw[a] at this;rw[this]
def getItem_tuple_cut{t sl:af}{items:Array ae}{f g:ae}{lo a:Option Int}{Q:ae->ag->Prop}(b:IsTup s.heap t items)(i:s.heap.IsSliceOf sl f g .none)(j:jf f lo)(k:jf g a)
  (l:¬ (sIx items.size 0 lo=0/\sIx items.size items.size a=items.size))
  (h:Q (.ref s.heap.objs.size) { s with heap:=s.heap.push { cls:=.type "tuple",data:=.seq ((items.toList.drop (sIx items.size 0 lo)).take (sIx items.size items.size a-sIx items.size 0 lo)).toArray } })
  (p:items.size<=J8):aq (ax prog w) A (getItem (.ref t) (.ref sl)) Q E s:=by
 have c:sizeOk (.seq ((items.toList.drop (sIx items.size 0 lo)).take (sIx items.size items.size a-sIx items.size 0 lo)).toArray):=by
  show((items.toList.drop (sIx items.size 0 lo)).take (sIx items.size items.size a-sIx items.size 0 lo)).toArray.size<=J8;rw[aP,bT,cq,aN];lia
 obtain⟨m,n,o,r⟩:=id i;have d:s.TypeIs (.ref sl) "slice":=⟨m,n,o⟩;unfold getItem
 try with_reducible refine bL ?_
 first|refine aa (am ?_)|skip
 refine aa (wpAny_sequenceKey b.typeIs 's' ?_);refine aa (dH b.typeIs ft
  (dM ft b.typeIs entry_tuple_getitem ?_ (args_tuple_getitem _ _)))
 show aq _ _ (Builtin.Tuple.tupleItemsOf (.ref t) >>= _) _ _ s;refine aa (tupleItemsOf_ b (aa (wpAny_typeOf d ?_)));refine aa (z4L i j k ?_);have e:¬ ((((sIx items.size 0 lo:Nat):Int)==0&&(1:Int)==1&&(sIx items.size items.size a-sIx items.size 0 lo)==items.size)=Y1):=by
  intro q;rw[br,br] at q;have u:=eq_of_beq q.1.1;have v:=eq_of_beq q.2;exact l ⟨by lia,by lia⟩
 show aq _ _ (if (((sIx items.size 0 lo:Nat):Int)==0&&(1:Int)==1&&(sIx items.size items.size a-sIx items.size 0 lo)==items.size)=Y1 then _ else _) _ _ s;rw[J5 e,zfm]
 first
  |exact aa (cx (am ⟨_,rfl,am h⟩) c)
  |exact aa (cx (aa (am (am ⟨_,rfl,am h⟩))) c)
  |exact aa (aa (cx (am (am ⟨_,rfl,am h⟩)) c))
  |exact aa (aa (cx (am ⟨_,rfl,am h⟩) c))
end
end HT
namespace L2
open PySem PySem.Spec PyProof.Rows
abbrev TO:=St->Hp->(Option Int->Hp->Prop)->Prop
def PO(X:Cx)(e:Option aS)(t:TO):Prop:=
 ∀(Xd:List (af×Obj))(s:ag)(σ:St)(H:Hp)(Q:Option Int->Hp->Prop),Inv X Xd σ H s->t σ H Q->
  aq (ax X.prog X.w) X.A (evalPart e X.env) (λu s'=>∃o H',Inv X Xd σ H' s'/\jf u o/\Q o H') X.xe s
def zik:TO:=λ_ H Q=>Q YP H
def Yr(t:TE):TO:=λσ H Q=>t σ H λx H1=>∃i,x=.int i/\Q (XE i) H1
def VF:∀{a:List ae},oE (ns.map V.int) a->lr a ns:=by
 induction ns with
 |nil=>intro a r;rw[il] at r;cases r;exact .nil
 | cons n ns ih=>
  intro a r;cases r with
  | cons r1 r2=>
   obtain⟨t,e⟩:=r1;subst e;exact .cons n t (ih r2)
section
variable{X:Cx}{e:aS}{te:TE}{lo hi:Option aS}{tl th:TO}{pos p2:Pos}
def zhG:PO X YP zik:=by intro a s b H Q I h;exact am ⟨YP,H,I,.none,h⟩
def ziI(h:PE X e te):PO X (XE e) (Yr te):=by intro a s b H Q I c;refine pS (h a s b H _ I c) λu k ⟨x,d,f,g,j⟩=>?_;obtain⟨i,rfl,q⟩:=j;obtain⟨t,rfl⟩:=g;exact⟨XE i,d,f,.int i t,q⟩
def zZ(X:Cx)(r:V->Option Int->Option Int->Hp->VK->Prop):Prop:=
 ∀(Xd:List (af×Obj))(s:ag)(σ:St)(H:Hp)(x:V)(v vl vu:ae)(lo hi:Option Int)(sl:af)(Q:VK),Inv X Xd σ H s->RelV x v->s.heap.IsSliceOf sl vl vu .none->jf vl lo->jf vu hi->r x lo hi H Q->
  ∃T id,typeLookup (.type T) "__getitem__" = pure (XE (.builtin id))/\s.TypeIs v T/\aq (ax X.prog X.w) X.A (getItem v (.ref sl)) (EP X Xd σ Q) X.xe s
def zZ.or(h:zZ X r)(h':zZ X r'):zZ X (λx lo hi H Q=>r x lo hi H Q\/r' x lo hi H Q):=by
 intro a s b H x v c d lo hi f Q I g i j k q;rcases q with q|q
 ·exact h a s b H x v c d lo hi f Q I g i j k q
 ·exact h' a s b H x v c d lo hi f Q I g i j k q
noncomputable def tSl(r:V->Option Int->Option Int->Hp->VK->Prop)(te:TE)(tl th:TO):TE:=λσ H Q=>te σ H λx H1=>tl σ H1 λl H2=>th σ H2 λu H3=>r x l u H3 Q
def zfl(j:zZ X r)(k:PE X e te)(m:PO X lo tl)(n:PO X hi th):PE X (.Subscript e (.Slice lo hi YP p2) pos) (tSl r te tl th):=by intro a s c H Q I h;refine Subscript_ (pS (k a s c H _ I h) λv o ⟨x,p,t,w,y⟩=>?_);refine wpAny_Slice (pS (m a o c p _ t y) λf z ⟨l,A,B,C,D⟩=>pS (n a z c A _ B D) λg d ⟨u,i,E,F,G⟩=>?_);refine am ?_;have J:Inv X a c i { d with heap:=d.heap.push { cls:=.type "slice",data:=.fields #[f,g,.none] } }:=E.kept λb N q=>ah _ q;obtain⟨T,O,K,L,M⟩:=j a { d with heap:=d.heap.push { cls:=.type "slice",data:=.fields #[f,g,.none] } } c i x v f g l u d.heap.objs.size Q J w (oA ..) C F G;exact tail_any L K M (by with_unfolding_all rfl)
def DD(xs:List V)(lo hi:Option Int):List V:=(xs.drop (HT.sIx xs.length 0 lo)).take (HT.sIx xs.length xs.length hi-HT.sIx xs.length 0 lo)
def VA(xs:List V)(lo hi:Option Int):(DD xs lo hi).length<=xs.length:=by unfold DD;rw[bT,cq];lia
def X6(K:aj):V->Option Int->Option Int->Hp->VK->Prop:=λx lo hi H Q=>∃a xs,x=.ref a/\rW K H a xs/\
 ¬ (HT.sIx xs.length 0 lo=0/\HT.sIx xs.length xs.length hi=xs.length)/\∀p,H p=YP->Q (.ref p) (upd H p (.tup (DD xs lo hi)))
def zkV:zZ X (X6 X.K):=by
 intro f s t H x v u w lo hi y Q I j k l m h;obtain⟨a,d,rfl,n,o,q⟩:=h;cases j;obtain⟨p,r,g,i⟩:=I.tuple n;have c:p.toArray.size=d.length:=by rw[aP];exact r.length.symm
 refine⟨"tuple",_,ft.lookup,g.typeIs,?_⟩;refine HT.getItem_tuple_cut g k l m (by rw[c];exact o) ?_ (by rw[c];exact i);rw[c];refine⟨.ref s.heap.objs.size,_,I.laid (λb z q=>ah _ q) (aB _) ?_,rfl,q _ (I.hok.fresh (aB _))⟩;exact⟨aG (VA d lo hi) i,_,(r.drop (HT.sIx d.length 0 lo)).take (HT.sIx d.length d.length hi-HT.sIx d.length 0 lo),oW.new _ _⟩
def Qc(K:aj):R2:=λx y H Q=>∃a b xs ys,x=.ref a/\y=.ref b/\rW K H a xs/\rW K H b ys/\xs≠[]/\xs.length+ys.length<=J8/\
 (ys=[]->Q (.ref a) H)/\(ys≠[]->∀p,H p=YP->Q (.ref p) (upd H p (.tup (xs++ys))))
def oE.nil_iff(r:oE xs us):us=[]↔xs=[]:=by
 cases r with
 |nil=>simp
 |cons _ _=>simp
def zjC:qI X (dU .Add) (Qc X.K):=by intro f s r H x y v u Q I i j h;obtain⟨a,b,t,A,rfl,rfl,k,l,m,g,n,o⟩:=h;cases i;cases j;obtain⟨B,d,p,_⟩:=I.tuple k;obtain⟨C,c,p2,_⟩:=I.tuple l;refine HT.cat_tup p p2 (λz=>m (d.nil_iff.mp z)) (λz=>⟨.ref a,H,I,rfl,n (c.nil_iff.mp z)⟩) (λz=>?_) (by rw[<- d.length,<- c.length];exact g);refine⟨.ref s.heap.objs.size,_,I.laid (λb D q=>ah _ q) (aB _) ?_,rfl,o (λw=>z (c.nil_iff.mpr w)) _ (I.hok.fresh (aB _))⟩;exact⟨by rw[aA];exact g,_,d.append c,oW.new _ _⟩
end
noncomputable def ixN(n:Nat)(i:Int):Option Nat:=if 0<=i then (if i<n then XE i.toNat else YP) else if -(n:Int)<=i then XE (i+n).toNat else YP
def atI{α:Type}(xs:List α)(i:Int):Option α:=(ixN xs.length i).bind λj=>xs[j]?
def RY(h:ixN n i=XE j):seqIndex? i n=XE j/\j<n/\-(n:Int)<=i/\i<n:=by
 unfold ixN at h;by_cases b:0<=i
 ·rw[JU b] at h;by_cases a:i<n
  ·rw[JU a] at h;have e:=cA h;exact⟨by rw[m8 b a,e],by lia,by lia,a⟩
  ·rw[J5 a] at h;cases h
 ·rw[J5 b] at h;by_cases a:-(n:Int)<=i
  ·rw[JU a] at h;have e:=cA h;exact⟨by rw[seqIndex_neg 'o' a,e],by lia,a,by lia⟩
  ·rw[J5 a] at h;cases h
def LY{α:Type}{xs:List α}{i:Int}{v:α}(h:atI xs i=XE v):∃j,seqIndex? i xs.length=XE j/\xs[j]?=XE v/\j<xs.length/\-(xs.length:Int)<=i/\i<xs.length:=by
 unfold atI at h;cases e:ixN xs.length i with
 |none=>rw[e] at h;cases h
 | some j=>
  rw[e] at h;obtain⟨a,b,c,d⟩:=RY e;exact⟨j,a,h,b,c,d⟩
def atI_nat{α:Type}{xs:List α}{j:Nat}{v:α}(h:xs[j]?=XE v):atI xs (j:Int)=XE v:=by
 have a:=(ak.mp h).1;have e:ixN xs.length (j:Int)=XE j:=by
  unfold ixN;rw[JU 'o',JU 'o'];simp
 unfold atI;rw[e];exact h
def Sh(b:aS):Prop:=∀o i,subscripted b Y2 o i=operate [o,i] (getItem o i)
def A4(X:Cx)(r:R2):Prop:=
 ∀(value slice:aS)(Xd:List (af×Obj))(s:ag)(σ:St)(H:Hp)(x y:V)(v u:ae)(Q:VK),Inv X Xd σ H s->RelV x v->RelV y u->r x y H Q->
  subscripted slice Y2 v u=operate [v,u] (getItem v u)->aq (ax X.prog X.w) X.A (subscriptTail value slice v u) (EP X Xd σ Q) X.xe s
def OV(X:Cx)(id:String)(r:V->List V->Hp->VK->Prop):Prop:=
 ∀(Xd:List (af×Obj))(s:ag)(σ:St)(H:Hp)(x:V)(xs:List V)(v:ae)(us:List ae)(Q:VK),Inv X Xd σ H s->RelV x v->oE xs us->r x xs H Q->
  aq (ax X.prog X.w) X.A (call (.builtin id) (v::us)) (EP X Xd σ Q) X.xe s
section
variable{X:Cx}{a b:aS}{ta tb:TE}{pos:Pos}
def A4.or(h:A4 X r)(h':A4 X r'):A4 X (λx y H Q=>r x y H Q\/r' x y H Q):=by
 intro c d e s f H x y v u Q I g i q j;rcases q with q|q
 ·exact h c d e s f H x y v u Q I g i q j
 ·exact h' c d e s f H x y v u Q I g i q j
def YS(d:A4 X r)(e:PE X a ta)(f:PE X b tb)(g:Sh b):PE X (.Subscript a b pos) (F0 r ta tb):=by intro c s i H Q I h;exact Subscript_ (KL e f I h λv u j x y k l m n q=>d a b c j i k x y v u Q l m n q (g _ _))
def Pu(K:aj):R2:=λx y H Q=>∃p xs i v,x=.ref p/\y=.int i/\qY K H p xs/\atI xs i=XE v/\Q v H
def Pd(K:aj):R2:=λx y H Q=>∃p xs i v,x=.ref p/\y=.int i/\rW K H p xs/\atI xs i=XE v/\Q v H
def Pf:R2:=λx y H Q=>∃z i c,x=.str z/\y=.int i/\z.length<=J8/\atI z.cps.toList i=XE c/\Q (.str ⟨#[c]⟩) H
def pG:A4 X (Pu X.K):=by
 intro f g c s A H x y v u Q I B C h m;obtain⟨p,O,i,z,rfl,rfl,D,E,q⟩:=h;cases B;obtain⟨t,rfl⟩:=C;obtain⟨F,r,k,P⟩:=I.list D;obtain⟨j,e,G,R,J,L⟩:=LY E;obtain⟨w,n,M⟩:=r.get G;have N:=r.length;have S:=Ij;have d:EP X c A Q w s:=⟨z,H,I,M,q⟩;by_cases o:0<=i
 ·have l:i.toNat=j:=by
   rw[m8 o L] at e;exact cA e
  exact item_listR k.isList o 'o' (by rw[l];simpa using n) d m
 ·have l:(i+(F.toArray.size:Int)).toNat=j:=by
   rw[seqIndex_neg 'o' J] at e;rw[aP,<- N];exact cA e
  exact k8 k.isList.typeIs slot_list_getitem.lookup
   (wpAny_getItem_list_neg k.isList 'o' (by rw[aP]<;>lia) 'o' (by rw[l];simpa using n) ⟨rfl,d⟩) m
def pH:A4 X (Pd X.K):=by
 intro d e c s k H x y v u Q I l m h n;obtain⟨p,G,i,z,rfl,rfl,o,A,q⟩:=h;cases l;obtain⟨t,rfl⟩:=m;obtain⟨J,r,g,L⟩:=I.tuple o;obtain⟨j,B,C,M,N,O⟩:=LY A;obtain⟨w,D,E⟩:=r.get C;have F:=r.length;have P:=Ij;have f:EP X c k Q w s:=⟨z,H,I,E,q⟩;exact k8 g.typeIs ft.lookup
  (getItem_tuple g 'o' 'o' (by rw[aP,<- F];exact B) ⇑D ⟨rfl,f⟩) n
def zkC:A4 X Pf:=by
 intro d e f s C H x y v u Q I k l h m;obtain⟨z,i,c,rfl,rfl,D,n,q⟩:=h;obtain⟨t,rfl⟩:=k;obtain⟨E,rfl⟩:=l;obtain⟨j,g,o,F,p,r⟩:=LY n;have w:z.cps.toList.length=z.length:=by simp[Str.length]
 rw[w] at g p r;have G:=Ij;exact tail_any (typeIs_str s z t) slot_str_getitem.lookup (getItem_str (by
  have A:decide (i < -(2 ^ 63:Int))=Y2:=decide_eq_false 'o';have B:decide (i ≥ 2 ^ 63)=Y2:=decide_eq_false 'o';rw[A,B,Bool.or_false]) (by rw[g];simpa using o) ⟨.str ⟨#[c]⟩,H,I.tok _,⟨_,rfl⟩,q⟩) m
def Ws(K:aj):R2:=λx y H Q=>Pu K x y H Q\/Pd K x y H Q\/Pf x y H Q
def ZD:A4 X (Ws X.K):=pG.or (pH.or zkC)
def zbj(c:List ae)(n j:Nat)(u:ae):bH (·.setIfInBounds j u) { cls:=.type "list",data:=.seq c.toArray n } = { cls:=.type "list",data:=.seq (c.set j u).toArray n }:=by simp[bH]
def Inv.lst{c:List (af×Obj)}{σ:St}{H:Hp}{s:ag}{p:af}{xs:List V}(I:Inv X c σ H s)(h:H p=XE (.lst xs)):
  ∃(d:List ae)(n:Nat),oE xs d/\s.heap.get? p=XE { cls:=.type "list",data:=.seq d.toArray n }/\xs.length<=J8:=by obtain⟨z,d,n,r,e⟩:=I.hok p _ h;exact⟨d,n,r,e,z⟩
def Inv.lstUpd{c:List (af×Obj)}{σ:St}{H:Hp}{s:ag}{p:af}{xs g:List V}{j d:List ae}{n i:Nat}{f:Obj->Obj}(I:Inv X c σ H s)(h:H p=XE (.lst xs))
  (l:s.heap.get? p=XE { cls:=.type "list",data:=.seq j.toArray n }) (k:f { cls:=.type "list",data:=.seq j.toArray n } = { cls:=.type "list",data:=.seq d.toArray i }) (r:oE g d) (m:g.length<=J8) (t:Nat) (v:0<t:=by first|exact cN _|exact Inv.tk ‹_›|assumption|lia):
  Inv X c σ (upd H p (.lst g)) { s with heap:=s.heap.update p f,toks:=t }:=by
 have e:(s.heap.update p f).get? p=XE { cls:=.type "list",data:=.seq d.toArray i }:=by
  rw[bM f l (by rw[k]<;>rfl),k]
 refine I.write (by rw[h];trivial) (.inl rfl) (λb u o q=>(bb _ _ (bw o)).trans q) ⟨_,e⟩ ?_;exact⟨m,d,i,r,e⟩
def YH:V->V->V->Hp->(Hp->Prop)->Prop:=λo i v H Q=>∃p xs k j,o=.ref p/\i=.int k/\H p=XE (.lst xs)/\ixN xs.length k=XE j/\Q (upd H p (.lst (xs.set j v)))
def zeF:Pq X YH:=by
 intro c s A H o i v J K u Q I B C D h;obtain⟨p,E,k,j,rfl,rfl,l,F,q⟩:=h;cases B;obtain⟨t,rfl⟩:=C;obtain⟨m,n,r,e,G⟩:=I.lst l;obtain⟨d,L,w,x⟩:=RY F;have f:=r.length;have M:=Ij;have y:Inv X c A (upd H p (.lst (E.set j v))) { s with heap:=s.heap.update p (bH (·.setIfInBounds j u)) }:=
  I.lstUpd l e (zbj m n j u) (r.set D j) (by rw[cL];exact G) s.toks
 by_cases z:0<=k
 ·have g:k.toNat=j:=by
   rw[m8 z x] at d;exact cA d
  exact PySem.W.ki_setAt e z 'o' (by rw[aP,<- f];exact x) (by rw[g];exact⟨_,y,q⟩)
 ·have g:(k+(m.toArray.size:Int)).toNat=j:=by
   rw[seqIndex_neg 'o' w] at d;rw[aP,<- f];exact cA d
  exact PySem.W.ki_setBack e 'o' (by rw[aP,<- f];exact w) 'o' (by rw[g];exact⟨_,y,q⟩)
def z7Q(lo c:Option Int)(n:Nat):(sliceBounds lo c YP n).1=((HT.sIx n 0 lo:Nat):Int)/\(sliceBounds lo c YP n).2.1=((HT.sIx n n c:Nat):Int)/\(sliceBounds lo c YP n).2.2=1:=by
 refine⟨?_,?_,rfl⟩
 ·cases lo with
  |none=>simp[sliceBounds,HT.sIx]
  | some i=>
   simp only[sliceBounds,HT.sIx,nu,show(1:Int)>0 by decide,if_true];by_cases h:i<0
   ·simp only[h,if_true]<;>lia
   ·simp only[h,if_false]<;>lia
 ·cases c with
  |none=>simp[sliceBounds,HT.sIx]
  | some i=>
   simp only[sliceBounds,HT.sIx,nu,show(1:Int)>0 by decide,if_true];by_cases h:i<0
   ·simp only[h,if_true]<;>lia
   ·simp only[h,if_false]<;>lia
def z6G(c:List ae)(lo d:Option Int):slicePick c.toArray lo d YP=((c.drop (HT.sIx c.length 0 lo)).take (HT.sIx c.length c.length d-HT.sIx c.length 0 lo)).toArray:=by obtain⟨e,f,g⟩:=z7Q lo d c.toArray.size;unfold slicePick;rw[e,f,g];simp only[sliceRange_one,pick_run,aP]<;>rfl
def XJ(K:aj):V->Option Int->Option Int->Hp->VK->Prop:=λx lo hi H Q=>∃a xs,x=.ref a/\qY K H a xs/\∀p,H p=YP->Q (.ref p) (upd H p (.lst (DD xs lo hi)))
def zhB:zZ X (XJ X.K):=by intro f s p H x v t u e g w Q I j k l m h;obtain⟨a,c,rfl,n,q⟩:=h;cases j;obtain⟨y,r,i,o⟩:=I.list n;have d:=r.length;refine⟨"list",_,slot_list_getitem.lookup,i.isList.typeIs,?_⟩;refine wpAny_getItem_list_slice i.isList k l m .none 'd' ?_ (by rw[aP]<;>lia);rw[z6G,<- d];refine⟨.ref s.heap.objs.size,_,I.laid (λb z q=>ah _ q) (aB _) ?_,rfl,q _ (I.hok.fresh (aB _))⟩;exact⟨aG (VA c e g) o,_,0,(r.drop (HT.sIx c.length 0 e)).take (HT.sIx c.length c.length g-HT.sIx c.length 0 e),aM _ rfl⟩
def oO.or{f:ae}{r d:List V->Hp->VK->Prop}(h:oO X f r)(h':oO X f d):oO X f (λxs H Q=>r xs H Q\/d xs H Q):=by
 intro c s e H xs g Q I i q;rcases q with q|q
 ·exact h c s e H xs g Q I i q
 ·exact h' c s e H xs g Q I i q
def V4:oO X (.type "tuple") (λxs H Q=>∃p c,xs=[.ref p]/\((qY X.K H p c/\∀l,H l=YP->Q (.ref l) (upd H l (.tup c)))\/(rW X.K H p c/\Q (.ref p) H))):=by
 intro d s v H xs z Q I r h;obtain⟨p,c,rfl,h⟩:=h;obtain⟨u,rfl,w⟩:=vC r;cases w;rcases h with⟨f,q⟩|⟨f,q⟩
 ·obtain⟨g,i,j,m⟩:=I.list f;have n:=i.length;refine call_tuple_list j.isList (λk x=>?_) (by simp<;>lia);have t:=I.kept x;have y:Inv X d v (upd H k.objs.size (.tup c)) { s with heap:=k.push { cls:=.type "tuple",data:=.seq g.toArray } }:=
   t.laid (λb o e=>ah _ e) (aB _) (⟨m,g,i,oW.new _ _⟩)
  exact⟨.ref k.objs.size,_,y,rfl,q _ (t.hok.fresh (aB _))⟩
 ·obtain⟨g,i,j,m⟩:=I.tuple f;exact call_tuple_same j ⟨.ref p,H,I,rfl,q⟩
def Wf(K:aj)(T:String)(x:V)(H:Hp):Prop:=match x with
 |.str _=>T = "str"
 |.int _=>T = "int"
 | .ref p=>(T = "list"/\∃xs,qY K H p xs)\/(T = "tuple"/\∃o,K.lookup p=XE o/\o.cls=.type "tuple"/\o.dict=YP) \/
   (T = "dict"/\((∃i_,H p=XE (.dK i_)) \/ ∃i_,H p=XE (.dT i_)))\/(T = "set"/\∃S n,H p=XE (.set S n))
 |_=>False
def ZZ(I:Inv X Xd σ H s)(r:RelV x v)(g:Wf X.K T x H):
  s.TypeIs v T/\∀a,v=.ref a->∃k,s.heap.get? a=XE k/\k.dict=YP:=by
 cases x with
 | str z=>
  obtain⟨t,rfl⟩:=r;cases (g);exact⟨typeIs_str s z t,λ_ e=>nomatch e⟩
 | int i=>
  obtain⟨t,rfl⟩:=r;cases (g);exact⟨iw s i t,λ_ e=>nomatch e⟩
 | ref p=>
  cases r;rcases g with⟨rfl,w,m⟩|⟨rfl,o,d,q,h⟩|⟨rfl,d⟩|⟨rfl,S,n,d⟩
  ·obtain⟨y,_,l,_⟩:=I.list m;refine⟨l.isList.typeIs,λa e=>?_⟩;cases e;obtain⟨o,n,e,c,h,_⟩:=l;exact⟨o,e,h⟩
  ·refine⟨⟨o,I.kIn p o d,q⟩,λa e=>?_⟩;cases e;exact⟨o,I.kIn _ o d,h⟩
  ·have z:∃o,s.heap.get? p=XE o/\o.ExactDict:=by
    rcases d with⟨u,d⟩|⟨u,d⟩
    ·obtain⟨_,_,_,_,o,_,_,e,f,_⟩:=I.hok p _ d;exact⟨o,e,f⟩
    ·obtain⟨_,_,_,_,o,_,_,e,f,_⟩:=I.hok p _ d;exact⟨o,e,f⟩
   obtain⟨o,e,f⟩:=z;refine⟨⟨o,e,f.1⟩,λa j=>?_⟩;cases j;exact⟨o,e,f.2.1⟩
  ·obtain⟨o,_,_,_,e,f,_⟩:=I.hok p _ d;refine⟨⟨o,e,f.1⟩,λa j=>?_⟩;cases j;exact⟨o,e,f.2.1⟩
 |_=>exact ai g
def tBM(K:aj)(T:String)(r:V->List V->Hp->VK->Prop)(to:TE)(t:TA):TE:=λσ H Q=>to σ H λx H1=>Wf K T x H1/\t σ H1 λxs H2=>r x xs H2 Q
variable{o e:aS}{es:List aS}{to:TE}{t:TA}{name:au}{apos p9:Pos}{T id:String}{r:V->List V->Hp->VK->Prop}
def Lc(k:PlainAttrs T)(d:Slot T name id)(l:typeOf (.builtin id)=pure (.type "method_descriptor"))(m:OV X id r)(n:PE X o to)(p:PA X (e::es) t)
  (q:attributeBase o name X.env (eval o X.env)=eval o X.env:=by rfl)
  (u:((backTo p9 (aF (e::es) X.env)).all (λx=>!x.1)&&(backToKw p9 (keywordEach [] X.env)).all (λx=>x.1.isSome)
   && decide ((e::es).length+([]:List gC).length+(if ([]:List gC).isEmpty then 0 else 1)<30))=Y1:=by rfl)
  (w:(apos.endLine==p9.line)=Y1:=by rfl) (y:aF (e::es) X.env=(Y2,eval e X.env)::aF es X.env:=by rfl) (z:(backTo p9 (aF es X.env)).any (·.1)=Y2:=by rfl):
  PE X (.Call (.Attribute o name apos) (e::es) [] p9) (tBM X.K T r to t):=by intro c s f H Q I h;refine wpAny_Call_method_late q u w rfl (pS (n c s f H _ I h) λv A ⟨x,B,g,i,C,D⟩=>?_);obtain⟨E,F⟩:=ZZ g i C;refine⟨T,id,k,d,l,E,F,?_⟩;have j:=p p9 c A f B _ g D;rw[y] at j ⊢;refine Calls.callWith_builtin (by show(Y2||(backTo p9 (aF es X.env)).any (·.1))=Y2;rw[z]<;>rfl) (kM ?_);exact pS j λG J ⟨L,M,N,O,P⟩=>m c J f M x L v G Q N i O P
end
def Xz(X:Cx)(id:String)(r:V->List V->Hp->VK->Prop):Prop:=
 ∀(Xd:List (af×Obj))(s:ag)(σ:St)(H:Hp)(x:V)(xs:List V)(v:ae)(us:List ae)(Q:VK),Inv X Xd σ H s->RelV x v->oE xs us->r x xs H Q->
  aq (ax X.prog X.w) X.A (call (.builtin id) (v::us)) (EP X Xd σ Q) X.xe s
def oE.one:∀{x:V}{a:List ae},oE [x] a->∃u,a=[u]/\RelV x u
 |_,_,.cons r .nil=>⟨_,rfl,r⟩
def oE.dropLast{xs:List V}{a:List ae}(h:oE xs a):oE xs.dropLast a.dropLast:=by
 induction h with
 |nil=>exact .nil
 | cons r t ih=>
  cases t with
  |nil=>exact .nil
  |cons q t'=>exact .cons r ih
theorem oE.eraseIdx:∀{xs:List V}{a:List ae}(i:Nat),oE xs a->oE (xs.eraseIdx i) (a.eraseIdx i)
 |_,_,_,.nil=>.nil
 |_,_,0,.cons _ t=>t
 |_,_,i+1,.cons r t=>.cons r (oE.eraseIdx i t)
def oE.reverse{xs:List V}{a:List ae}(h:oE xs a):oE xs.reverse a.reverse:=by
 induction h with
 |nil=>exact .nil
 |cons r t ih=>rw[mI,mI];exact oE.append ih (.cons r .nil)
section
variable{X:Cx}{Xd:List (af×Obj)}{σ:St}{H:Hp}{s:ag}{l:af}{xs ys:List V}
def Inv.lset{b a:List ae}{n:Nat}{f:Array ae->Array ae}{t':Nat}(I:Inv X Xd σ H s)(c:H l=XE (.lst xs))
  (e:s.heap.get? l=XE { cls:=.type "list",data:=.seq b.toArray n }) (d:f b.toArray=a.toArray) (g:oE ys a) (h:ys.length<=J8) (k:0<t':=by first|exact cN _|exact Inv.tk ‹_›|assumption|lia):
  Inv X Xd σ (upd H l (.lst ys)) { s with heap:=s.heap.update l (bH f),toks:=t' }:=by have q:=PySem.IsL.update e f;rw[d] at q;refine I.write (by rw[c];exact trivial) (.inl rfl) (λm u i j=>(bb s.heap (bH f) (bw i)).trans j) ⟨_,q⟩ ?_;exact⟨h,a,_,g,q⟩
def Inv.lnew(I:Inv X Xd σ H s)(a:oE ys e_)(b:ys.length<=J8)(c:0<t':=by first|exact cN _|exact Inv.tk ‹_›|assumption|lia):
  Inv X Xd σ (upd H s.heap.objs.size (.lst ys)) { s with heap:=s.heap.push { cls:=.type "list",data:=.seq e_.toArray },toks:=t' }:=
 I.laid (λ_ _ q=>ah _ q) (aB _) ⟨b,e_,0,a,aM _ rfl⟩
def Inv.fresh(I:Inv X Xd σ H s):H s.heap.objs.size=YP:=I.hok.fresh (aB _)
def Inv.lstM(I:Inv X Xd σ H s)(b:H l=XE (.lst xs)):xs.length<=J8/\∃(a:List ae)(n:Nat),oE xs a/\xs.length=a.length/\s.heap.get? l=XE { cls:=.type "list",data:=.seq a.toArray n }:=by obtain⟨z,a,n,r,e⟩:=I.hok l _ b;exact⟨z,a,n,r,r.length,e⟩
def zfe{n:Nat}(h:n<=J8):eM n=Y2:=by exact decide_eq_false 'o'
end
section
variable{X:Cx}
def zi0:V->List V->Hp->VK->Prop:=λx vs H Q=>∃l xs y,x=.ref l/\vs=[y]/\H l=XE (.lst xs)/\xs.length<J8/\Q .non (upd H l (.lst (xs++[y])))
def UK:Xz X "list.append" zi0:=by intro a s i H x j v k Q I c d h;obtain⟨l,m,y,rfl,rfl,b,o,q⟩:=h;cases c;obtain⟨u,rfl,f⟩:=d.one;obtain⟨z,g,n,r,p,e⟩:=I.lstM b;refine gL lu ⟨_,e,rfl⟩ F.entry_list_append (F.args_list_append_2 _ _) (PySem.list_append l g.toArray n u (by rw[aP];lia)) ⟨e,?_⟩;refine⟨.non,_,I.lset b e 'd' (r.append (.cons f .nil)) ?_,rfl,q⟩;rw[aA,fB];lia
end
section
end
end L2
namespace Att
open PySem PySem.W PySem.Calls PyProof.Rows
def z56:∀(ns:List Int)(vs:List ae),WellAll P h vs (ns.map og)->lr vs ns:=by
 intro ns
 induction ns with
 | nil=>
  intro vs w;cases w;exact .nil
 | cons n ns ih=>
  intro vs w;cases w with
  | cons a b=>
   cases a;exact .cons _ _ (ih _ b)
def zdu{l:mx}{n:Nat}(j:l.most=XE n){P:i7}{h:aR}{args:List WData}{b:List ae}
  (i:l.row.toRowW.claim.pre args=Y1) (k:WellAll P h b args):
  ∃a vs ns,b=[c8 a]/\args=[WData.list (ns.map og)]/\h.get? a=XE { cls:=.type "list",data:=.seq vs.toArray }/\lr vs ns/\ns.length<=n:=by
 have f:=(pre_splitW i).1;have m:l.pre.holds [] { args:=args } = Y1:=(pre_splitW i).2;obtain⟨d,r,rfl,o,p⟩:=hasAllW_cons f;obtain rfl:=hasAllW_nil p;obtain⟨t,rfl,s⟩:=hasW_list o;obtain⟨ns,rfl⟩:=items_int s;have c:ns.length<=n:=by
  have e:(WTm.not (.lt (.lit (.int (n:Int))) (.len (.arg 0)))).holds [] { args:=[.list (ns.map .int)] } = Y1:=by
   have e:=(holds_andW m).1;rw[j] at e;exact e
  have g:=condW_of e (w_not (w_lt w_lit (w_len_list (w_arg rfl))));refine Nat.le_of_not_lt λq=>?_
  first
   |(rw[decide_eq_true q'] at g;exact absurd g 's')
   |(simp at g;lia)
 cases k with
 | cons w1 w2=>
  cases w2;cases w1 with
  |list ho tO=>exact⟨_,_,ns,rfl,rfl,ho,z56 ns _ tO,c⟩
def zd6(l:mx)(a:List WData):l.row.toRowW.claim.post a (.bool Y1) a=Y1:=
 postW_of
  (show WShape.has [] (.bool Y1) .bool=Y1 by first|rfl|decide|simp[WShape.has,WShape.arms,WShape.armsAll])
  (w_eq_bool (w_res rfl) w_lit) rfl
theorem VH:∀ns:List Int,l5 (ns.map jW)=ns.map og
 |[]=>by simp[l5]
 |n::ns=>by simp only[bJ,l5,my];rw[VH ns]
def attach_call{l:mx}{n:Nat}{q:aJ}{loose:List au}{XP:(au->Option ae)->aR->Prop}{p:aU->aR->Prop}{d:DefRec}{α:Type}{Yf:ag->α}{Ya:aU->α}
  (C:l.most=XE n) (D:d.params.defaults=[]) (E:∀w s,Yf s=Ya w->p w s.heap) (F:∀w h h',p w h->(∀b o,h.get? b=XE o->h'.get? b=XE o)->p w h')
  (j:∀(w:aU)(c e:ag)(t v:au->Option ae)(k:af)(o:Obj)(x u g:ae)(a:af)(vs:List ae)(ns:List Int),
   Ground q loose [] XP w c t v e.heap->p w e.heap->
   e.heap.get? k=XE o->o.data=.func (docDef d.name d.params d.body d.scope x u g)->e.heap.CodeRec u d.name->t d.name=XE (.ref k)->
   e.heap.get? a=XE { cls:=.type "list",data:=.seq vs.toArray }->lr vs ns->ns.length<=n->e.gens = #[]->0<e.toks->
   codeAny (ax l.prog w) callerA (.call (.ref k) ⟨[.ref a],[]⟩) (λr s'=>r=.ok (.ret (.bool Y1))/\OldK e.heap s'.heap/\s'.os=e.os/\gA s'.gens) e):
  WalkX q loose XP (λs=>(Yf s,decide (0<s.toks))) (λw=>(Ya w,Y1)) l.row.toRowW d [] (λf vs=>PySem.call f vs):=by
 intro w c e t v G Y k o x u g H I J K M y N O z A P L Q B R S EK;obtain rfl:H=.none:=Dflts.none y D;obtain rfl:I=.none:=Dflts.noKw y;have T:=congrArg oo Y;have U:=of_decide_eq_true (congrArg Prod.snd Y);obtain⟨a,vs,ns,rfl,rfl,V,i,m⟩:=zdu C Q S;have Z:Laid l.row.toRowW.records w c e [my (eE (ns.map jW))] [.ref a] P:=by
  rw[my,VH];exact L
 have qt:=a9 U (PySem.W.X.script_toks Z rfl);refine enter_call (eL (j w c e t v k o x u g a vs ns G (F _ _ _ (E w c T) L.keeps) J (fd_plain K) M N V i m O qt) λr s' hq=>?_);obtain⟨rfl,h2,h3,h4⟩:=hq;exact⟨.inl ⟨.bool Y1,.bool Y1,[],rfl,λ_=>rfl,.bool Y1,zd6 l _,λ_=>⟨eU,λ_ hm=>(nomatch hm)⟩⟩,h2,h3,h4⟩
section
end
end Att
namespace L2
open PySem PySem.Spec PyProof.Rows
theorem UW:∀{vs:List ae}{ns:List Int},lr vs ns->oE (ns.map V.int) vs
 |_,_,.nil=>.nil
 |_,_,.cons n t h=>.cons ⟨t,rfl⟩ (UW h)
noncomputable def vm(s:cT):eG:=match s with
 |.FunctionDef _ a _ _ _ _ _ _ _ _=>a
 |_=>{ posonlyargs:=[],args:=[],vararg:=YP,kwonlyargs:=[],kw_defaults:=[],kwarg:=YP,defaults:=[] }
def sT(s:cT):List cT:=match s with
 |.FunctionDef _ _ b _ _ _ _ _ _ _=>b
 |_=>[]
def qc(s:cT):cf:=match s with
 |.FunctionDef _ _ _ _ _ _ sc _ _ _=>sc
 |_=>{ kind:=.function,names:=[],isGenerator:=Y2,isCoroutine:=Y2 }
abbrev BO:xh:=λ_ _ _ _ _ _=>False
abbrev E0:XK:=λ_ _ _=>False
def PR:Bn BO X E0:=λ_ _ _ _ _ _ _ h=>h.elim
structure Fun(K:aj)(x qual:au)(st:cT)(f:af)(fd:dL):Prop where
 ex:∃(oc:ae)(od:Option af)(kV doc pm:ae)(an:Option af)(k_ ct:ae)(sv:Array (Option ae)),
  fd=bi x qual (vm st) (sT st) (qc st) .none kV doc pm an k_ ct/\K.lookup f=XE ⟨oc,od,.func fd,sv⟩/\cX K k_ qual=Y1
 kp:cV K (.ref f)=Y1
section
variable{P:aJ}{w:aU}{K:aj}{mg:au->Option ae}{base:aR}
def Fun.ok{x b:au}{c:cT}{f:af}{j:dL}{N e:List au}{k:Nat}{g:Sp}(F:Fun K x b c f j)(S:rO N e (qc c))(i:∀vs H Q E,g vs H Q E->vs.length=e.length)
  (l:∀(d:ae)(A:aX)(a:List Env)(s:ag)(H:Hp)(vs:List V)(Q:VK)(E:XK),oF k (A.deeper (envOfC b (qc c) s.heap.objs.size f d))->g vs H Q E->
   ∃t,sE (zy BO P w K mg base N b (qc c) f d A a s H E).nox (sT c) t/\t { nx:=λ_ H'=>Q .non H',rt:=Q } (start N vs) H):oP P w K mg base BO (k+1) f j e g:=by obtain⟨u,v,y,m,z,B,d,C,D,rfl,n,o⟩:=F.ex;refine rq n o S i λA a s H vs Q E p r=>?_;obtain⟨t,h,q⟩:=l d A a s H vs Q E p r;exact⟨t,h.nox,q⟩
def Fun.binds{x a:au}{c:cT}{f:af}{m:dL}{d:List au}(F:Fun K x a c f m)
  (h:∀(e b g:ae)(i:Option af)(j k:ae)(l:List ae),l.length=d.length->bindArgs (bi x a (vm c) (sT c) (qc c) .none e b g i j k) ⟨l,[]⟩=pure (d.zip l)):Binds K m d []:=by obtain⟨n,o,e,b,g,i,j,k,p,rfl,q,r⟩:=F.ex;exact .all (h e b g i j k)
def Lk{x a:au}{b:cT}{f:af}{m:ae}{n g:Option af}{o:Array (Option ae)}{h d i e j:ae}(l:K.lookup f=XE ⟨m,n,.func (bi x a (vm b) (sT b) (qc b) .none h d i g e j),o⟩)
  (c:cX K e a=Y1) (k:cV K (.ref f)=Y1):Fun K x a b f (bi x a (vm b) (sT b) (qc b) .none h d i g e j):=⟨⟨m,n,h,d,i,g,e,j,o,rfl,l,c⟩,k⟩
end
def YN(a:oF k A):A.units+1<cLine:=f9 (me (by decide:1<=64) _) a.units
def oM(H H':Hp):Prop:=∀b o,H b=XE o->H' b=XE o
def oM.refl(H:Hp):oM H H:=λ_ _ h=>h
def oM.trans(a:oM H H1)(b:oM H1 H2):oM H H2:=λc o h=>b c o (a c o h)
def oM.free{H H':Hp}(e:oM H H'){l:af}(h:H' l=jD):H l=jD:=by
 cases q:H l with
 |none=>rfl
 | some o=>
  rw[e l o q] at h;cases h
def oM.seq{K:aj}{H H':Hp}{a:af}{xs:List V}(e:oM H H')(h:qY K H a xs):qY K H' a xs:=by
 rcases h with(h|⟨o,h⟩)|h
 ·exact .inl (.inl (e _ _ h))
 ·exact .inl (.inr ⟨o,e _ _ h⟩)
 ·exact .inr h
section
variable{κ:Type}[DecidableEq κ]
def ue(i_:List (κ×V))(k:κ):Option V:=(i_.find? λkv=>decide (kv.1=k)).map (·.2)
noncomputable def yD(i_:List (κ×V))(k:κ)(v:V):List (κ×V):=
 if (i_.any λkv=>decide (kv.1=k))=Y1 then i_.map (λkv=>if kv.1=k then (kv.1,v) else kv) else i_++[(k,v)]
def Ao(i_:List (κ×V))(k:κ):List (κ×V):=i_.filter λkv=>decide (kv.1≠k)
def FA{p:κ×V}{r:List (κ×V)}{k:κ}(e:p.1=k):ue (p::r) k=XE p.2:=by simp[ue,eN,e]
def Ef{p:κ×V}{r:List (κ×V)}{k:κ}(e:¬ p.1=k):ue (p::r) k=ue r k:=by simp[ue,eN,e]
theorem Tz(k:κ):∀a:List (κ×V),(a.any λkv=>decide (kv.1=k))=(ue a k).isSome
 |[]=>rfl
 | p::r=>by
  rw[fZ];by_cases e:p.1=k
  ·simp only[FA e,decide_eq_true e,Bool.true_or,mz]
  ·rw[Ef e,decide_eq_false e,jX];exact Tz k r
def VO(a:List (κ×V))(k:κ)(v:V):(yD a k v).length<=a.length+1:=by
 unfold yD;split
 ·rw[aD];lia
 ·rw[aA,aT,dE];lia
def zg2{a:List (κ×V)}{k:κ}(v:V)(h:ue a k=YP):yD a k v=a++[(k,v)]:=by unfold yD;rw[Tz,h];exact J5 's'
def oZ.isSome_eq(r:oZ o u):o.isSome=u.isSome:=by
 cases o with
 | none=>cases u with
  |none=>rfl
  |some _=>exact(r).elim
 | some _=>cases u with
  |none=>exact(r).elim
  |some _=>rfl
def oZ.getD(r:oZ o u)(a:RelV d d'):RelV (o.getD d) (u.getD d'):=by
 cases o with
 | none=>cases u with
  |none=>exact a
  |some _=>exact(show False from r).elim
 | some _=>cases u with
  |none=>exact(show False from r).elim
  |some _=>exact r
def KV.val{c:List (κ×V)}{vs:List (κ×ae)}(r:KV c vs)(k:κ):oZ (ue c k) (valueAt vs k):=by
 induction r with
 |nil=>exact eQ
 | @cons p q ps qs h t ih=>
  obtain⟨d,f⟩:=h;by_cases e:p.1=k
  ·have a:=d.symm.trans e;have b:valueAt (q::qs) k=XE q.2:=by simp[valueAt,eN,a]
   rw[FA e,b];exact f
  ·have a:¬ q.1=k:=λz=>e (d.trans z);have b:valueAt (q::qs) k=valueAt qs k:=by simp[valueAt,eN,a]
   rw[Ef e,b];exact ih
def KV.any{a:List (κ×V)}{vs:List (κ×ae)}(r:KV a vs)(k:κ):(a.any λkv=>decide (kv.1=k))=vs.any λkv=>decide (kv.1=k):=by
 induction r with
 |nil=>rfl
 |cons h t ih=>rw[fZ,fZ,ih,h.1]
def KV.repl(r:KV i_ vs)(k:κ)(b:RelV y u):
  KV (i_.map λkv=>if kv.1=k then (kv.1,y) else kv) (vs.map λkv=>if kv.1=k then (kv.1,u) else kv):=by
 induction r with
 |nil=>exact .nil
 | @cons p q ps qs h t ih=>
  rw[bJ,bJ];refine .cons ?_ ih;obtain⟨a,c⟩:=h;by_cases e:p.1=k
  ·rw[JU e,JU (a.symm.trans e)];exact⟨a,b⟩
  ·rw[J5 e,J5 (λz=>e (a.trans z))];exact⟨a,c⟩
def KV.put(r:KV i_ vs)(k:κ)(a:RelV y u):KV (yD i_ k y) (stored vs k u):=by
 unfold yD stored;rw[r.any k];by_cases e:(vs.any λb=>decide (b.1=k))=Y1
 ·rw[JU e,JU e];exact r.repl k a
 ·rw[J5 e,J5 e];exact Paired.snoc r ⟨rfl,a⟩
def KV.drop(r:KV i_ vs)(k:κ):KV (Ao i_ k) (without vs k):=by
 unfold Ao without
 induction r with
 |nil=>exact .nil
 | @cons p q ps qs h t ih=>
  obtain⟨c,d⟩:=h;rw[eD,eD];by_cases e:p.1=k
  ·have a:¬ decide (p.1≠k)=Y1:=by simp[e]
   have b:¬ decide (q.1≠k)=Y1:=by simp[c.symm.trans e]
   rw[J5 a,J5 b];exact ih
  ·have f:¬ q.1=k:=λz=>e (c.trans z);have a:decide (p.1≠k)=Y1:=by simp[e]
   have b:decide (q.1≠k)=Y1:=by simp[f]
   rw[JU a,JU b];exact .cons ⟨c,d⟩ ih
def KV.length(r:KV i_ vs):i_.length=vs.length:=lY r
def zfI(a:List (κ×V))(k:κ):(Ao a k).length<=a.length:=bD _ _
end
def DZ(r:RelV (kV k) u):(u6 P w).is k u=Y1:=by
 cases k with
 |inl i=>obtain⟨t,e⟩:=(r);subst e;exact z8H P w i t
 |inr x=>obtain⟨t,e⟩:=(r);subst e;exact z8C P w x t
theorem U0:∀{a:List Key}{b:List ae},oE (a.map kV) b->ItemsAre (u6 P w) a b
 |[],_,r=>by rw[il] at r;cases r;exact .nil
 | k::a,_,r=>by
  cases r with
  |cons h t=>exact .cons (DZ h) (U0 t)
abbrev KT(H:Hp):List (List Key×V)->List (List Key×af×ae)->Prop:=cu λp q=>p.1=q.1/\H q.2.1=XE (.tup (p.1.map kV))/\RelV p.2 q.2.2
def KT.val{H:Hp}{c:List (List Key×V)}{xs:List (List Key×af×ae)}(r:KT H c xs)(k:List Key):oZ (ue c k) ((atKey xs k).map (·.2)):=by
 induction r with
 |nil=>exact eQ
 | @cons p q ps qs h t ih=>
  obtain⟨d,_,f⟩:=h;by_cases e:p.1=k
  ·have a:=d.symm.trans e;have b:atKey (q::qs) k=XE q.2:=by simp[atKey,eN,a]
   rw[FA e,b];exact f
  ·have a:¬ q.1=k:=λz=>e (d.trans z);have b:atKey (q::qs) k=atKey qs k:=by simp[atKey,eN,a]
   rw[Ef e,b];exact ih
section
variable{P:aJ}{w:aU}{H:Hp}{h:aR}{a:af}
def Qq(ok:HOk P w H h)(e:Rd H a u):oR P w H h a u:=e.ok ok
def DQ(ok:HOk P w H h)(e:Rd H a (.dK i_)):i_.length<=J8/\(a==sysModules)=Y2/\∃vs,KV i_ vs/\h.DictOf (u6 P w) a vs:=
 show oR P w H h a (.dK i_) from Qq ok e
def HU(ok:HOk P w H h)(e:H a=XE (.dK i_)):i_.length<=J8/\(a==sysModules)=Y2/\∃vs,KV i_ vs/\h.DictOf (u6 P w) a vs:=DQ ok (.inl e)
def QJ(ok:HOk P w H h)(e:H a=XE (.tup (ks.map kV))):(tupleKind (u6 P w)).is h ks a:=by obtain⟨_,b,r,o,c,d,⟨n,f⟩,_⟩:=(ok a _ e);exact⟨o,b.toArray,n,c,d,f,by simpa using U0 r⟩
def P6(ok:HOk P w H h)(e:Rd H a (.dT i_)):i_.length<=J8/\(a==sysModules)=Y2/\
  ∃xs,KT H i_ xs/\h.DictOfH (tupleKind (u6 P w)) a xs:=by
 obtain⟨z,y,xs,r,o,c,d,f,g,i,j,k⟩:=(Qq ok e);refine⟨z,y,xs,r,o,c,d,f,g,i,j,λx hx=>?_,k⟩;have b:∀{l:List (List Key×V)}{m:List (List Key×af×ae)},KT H l m->∀x∈m,(tupleKind (u6 P w)).is h x.1 x.2.1:=by
  intro l m q
  induction q with
  |nil=>intro x hx;exact nomatch hx
  | @cons p q ps qs hq t ih=>
   intro x hx;rcases ar.mp hx with e|hx
   ·subst e;exact QJ ok (by rw[<- hq.1];exact hq.2.1)
   ·exact ih x hx
 exact b r x hx
end
def KY(H:Hp)(a:af)(y:V)(r:Option V):Prop:=
 (∃i_ k,Rd H a (.dK i_)/\y=kV k/\r=ue i_ k) \/ ∃i_ k b,Rd H a (.dT i_)/\y=.ref b/\H b=XE (.tup (k.map kV))/\r=ue i_ k
section
variable{X:Cx}{Xd:List (af×Obj)}{σ:St}{H:Hp}{s:ag}{a:af}{y v:V}{u:ae}{A:aX}{E:ae->ag->Prop}
def Inv.big(I:Inv X Xd σ H s):sysModules<s.heap.objs.size:=by have h:=(I.mod.glob.keeps I.bk).lt;exact Nat.lt_trans 's' h
def zct(o:A.units+1<cLine)(I:Inv X Xd σ H s)(g:KY H a y (XE v))(n:RelV y u)(h:∀d s',Inv X Xd σ H s'->RelV v d->Q d s'):
  aq (ax X.prog X.w) A (getItem (.ref a) u) Q E s:=by
 rcases g with⟨q,k,e,f,l⟩|⟨q,k,b,e,f,r,l⟩
 ·subst f;obtain⟨z,t,C,c,i⟩:=DQ I.hok e;obtain⟨d,j,m⟩:=oZ.some_of (by rw[l];exact c.val k);exact ko (DZ n) i.mapOf j (h d _ (I.tok _) m)
 ·subst f;cases (n);obtain⟨z,t,D,c,i⟩:=P6 I.hok e;obtain⟨d,j,m⟩:=oZ.some_of (by rw[l];exact c.val k);obtain⟨p,x,B⟩:=iC.mp j;refine wpAny_getItem_heap (tupleKind_room_in1 o) (QJ I.hok r) i x ?_;rw[B];exact h d _ (I.tok _) m
def LM(I:Inv X Xd σ H s)(d:Hj (H a))(e:d6 a s.heap h')(f:∃q,h'.get? a=XE q)(c:oR X.prog X.w (upd H a ob) h' a ob)(h:0<t':=by first|exact cN _|exact Inv.tk ‹_›|assumption|lia):
  Inv X Xd σ (upd H a ob) { s with heap:=h',toks:=t' }:=
 I.write d (.inl rfl) (λb q g z=>(e.2 b g).trans z) f c
def Im(z:i_.length<=J8)(c:(a==sysModules)=Y2)(b:KV i_ vs)(dd:h'.DictOf (u6 P w) a vs):
  oR P w H' h' a (.dK i_):=⟨z,c,vs,b,dd⟩
end
section
variable{X:Cx}{Xd:List (af×Obj)}{σ:St}{H:Hp}{s:ag}{a:af}{i_:List (Key×V)}{k:Key}{u:ae}{A:aX}{E:ae->ag->Prop}
def zec(I:Inv X Xd σ H s)(e:H a=XE (.dK i_))(f:RelV (kV k) u)(l:(ue i_ k).isSome=Y1)(h:∀s',Inv X Xd σ (upd H a (.dK (Ao i_ k))) s'->Q () s'):
  aq (ax X.prog X.w) A (delItem (.ref a) u) Q E s:=by
 obtain⟨z,g,i,b,c⟩:=HU I.hok e;refine wpAny_delItem_slot c.typeIs 's' j5
  (call_meetsIn j5 c.typeIs PySem.F.entry_dict_delitem (PySem.F.args_dict_delitem_2 _ _) (meets_dict_delitem_pairs (u6 X.prog X.w) a (DZ f)) ⟨i,c,by rw[<- b.length];exact z,by rw[<- (b.val k).isSome_eq];exact l,λj d m=>h _ ?_⟩)
 have n:∃q,j.get? a=XE q:=let ⟨q,_,_,hq,_⟩:=d;⟨q,hq⟩;exact LM I (by rw[e];exact eQ) m n (Im (aG (zfI i_ k) z) g (b.drop k) d)
end
def Dx(i:aS):Prop:=∀ov iv,subscripted i Y2 ov iv=operate [ov,iv] (getItem ov iv)
def LK{prog:aJ}{w:aU}{A:aX}{E:ae->ag->Prop}{s:ag}{env:Env}{b a:aS}{pos:Pos}{T id:String}{Q:ae->ag->Prop}
  (j:typeLookup (.type T) "__getitem__" = pure (XE (.builtin id))) (k:Dx a)
  (h:aq (ax prog w) A (eval b env) (λo f=>aq (ax prog w) A (eval a env) (λi d=>d.TypeIs o T/\aq (ax prog w) A (getItem o i) Q E d) E f) E s):
  aq (ax prog w) A (eval (.Subscript b a pos) env) Q E s:=by
 refine Subscript_ (ci h (λo f l=>ci l (λi d e=>?_) λ_ _ x=>x) λ_ _ x=>x);obtain⟨m,e⟩:=e;refine aa ?_;refine aa (wpAny_specialOf m j ?_);have c:aq (ax prog w) A (subscripted a Y2 o i) (λr g=>aq (ax prog w) A (letTemporaryGo b o r >>= λ_=>pure r) Q E g) E d:=by
  rw[k o i];exact wpAny_operating (ci e (λr g n=>aa (wpAny_letTemporaryGo (am n))) λ_ _ x=>x)
 first
  |exact am (aa c)
  |exact aa (am (aa c))
  |exact aa c
def z9c(I:Inv X Xd σ H s)(g:KY H a y o):s.TypeIs (.ref a) "dict":=by
 rcases g with⟨d,k,e,_,_⟩|⟨d,k,b,e,_,_,_⟩
 ·obtain⟨_,_,f,_,c⟩:=DQ I.hok e;exact c.typeIs
 ·obtain⟨_,_,h,_,c⟩:=P6 I.hok e;exact c.typeIs
def Y7(td ty:TE):TE:=λσ H Q=>td σ H λx H1=>ty σ H1 λy H2=>∃a v,x=.ref a/\KY H2 a y (XE v)/\Q v H2
def YI(td ty:TE):TS:=λD σ H=>td σ H λx H1=>ty σ H1 λy H2=>∃a i_ k,x=.ref a/\H2 a=XE (.dK i_)/\y=kV k/\(ue i_ k).isSome=Y1/\D.nx σ (upd H2 a (.dK (Ao i_ k)))
section
variable{X:Cx}{o i e:aS}{pos Na:Pos}{td ty:TE}
def zhK(f:X.A.units+1<cLine)(j:PE X o td)(k:PE X i ty)(l:Dx i):PE X (.Subscript o i pos) (Y7 td ty):=by intro b s c H Q I h;refine LK hV.lookup l (pS (j b s c H _ I h) λu m ⟨x,n,p,q,r⟩=>pS (k b m c n _ p r) λE F ⟨y,t,d,w,a,v,z,g,B⟩=>?_);subst z;obtain rfl:u=c8 a:=q;exact⟨z9c d g,zct f d g w λG J C D=>⟨v,t,C,D,B⟩⟩
def zhZ(d:PE X o td)(f:PE X i ty):PS X (.Delete [.Subscript o i Na] pos) (YI td ty):=by intro b s c H D I h;refine wpAny_Delete (wpAny_deleteEach_cons (wpAny_delete_Subscript (pS (d b s c H _ I h) λu g ⟨x,j,m,n,p⟩=>pS (f b g c j _ m p) λA B ⟨y,C,q,r,a,E,k,t,e,v,l,w⟩=>?_)));subst t v;obtain rfl:u=c8 a:=n;exact zec q e r l λF z=>wpAny_deleteEach_nil ⟨c,_,z,w⟩
end
def Uq(h:aR)(a:sysModules<h.objs.size):oR P w H (h.push { cls:=.type "dict",data:=.dict #[] }) h.objs.size (.dK []):=
 ⟨bX _,beq_eq_false_iff_ne.mpr (bw (bq a)),[],.nil,Heap.DictOf.new h⟩
def Zx:TE:=λ_ H Q=>∀p,H p=YP->Q (.ref p) (upd H p (.dK []))
section
variable{X:Cx}{pos:Pos}
def zfP:PE X (.Dict [] [] pos) Zx:=λa s b H Q I h=>
 wpAny_Dict_empty ⟨.ref s.heap.objs.size,_,I.laid (λ_ _ q=>ah _ q) (aB _) (Uq s.heap I.big),rfl,h _ (I.hok.fresh (aB _))⟩
end
noncomputable def Fe:List (TE×TE)->St->Hp->(List (V×V)->Hp->Prop)->Prop
 |[],_,H,Q=>Q [] H
 |(tk,tv)::r,σ,H,Q=>tk σ H λx H1=>tv σ H1 λy H2=>Fe r σ H2 λps H3=>Q ((x,y)::ps) H3
abbrev VV:List (V×V)->List (ae×ae)->Prop:=cu λp q=>RelV p.1 q.1/\RelV p.2 q.2
def Hg(X:Cx)(pos:Pos)(keys:List (Option aS))(values:List aS)(AK:List (TE×TE)):Prop:=
 ∀(Xd:List (af×Obj))(s:ag)(σ:St)(H:Hp)(Q:List (V×V)->Hp->Prop),Inv X Xd σ H s->Fe AK σ H Q->
  aq (ax X.prog X.w) X.A (evalPairs (pairTrees keys values X.env pos)) (λvs s'=>∃ps H',Inv X Xd σ H' s'/\VV ps vs/\Q ps H') X.xe s
def zis:Hg X pos [] [] []:=λa s b H Q I h=>pairTrees_nil_walk ⟨[],H,I,.nil,h⟩
def zfW(d:PE X k tk)(e:PE X v tv)(f:Hg X pos ks vs AK):
  Hg X pos (XE k::ks) (v::vs) ((tk,tv)::AK):=λa s b H Q I h=>
 pairTrees_cons_walk (pS (d a s b H _ I h) λu g ⟨x,i,j,l,m⟩=>pS (e a g b i _ j m) λB n ⟨y,o,p,q,r⟩=>
  pS (f a n b o _ p r) λC D ⟨t,w,z,c,A⟩=>⟨(x,y)::t,w,z,.cons ⟨l,q⟩ c,A⟩)
def Ax(i_ more:List (Key×V)):List (Key×V):=more.foldl (λXu kv=>yD Xu kv.1 kv.2) i_
def KV.merge:∀{a:List (Key×V)}{c:List (Key×ae)}{b:List (Key×V)}{vs:List (Key×ae)},KV a c->KV b vs->KV (Ax b a) (merged vs c):=by
 intro a c b vs r
 induction r generalizing b vs with
 |nil=>intro q;exact q
 | @cons p q ps qs h t ih=>
  intro d;have e:KV (yD b p.1 p.2) (stored vs q.1 q.2):=by
   have:=d.put p.1 h.2;rw[<- h.1];exact this
  exact ih e
theorem VW:∀(more i_:List (Key×V)),(Ax i_ more).length<=i_.length+more.length
 |[],i_=>by show i_.length<=i_.length+0;lia
 | p::r,i_=>by
  have a:=VW r (yD i_ p.1 p.2);have b:=VO i_ p.1 p.2;show(Ax (yD i_ p.1 p.2) r).length<=_;rw[aT];lia
theorem VM:∀{i_:List (Key×V)}{ws:List (ae×ae)},VV (i_.map λkv=>(kV kv.1,kv.2)) ws->∃d,Carries (u6 P w) ws d/\KV i_ d
 |[],_,r=>by rw[il] at r;cases r;exact⟨[],eQ,.nil⟩
 | p::i_,_,r=>by
  cases r with
  | @cons a b as bs h t=>
   obtain⟨d,c,q⟩:=VM t;obtain⟨f,e⟩:=b;exact⟨(p.1,e)::d,⟨DZ h.1,rfl,c⟩,.cons ⟨rfl,h.2⟩ q⟩
def Yw(AK:List (TE×TE)):TE:=λσ H Q=>∀p,H p=YP->Fe AK σ (upd H p (.dK [])) λps H2=>H2 p=XE (.dK [])/\∃i_:List (Key×V),ps=i_.map (λkv=>(kV kv.1,kv.2))/\i_.length<=15/\Q (.ref p) (upd H2 p (.dK (Ax [] i_)))
def ziV(h:Hg X pos keys values AK)(i:keys.all (·.isSome)=Y1)(j:keys.length=values.length)(h0:keys≠[])
  (k:keys.length<=15):PE X (.Dict keys values pos) (Yw AK):=by
 intro a s l H Q I q;have m:=I.hok.fresh (aB s.heap.objs.size);have n:=I.laid (λ_ _ q=>ah _ q) (aB _) (Uq s.heap I.big);refine wpAny_Dict_walk (knd:=u6 X.prog X.w) i j h0 k (pS (h a _ l _ _ n (q _ m)) λF G ⟨J,K,b,d,e,f,o,L,p⟩=>?_);subst o;obtain⟨r,c,t⟩:=VM d;obtain⟨z,u,v,x,y⟩:=HU b.hok e;cases x;refine⟨r,c,y,λA g B=>⟨.ref s.heap.objs.size,_,?_,rfl,p⟩⟩;have C:(Ax [] f).length<=J8:=by
  have D:=VW f [];rw[dE] at D;rw[fT];lia
 have E:∃q,A.get? s.heap.objs.size=XE q:=let ⟨q,_,_,hq,_⟩:=g;⟨q,hq⟩;exact LM b (by rw[e];exact eQ) B E (Im C u (t.merge .nil) g) (Nat.add_pos_left b.tk _)
structure M1(X:Cx)(o:aS)(m:au)(apos:Pos)(e:aS)(p9:Pos):Prop where
 base:attributeBase o m X.env (eval o X.env)=eval o X.env
 few:((backTo p9 (aF [e] X.env)).all (λx=>!x.1)&&(backToKw p9 (keywordEach [] X.env)).all (λx=>x.1.isSome)
  && decide (([e]:List aS).length+([]:List gC).length+(if ([]:List gC).isEmpty then 0 else 1)<30))=Y1
 line:(apos.endLine==p9.line)=Y1
 trees:backTo p9 (aF [e] X.env)=[(Y2,eval e X.env)]
structure M2(X:Cx)(o:aS)(m:au)(apos:Pos)(e f:aS)(p9:Pos):Prop where
 base:attributeBase o m X.env (eval o X.env)=eval o X.env
 few:((backTo p9 (aF [e,f] X.env)).all (λx=>!x.1)&&(backToKw p9 (keywordEach [] X.env)).all (λx=>x.1.isSome)
  && decide (([e,f]:List aS).length+([]:List gC).length+(if ([]:List gC).isEmpty then 0 else 1)<30))=Y1
 line:(apos.endLine==p9.line)=Y1
 trees:backTo p9 (aF [e,f] X.env)=[(Y2,eval e X.env),(Y2,eval f X.env)]
section
end
section
end
end L2
namespace DL
open PySem L2
def wT{X:Cx}{b:List (af×Obj)}{c:St}{H:Hp}{s:ag}{α:Type}{M:iu}{A:aX}{m:Sem α}{Q:α->ag->Prop}{E:ae->ag->Prop}(I:L2.Inv X b c H s)(h:aq M A m (λa s'=>0<s'.toks->Q a s') (λe s'=>0<s'.toks->E e s') s):aq M A m Q E s:=f8 I.tk h
structure A3(K:aj)(C:af):Prop where
 ga:dR K (.ref C) "__getattribute__" = XE (XE (.builtin "BaseException.__getattribute__"))
 nh:dR K (.ref C) "__getattr__" = XE YP
 cl:∃cd,oi K C=XE cd
 at_:dR K (.ref C) "__class__" = XE (XE (.builtin "object.__class__"))
 gt:iB K (.builtin "object.__class__") "__get__" = XE (XE (.builtin "getset_descriptor.__get__"))
 tk:kS K (.builtin "object.__class__")=XE Y1
 ob:iM K C (.type "object")=XE Y1
 bx:iM K C (.type "BaseException")=XE Y1
 kit:∀c∈(["int", "bool", "str", "list", "tuple", "dict"]:List String),a7 K (.ref C) (.type c)=XE Y2
section
open PySem.W
variable{prog:aJ}{w:aU}{A:aX}{E:ae->ag->Prop}{s:ag}{K:aj}{x C:af}{ox:Obj}
def ziH(X:K.In s.heap)(k:A3 K C)(I:cY s.heap x ox C YP)(a:Q () s):aq M A (checkBuiltinCall "BaseException.__getattribute__" ⟨[.ref x,Gb],[]⟩) Q E s:=by
 have b:builtinKind "BaseException.__getattribute__" = XE .slot:=by decide +kernel
 have c:splitId "BaseException.__getattribute__" = XE ("BaseException", "__getattribute__"):=by decide +kernel
 have g:=F.args_bexc_ga (.ref x) Gb;have d:=I.type (M:=M);have e:=looks_mroIn (M:=M) X k.bx;have f:Looks M s.heap (isInstance (.ref x) (.type "BaseException")) Y1:=d.andThen e;simp only[checkBuiltinCall,b,c];refine aa (f.at ?_)
 repeat (first|wp_step|exact a)
def zhu(X:K.In s.heap)(k:A3 K C)(I:cY s.heap x ox C YP)(h:Q (XE (.ref C)) { s with toks:=s.toks+1 }):aq (ax prog w) A (getAttr? (.ref x) "__class__") Q E s:=by
 obtain⟨i,c⟩:=k.cl;have d:findObj K C YP "__class__" = XE (.bind (.builtin "getset_descriptor.__get__") (.builtin "object.__class__")):=by
  unfold findObj;rw[c,k.at_];simp only[Option.bind_some,k.gt,k.tk]
 have b:=I.type (M:=ax prog w);have e:=looks_findIn (M:=ax prog w) X k.ga;have f:=looks_findIn (M:=ax prog w) X k.nh;have g:=looks_find (M:=ax prog w) X I d;unfold getAttr? getAttrBy? getAttrBy;refine aa (wpAny_mkText (aa (f6 (bL (aa (b.at (aa (e.at ?_))))))));have a:(onTheHeap (c8 C)&&gU "BaseException.__getattribute__" == gU "object.__getattribute__")=Y2:=by
  rw[show(gU "BaseException.__getattribute__" == gU "object.__getattribute__")=Y2 from by decide +kernel];rfl
 show aq _ _ (if (onTheHeap (c8 C)&&gU "BaseException.__getattribute__" == gU "object.__getattribute__")=Y1 then _ else _) _ _ _;rw[J5 (by rw[a];decide)];unfold getAttrByItsOwn hookBefore;rw[JU (by rfl)];refine aa (f.at (aa (f6 (bL ?_))));unfold callGetattribute boundAndCalled;rw[J5 's'];rw[mJ.ga.bind (.ref x)];refine aa (am (jc ?_));refine codeAny_call_builtin mJ.ga.plain F.entry_bexc_ga (ziH (s:={ s with toks:=s.toks+1 }) X k I ?_);unfold eF.«object.__getattribute__»;refine aa (am (aa (am (aa (b.at (aa (g.at ?_)))))));show aq _ _ (j6 _ _ _ _) _ _ _;unfold j6;refine aa (bL (jc (class_get (s:={ s with toks:=s.toks+1 }) X I k.ob ?_)));exact am (am (am h))
def QR(k:A3 K C):KitX K (.ref x) (.ref C) (λh=>∃ox,cY h x ox C YP) where
 ty:=λ_ _ _ ⟨ox,I⟩=>I.type
 it:=λ_ _ X _=>by
  obtain⟨f,a⟩:=k.cl;unfold clsIn at a;split at a
  ·rename_i g i b j c;intro o p r t l q;unfold isType loadHead;exact aa (wpAny_loadPart (l _ _ (X _ _ c)) (am q))
  ·cases a
 ne:=λh m u v n y X d=>by
  obtain⟨f,a⟩:=k.cl;refine Bool.eq_false_iff.mpr λq=>?_;have e:C=m:=Value.ref.inj (beq_iff_eq.mp q);subst e;unfold clsIn at a;split at a
  ·rename_i g i b j c;have z:=(X _ _ c).symm.trans d;cases z
  ·cases a
 ca:=λX ⟨ox,I⟩ q=>zhu X k I q
end
end DL
namespace DL
open PySem L2
inductive D where
 |non
 |bl (b:Bool)
 |int (i:Int)
 |str (cs:n_)
 |lst (xs:List D)
 |tup (xs:List D)
 |own (k:Nat)
 |dct
 |exn (C:Nat)
 |tab (P:Nat)
 |map (ks:List (Sum Int n_)) (ds:List D)
 |adr (a:Nat)
 deriving Inhabited
abbrev Ow:=List (List D)
inductive R(α:Type) where
 |ok (a:α) (O:Ow)
 |exc (c:Nat) (O:Ow)
 |bad
 deriving Inhabited
def R.bnd{α β:Type}(r:R α)(k:α->Ow->R β):R β:=match r with
 |.ok a O=>k a O
 |.exc c O=>.exc c O
 |.bad=>.bad
abbrev Sg:=List (Option D)
abbrev DE:=Sg->Ow->R D
abbrev DT:=Sg->Ow->R Bool
abbrev DA:=Sg->Ow->R (List D)
section
variable(K:aj)(H:Hp)(Xa μ:List af)
def X1(K:aj)(a:af)(xs:List V):Prop:=∃(o:Obj)(e_:Array ae)(n:Nat),K.lookup a=XE o/\o.cls=.type "list"/\o.dict=YP/\o.data=.seq e_ n/\e_.size<=J8/\oE xs e_.toList
def Yj(K:aj)(a:af)(xs:List V):Prop:=∃(o:Obj)(e_:Array ae)(n:Nat),K.lookup a=XE o/\o.cls=.type "tuple"/\o.data=.seq e_ n/\e_.size<=J8/\oE xs e_.toList
def LstAt(a:af)(vs:List V):Prop:=(Rd H a (.lst vs)/\a∉Xa/\a∉μ)\/X1 K a vs
def TupAt(a:af)(vs:List V):Prop:=(Rd H a (.tup vs)/\a∉Xa/\a∉μ)\/Yj K a vs/\∃o,K.lookup a=XE o/\o.dict=YP
end
noncomputable def kD:Sum Int n_->Key
 |.inl i=>.inl i
 |.inr cs=>.inr ⟨cs.toArray⟩
def oQ(H:Hp)(P:af):Prop:=∃ps,H P=XE (.tbl ps)/\TriplesOk ps.toList/\∀pos cv,codeAmong pos ps.toList=XE cv->∃c φ,cv=.ref c/\H c=XE (.ext φ)/\∀h:aR,φ h->∃q,h.CodeRec (.ref c) q
def DV(o:HO):Prop:=∀ps,o ≠ .tbl ps
section
variable(K:aj)(H:Hp)(Xa μ:List af)
mutual
def Xe:D->V->Prop
 |.non,v=>v=.non
 |.bl b,v=>v=.bl b
 |.int i,v=>v=.int i
 |.str cs,v=>v=.str ⟨cs.toArray⟩
 |.lst ds,v=>∃a vs,v=.ref a/\LstAt K H Xa μ a vs/\oC ds vs
 |.tup ds,v=>∃a vs,v=.ref a/\TupAt K H Xa μ a vs/\oC ds vs
 |.own k,v=>∃a,v=.ref a/\μ[k]?=XE a
 |.dct,v=>∃a,v=.ref a/\Rd H a (.dK [])/\a∉Xa/\a∉μ
 |.exn C,v=>∃a φ,v=.ref a/\(A3 K C/\∀h:aR,φ h->∃ox,cY h a ox C YP)/\Rd H a (.ext φ)/\a∉Xa/\a∉μ
 |.tab P,v=>v=.bl Y2/\oQ H P
 |.map ks ds,v=>∃a vs,v=.ref a/\(∃o,H a=XE (.frz o (.dK ((ks.map kD).zip vs))))/\a∉Xa/\a∉μ/\ks.length=vs.length/\oC ds vs
 |.adr a,v=>v=.ref a
def oC:List D->List V->Prop
 |[],vs=>vs=[]
 |d::ds,vs=>∃v r,vs=v::r/\Xe d v/\oC ds r
end
structure oB(O:Ow):Prop where
 len:μ.length=O.length
 nd:μ.Nodup
 nh:∀a∈μ,a∉Xa
 ht:∀a∈Xa,H a≠YP
 at_:∀(k:Nat)a,μ[k]?=XE a->∃ds vs,O[k]?=XE ds/\H a=XE (.lst vs)/\oC K H Xa μ ds vs
structure oD(σ:Sg)(b_:St):Prop where
 len:σ.length=b_.length
 at_:∀(i:Nat)d,σ[i]?=XE (XE d)->∃v,b_[i]?=XE (XE v)/\Xe K H Xa μ d v
end
structure Ext(H:Hp)(μ:List af)(H':Hp)(d_:List af):Prop where
 pre:∃ν,d_=μ++ν
 kept:∀b o,H b=XE o->b∉μ->DV o->H' b=XE o
 fresh:∀b∈d_,b∈μ\/H b=YP
 there:∀b,H b≠YP->H' b≠YP
 tab:∀P,oQ H P->oQ H' P
structure Mv(H:Hp)(Xa μ:List af)(H':Hp)(hid' d_:List af):Prop where
 pre:∃ν,d_=μ++ν
 kept:∀b o,H b=XE o->b∉μ->b∉Xa->DV o->H' b=XE o
 fresh:∀b∈d_,b∈μ\/H b=YP
 hids:∀b∈hid',b∈Xa\/H b=YP
 there:∀b,H b≠YP->H' b≠YP
 tab:∀P,oQ H P->oQ H' P
section
variable{K:aj}{H H' H1 H2:Hp}{Xa hid' x8 GN μ d_ f_ pW:List af}
def Ext.keep(e:Ext H μ H' d_)(b:af)(o:HO)(h:H b=XE o)(n:b∉μ)(a:DV o:=by intro c z;cases z):H' b=XE o:=e.kept b o h n a
def oQ.upd(t:oQ H P)(f:H p=YP \/ ∃vs,H p=XE (.lst vs)):oQ (L2.upd H p o) P:=by
 obtain⟨g,a,h,i⟩:=t;have j:P≠p:=by
  rintro rfl;rcases f with z|⟨vs,z⟩<;>(rw[z] at a;cases a)
 refine⟨g,by rw[pX j];exact a,h,λb k e=>?_⟩;obtain⟨c,l,rfl,d,m⟩:=i b k e;have n:c≠p:=by
  rintro rfl;rcases f with z|⟨vs,z⟩<;>(rw[z] at d;cases d)
 exact⟨c,l,rfl,by rw[pX n];exact d,m⟩
def Ext.refl:Ext H μ H μ:=⟨⟨[],by simp⟩,λ_ _ h _ _=>h,λ_ h=>.inl h,λ_ h=>h,λ_ t=>t⟩
def Ext.trans(a:Ext H μ H1 f_)(b:Ext H1 f_ H2 pW):Ext H μ H2 pW:=by
 refine⟨?_,λc o h n d=>?_,λc h=>?_,λc h=>b.there c (a.there c h),λP t=>b.tab P (a.tab P t)⟩
 ·obtain⟨x,rfl⟩:=a.pre;obtain⟨y,rfl⟩:=b.pre;exact⟨x++y,by simp⟩
 ·refine b.kept c o (a.kept c o h n d) (λm=>?_) d;rcases a.fresh c m with z|z
  ·exact n z
  ·rw[z] at h;cases h
 ·rcases b.fresh c h with z|z
  ·exact a.fresh c z
  ·by_cases f:c∈μ
   ·exact .inl f
   ·cases e:H c with
    |none=>exact .inr rfl
    |some o=>exact absurd z (a.there c (by rw[e];simp))
def Ext.mv(a:Ext H μ H' d_):Mv H Xa μ H' Xa d_:=⟨a.pre,λb o h n _ c=>a.kept b o h n c,a.fresh,λ_ h=>.inl h,a.there,a.tab⟩
def Mv.refl:Mv H Xa μ H Xa μ:=Ext.refl.mv
def Mv.trans(a:Mv H Xa μ H1 x8 f_)(b:Mv H1 x8 f_ H2 GN pW):Mv H Xa μ H2 GN pW:=by
 have d:∀c,H1 c=YP->H c=YP:=λc h=>by
  cases e:H c with
  |none=>rfl
  |some o=>exact absurd h (a.there c (by rw[e];simp))
 refine⟨?_,λc o h f g i=>?_,λc h=>?_,λc h=>?_,λc h=>b.there c (a.there c h),λP t=>b.tab P (a.tab P t)⟩
 ·obtain⟨x,rfl⟩:=a.pre;obtain⟨y,rfl⟩:=b.pre;exact⟨x++y,by simp⟩
 ·refine b.kept c o (a.kept c o h f g i) (λm=>?_) (λm=>?_) i
  ·rcases a.fresh c m with z|z
   ·exact f z
   ·rw[z] at h;cases h
  ·rcases a.hids c m with z|z
   ·exact g z
   ·rw[z] at h;cases h
 ·rcases b.fresh c h with z|z
  ·exact a.fresh c z
  ·exact .inr (d c z)
 ·rcases b.hids c h with z|z
  ·exact a.hids c z
  ·exact .inr (d c z)
def Mv.hide(h:H b=YP):Mv H Xa μ H (b::Xa) μ:=⟨⟨[],by simp⟩,λ_ _ h _ _ _=>h,λ_ m=>.inl m,λc m=>(ar.mp m).elim (λe=>.inr (by rw[e];exact h)) .inl,λ_ h=>h,λ_ t=>t⟩
def Mv.unhide:Mv H (b::Xa) μ H Xa μ:=⟨⟨[],by simp⟩,λ_ _ h _ _ _=>h,λ_ m=>.inl m,λ_ m=>.inl (al _ m),λ_ h=>h,λ_ t=>t⟩
def Rd.mv(r:Rd H a u)(e:Mv H Xa μ H' hid' d_)(c:a∉Xa)(d:a∉μ)(f:DV u:=by intro g z;cases z):Rd H' a u/\a∉hid'/\a∉d_:=by
 have b:∀o,H a=XE o->a∉hid'/\a∉d_:=by
  intro o h;constructor
  ·intro m;rcases e.hids a m with z|z
   ·exact c z
   ·rw[z] at h;cases h
  ·intro m;rcases e.fresh a m with z|z
   ·exact d z
   ·rw[z] at h;cases h
 rcases r with r|⟨o,r⟩
 ·exact⟨.inl (e.kept _ _ r d c f),b _ r⟩
 ·exact⟨.inr ⟨o,e.kept _ _ r d c (by intro g z;cases z)⟩,b _ r⟩
def LstAt.mv(h:LstAt K H Xa μ a vs)(e:Mv H Xa μ H' hid' d_):LstAt K H' hid' d_ a vs:=
 h.imp (λz=>Rd.mv z.1 e z.2.1 z.2.2) id
def TupAt.mv(h:TupAt K H Xa μ a vs)(e:Mv H Xa μ H' hid' d_):TupAt K H' hid' d_ a vs:=
 h.imp (λz=>Rd.mv z.1 e z.2.1 z.2.2) id
def LstAt.sq(h:LstAt K H Xa μ a vs):qY K H a vs:=h.elim (λz=>.inl z.1) .inr
def TupAt.sq(h:TupAt K H Xa μ a vs):rW K H a vs:=h.elim (λz=>.inl z.1) λz=>.inr z.1
mutual
theorem Xe.mv(e:Mv H Xa μ H' hid' d_):∀{d:D}{v:V},Xe K H Xa μ d v->Xe K H' hid' d_ d v
 |.non,_,h=>h
 |.bl _,_,h=>h
 |.int _,_,h=>h
 |.str _,_,h=>h
 | .lst ds,v,h=>by
  unfold Xe at h ⊢;obtain⟨a,f,r,l,q⟩:=h;exact⟨a,f,r,l.mv e,oC.mv e q⟩
 | .tup ds,v,h=>by
  unfold Xe at h ⊢;obtain⟨a,f,r,l,q⟩:=h;exact⟨a,f,r,l.mv e,oC.mv e q⟩
 | .own k,v,h=>by
  unfold Xe at h ⊢;obtain⟨a,r,q⟩:=h;obtain⟨x,rfl⟩:=e.pre;exact⟨a,r,by rw[aI (ak.mp q).1];exact q⟩
 | .dct,v,h=>by
  unfold Xe at h ⊢;obtain⟨a,r,q,b,c⟩:=h;exact⟨a,r,Rd.mv q e b c⟩
 | .exn C,v,h=>by
  unfold Xe at h ⊢;obtain⟨a,i,r,g,q,b,c⟩:=h;exact⟨a,i,r,g,Rd.mv q e b c⟩
 | .tab P,v,h=>by
  unfold Xe at h ⊢;exact⟨h.1,e.tab _ h.2⟩
 | .map ks ds,v,h=>by
  unfold Xe at h ⊢;obtain⟨a,f,r,⟨o,q⟩,b,c,j,d⟩:=h;obtain⟨_,m,n⟩:=Rd.mv (.inr ⟨o,q⟩) e b c;exact⟨a,f,r,⟨o,e.kept a _ q c b (by intro p z;cases z)⟩,m,n,j,oC.mv e d⟩
 |.adr _,_,h=>h
theorem oC.mv(e:Mv H Xa μ H' hid' d_):∀{ds:List D}{vs:List V},oC K H Xa μ ds vs->oC K H' hid' d_ ds vs
 |[],_,h=>h
 | d::ds,vs,h=>by
  unfold oC at h ⊢;obtain⟨v,r,a,b,c⟩:=h;exact⟨v,r,a,Xe.mv e b,oC.mv e c⟩
end
def Xe.ext(e:Ext H μ H' d_)(h:Xe K H Xa μ d v):Xe K H' Xa d_ d v:=h.mv e.mv
def oC.ext(e:Ext H μ H' d_)(h:oC K H Xa μ ds vs):oC K H' Xa d_ ds vs:=h.mv e.mv
def oD.mv(h:oD K H Xa μ σ b_)(e:Mv H Xa μ H' hid' d_):oD K H' hid' d_ σ b_:=
 ⟨h.len,λi d q=>let ⟨v,a,b⟩:=h.at_ i d q;⟨v,a,b.mv e⟩⟩
def oD.ext(h:oD K H Xa μ σ b_)(e:Ext H μ H' d_):oD K H' Xa d_ σ b_:=h.mv e.mv
def oD.set(h:oD K H Xa μ σ b_)(q:Xe K H Xa μ d v)(i:Nat):oD K H Xa μ (σ.set i (XE d)) (b_.set i (XE v)):=by
 refine⟨by simp[h.len],λj x e=>?_⟩;by_cases c:i=j
 ·subst c;have f:i<σ.length:=by have:=(ak.mp e).1;simpa using this
  rw[aY f] at e;cases e;exact⟨v,by rw[aY (by rw[<- h.len];exact f)],q⟩
 ·rw[aZ c] at e;obtain⟨w,a,b⟩:=h.at_ j x e;exact⟨w,by rw[aZ c];exact a,b⟩
theorem oC.length:∀{ds:List D}{vs:List V},oC K H Xa μ ds vs->ds.length=vs.length
 |[],_,h=>by unfold oC at h;subst h;rfl
 | d::ds,vs,h=>by
  obtain⟨v,r,rfl,_,a⟩:=h;simp[oC.length a]
def oC.nil:oC K H Xa μ [] []:=by unfold oC;rfl
def oC.cons(h:Xe K H Xa μ d v)(t:oC K H Xa μ ds vs):oC K H Xa μ (d::ds) (v::vs):=by unfold oC;exact⟨v,vs,rfl,h,t⟩
theorem oC.append:∀{ds a:List D}{vs b:List V},oC K H Xa μ ds vs->oC K H Xa μ a b->oC K H Xa μ (ds++a) (vs++b)
 |[],_,_,_,h,t=>by unfold oC at h;subst h;exact t
 | d::ds,a,vs,b,h,t=>by
  obtain⟨v,r,rfl,c,e⟩:=h;exact .cons c (oC.append e t)
theorem oC.get:∀{ds:List D}{vs:List V}{i:Nat}{d:D},oC K H Xa μ ds vs->ds[i]?=XE d->∃v,vs[i]?=XE v/\Xe K H Xa μ d v
 |[],_,_,_,_,e=>by simp at e
 | d::ds,vs,0,x,h,e=>by
  obtain⟨v,r,rfl,c,f⟩:=h;simp at e;subst e;exact⟨v,by simp,c⟩
 | d::ds,vs,i+1,x,h,e=>by
  obtain⟨v,r,rfl,c,f⟩:=h;obtain⟨z,a,b⟩:=oC.get f ⇑e;exact⟨z,by simpa using a,b⟩
theorem oC.take:∀{ds:List D}{vs:List V}(n:Nat),oC K H Xa μ ds vs->oC K H Xa μ (ds.take n) (vs.take n)
 |_,_,0,_=>by simpa using oC.nil
 |[],_,n+1,h=>by unfold oC at h;subst h;simpa using oC.nil
 | d::ds,vs,n+1,h=>by
  obtain⟨v,r,rfl,a,b⟩:=h;simpa using oC.cons a (oC.take n b)
theorem oC.drop:∀{ds:List D}{vs:List V}(n:Nat),oC K H Xa μ ds vs->oC K H Xa μ (ds.drop n) (vs.drop n)
 |_,_,0,h=>by simpa using h
 |[],_,n+1,h=>by unfold oC at h;subst h;simpa using oC.nil
 | d::ds,vs,n+1,h=>by
  obtain⟨v,r,rfl,b,a⟩:=h;simpa using oC.drop n a
theorem oC.set(q:Xe K H Xa μ d v):∀{ds:List D}{vs:List V}(i:Nat),oC K H Xa μ ds vs->oC K H Xa μ (ds.set i d) (vs.set i v)
 |[],_,i,h=>by unfold oC at h;subst h;simpa using oC.nil
 | x::ds,vs,0,h=>by
  obtain⟨w,r,rfl,b,a⟩:=h;simpa using oC.cons q a
 | x::ds,vs,i+1,h=>by
  obtain⟨w,r,rfl,b,a⟩:=h;simpa using oC.cons b (oC.set q i a)
theorem oC.rev:∀{ds:List D}{vs:List V},oC K H Xa μ ds vs->oC K H Xa μ ds.reverse vs.reverse
 |[],_,h=>by unfold oC at h;subst h;simpa using oC.nil
 | d::ds,vs,h=>by
  unfold oC at h;obtain⟨v,r,rfl,a,b⟩:=h;simpa using oC.append (oC.rev b) (.cons a .nil)
def yo(b:af)(h:H b≠YP):upd H p o b≠YP:=by
 by_cases e:b=p
 ·subst e;rw[rG];simp
 ·rw[pX e];exact h
def Ext.laid(h:H p=YP):Ext H μ (upd H p o) μ:=
 ⟨⟨[],by simp⟩,λb u e _ _=>by rw[pX (sk e h)];exact e,λ_ m=>.inl m,yo,λ_ t=>t.upd (.inl h)⟩
def oB.laid(c:oB K H Xa μ O)(h:H p=YP):oB K (upd H p o) Xa μ O:=by
 refine⟨c.len,c.nd,c.nh,λa m=>?_,λk a e=>?_⟩
 ·by_cases q:a=p
  ·subst q;rw[rG];simp
  ·rw[pX q];exact c.ht a m
 ·obtain⟨d,f,g,b,i⟩:=c.at_ k a e;exact⟨d,f,g,by rw[pX (sk b h)];exact b,i.ext (.laid h)⟩
def oB.not_in(c:oB K H Xa μ O)(h:H p=YP):p∉Xa/\p∉μ:=by refine⟨λm=>c.ht p m h,λm=>?_⟩;obtain⟨k,b,e⟩:=cE.mp m;obtain⟨d,f,_,a,_⟩:=c.at_ k p (by rw[ak];exact⟨b,e⟩);rw[h] at a;cases a
def Xe.newL(c:oB K H Xa μ O)(h:H p=YP)(q:oC K H Xa μ ds vs):Xe K (upd H p (.lst vs)) Xa μ (.lst ds) (.ref p):=by exact⟨p,vs,rfl,.inl ⟨.inl rG,c.not_in h⟩,q.ext (.laid h)⟩
def Xe.newT(c:oB K H Xa μ O)(h:H p=YP)(q:oC K H Xa μ ds vs):Xe K (upd H p (.tup vs)) Xa μ (.tup ds) (.ref p):=by exact⟨p,vs,rfl,.inl ⟨.inl rG,c.not_in h⟩,q.ext (.laid h)⟩
def Ext.cell(h:H p=YP):Ext H μ (upd H p o) (μ++[p]):=
 ⟨⟨[p],rfl⟩,λb u e _ _=>by rw[pX (sk e h)];exact e,λb m=>by
  rcases aQ.mp m with m|m
  ·exact .inl m
  ·have:b=p:=⇑m
   subst this;exact .inr h,yo,λ_ t=>t.upd (.inl h)⟩
def oB.cell(c:oB K H Xa μ O)(h:H p=YP)(q:oC K H Xa μ ds vs):oB K (upd H p (.lst vs)) Xa (μ++[p]) (O++[ds]):=by
 have d:=c.not_in h;refine⟨by simp[c.len],?_,λa m=>?_,λa m=>?_,λk a e=>?_⟩
 ·rw[gm];refine⟨c.nd,by simp,λa i b j=>?_⟩;have:b=p:=⇑j
  subst this;rintro rfl;exact d.2 i
 ·rcases aQ.mp m with m|m
  ·exact c.nh a m
  ·have:a=p:=⇑m
   subst this;exact d.1
 ·by_cases q:a=p
  ·subst q;rw[rG];simp
  ·rw[pX q];exact c.ht a m
 ·by_cases f:k<μ.length
  ·rw[aI f] at e;obtain⟨l,n,o,g,r⟩:=c.at_ k a e;exact⟨l,n,by rw[aI (by rw[<- c.len];exact f)];exact o,by rw[pX (sk g h)];exact g,r.ext (.cell h)⟩
  ·rw[a8 'o'] at e;have s:k-μ.length=0:=by
    have:=(ak.mp e).1;simp at this;lia
   rw[s] at e;simp at e;subst e;refine⟨ds,vs,?_,rG,q.ext (.cell h)⟩;have:k=O.length:=by have:=c.len;lia
   subst this;simp
def Ext.put(h:p∈μ)(a:∃vs,H p=XE (.lst vs)):Ext H μ (upd H p o) μ:=
 ⟨⟨[],by simp⟩,λb u e n _=>by rw[pX (by rintro rfl;exact n h)];exact e,λ_ m=>.inl m,yo,λ_ t=>t.upd (.inr a)⟩
def oB.put(c:oB K H Xa μ O)(b:μ[k]?=XE p)(q:oC K H Xa μ ds vs):oB K (upd H p (.lst vs)) Xa μ (O.set k ds):=by
 have g:=aO b;have h:∃vs,H p=XE (.lst vs):=let ⟨_,vs,_,d,_⟩:=c.at_ k p b;⟨vs,d⟩;refine⟨by simp[c.len],c.nd,c.nh,λa m=>?_,λj a e=>?_⟩
 ·by_cases q:a=p
  ·subst q;rw[rG];simp
  ·rw[pX q];exact c.ht a m
 ·by_cases f:j=k
  ·subst f;rw[b] at e;cases e;refine⟨ds,vs,?_,rG,q.ext (.put g h)⟩;rw[aY (by rw[<- c.len];exact(ak.mp b).1)]
  ·have l:a≠p:=by
    rintro rfl;obtain⟨i,n⟩:=ak.mp e;obtain⟨d,o⟩:=ak.mp b;exact f ((km c.nd).mp (n.trans o.symm))
   obtain⟨r,s,i,d,t⟩:=c.at_ j a e;exact⟨r,s,by rw[aZ (bw f)];exact i,by rw[pX l];exact d,t.ext (.put g h)⟩
end
section
variable(Ex:Nat->Hp->Prop)(K:aj)
def post{α β:Type}(rel:Hp->List af->α->β->Prop)(H:Hp)(Xa μ:List af)(r:R α)(Q:β->Hp->Prop):Prop:=match r with
 |.ok d O'=>∀v H' d_,Ext H μ H' d_->oB K H' Xa d_ O'->rel H' d_ d v->Q v H'
 |.exc c O'=>∀H' d_,Ext H μ H' d_->oB K H' Xa d_ O'->Ex c H'
 |.bad=>False
abbrev qW(H:Hp)(Xa μ:List af)(r:R D)(Q:VK):Prop:=post Ex K (λH' d_ d v=>Xe K H' Xa d_ d v) H Xa μ r Q
abbrev yf(H:Hp)(Xa μ:List af)(r:R Bool)(Q:Bool->Hp->Prop):Prop:=post Ex K (λ_ _ d v=>d=v) H Xa μ r Q
abbrev Qi(H:Hp)(Xa μ:List af)(r:R (List D))(Q:List V->Hp->Prop):Prop:=post Ex K (λH' d_ d v=>oC K H' Xa d_ d v) H Xa μ r Q
def rd(t:DE):TE:=λb_ H Q=>∃Xa μ σ O,oD K H Xa μ σ b_/\oB K H Xa μ O/\qW Ex K H Xa μ (t σ O) Q
def xV(t:DT):TT:=λb_ H Q=>∃Xa μ σ O,oD K H Xa μ σ b_/\oB K H Xa μ O/\yf Ex K H Xa μ (t σ O) Q
def uS(t:DA):TA:=λb_ H Q=>∃Xa μ σ O,oD K H Xa μ σ b_/\oB K H Xa μ O/\Qi Ex K H Xa μ (t σ O) Q
end
section
variable{Ex:Nat->Hp->Prop}{K:aj}{H H1:Hp}{Xa μ f_:List af}
def post.ext{α β:Type}{a:Hp->List af->α->β->Prop}{r:R α}{Q:β->Hp->Prop}(h:post Ex K a H Xa μ r Q)(e:Ext H μ H1 f_):post Ex K a H1 Xa f_ r Q:=by
 cases r with
 |ok d O'=>exact λv b f g c q=>h v b f (e.trans g) c q
 |exc c O'=>exact λb f g c=>h b f (e.trans g) c
 |bad=>exact h
def post.bnd{α β b f:Type}{a:Hp->List af->α->β->Prop}{g:Hp->List af->b->f->Prop}{r:R α}{k:α->Ow->R b}{Q:f->Hp->Prop}{Q1:β->Hp->Prop}
  (h:post Ex K g H Xa μ (r.bnd k) Q)
  (i:∀d O1 v H1 f_,Ext H μ H1 f_->oB K H1 Xa f_ O1->a H1 f_ d v->post Ex K g H1 Xa f_ (k d O1) Q->Q1 v H1):post Ex K a H Xa μ r Q1:=by
 cases r with
 |ok d O'=>exact λv j l e c q=>i d O' v j l e c q (post.ext (h) e)
 |exc c O'=>exact h
 |bad=>exact h
def post.ok{α β:Type}{a:Hp->List af->α->β->Prop}{d:α}{O:Ow}{Q:β->Hp->Prop}{v:β}(h:post Ex K a H Xa μ (.ok d O) Q){H':Hp}{b:List af}(e:Ext H μ H' b)(c:oB K H' Xa b O)(q:a H' b d v):Q v H':=h v H' b e c q
def post.here{α β:Type}{a:Hp->List af->α->β->Prop}{d:α}{O:Ow}{Q:β->Hp->Prop}{v:β}(h:post Ex K a H Xa μ (.ok d O) Q)(c:oB K H Xa μ O)(q:a H μ d v):Q v H:=h v H μ .refl c q
end
structure PD(X:Cx)(Ex:Nat->Hp->Prop)(e:aS)(t:DE):Prop where
 out:PE X e (rd Ex X.K t)
structure rF(X:Cx)(Ex:Nat->Hp->Prop)(e:aS)(t:DT):Prop where
 out:PT X e (xV Ex X.K t)
structure tw(X:Cx)(Ex:Nat->Hp->Prop)(es:List aS)(t:DA):Prop where
 out:PA X es (uS Ex X.K t)
def PE.imp(h:PE X e t)(f:∀σ H Q,t' σ H Q->t σ H Q):PE X e t':=λa s σ H Q I q=>h a s σ H Q I (f σ H Q q)
def PT.imp(h:PT X e t)(f:∀σ H Q,t' σ H Q->t σ H Q):PT X e t':=λa s σ H Q I q=>h a s σ H Q I (f σ H Q q)
def PA.imp(h:PA X e t)(f:∀σ H Q,t' σ H Q->t σ H Q):PA X e t':=λb a s σ H Q I q=>h b a s σ H Q I (f σ H Q q)
def PW.imp(h:PW X e t)(f:∀σ H Q,t' σ H Q->t σ H Q):PW X e t':=λw a s σ H Q I q=>h w a s σ H Q I (f σ H Q q)
end DL
namespace DL
open PySem L2
def qr(i:Nat):DE:=λσ O=>match σ[i]? with
 |some (XE d)=>.ok d O
 |_=>.bad
def dC(d:D):DE:=λ_ O=>.ok d O
section
variable{X:Cx}{Ex:Nat->Hp->Prop}{pos:Pos}{a b c:aS}{ta tb tc:DE}
def rS{e:aS}{t:TE}{t':DE}(h:PE X e t)(f:∀Xa μ σ O d H Q,oD X.K H Xa μ σ d->oB X.K H Xa μ O->qW Ex X.K H Xa μ (t' σ O) Q->t d H Q):PD X Ex e t':=
 ⟨PE.imp h λd H Q ⟨Xa,μ,σ,O,g,i,q⟩=>f Xa μ σ O d H Q g i q⟩
def Il{e:aS}{t:TT}{t':DT}(h:PT X e t)(f:∀Xa μ σ O d H Q,oD X.K H Xa μ σ d->oB X.K H Xa μ O->yf Ex X.K H Xa μ (t' σ O) Q->t d H Q):rF X Ex e t':=
 ⟨PT.imp h λd H Q ⟨Xa,μ,σ,O,g,i,q⟩=>f Xa μ σ O d H Q g i q⟩
def QK(h:PA X e t)(f:∀Xa μ σ O d H Q,oD X.K H Xa μ σ d->oB X.K H Xa μ O->Qi Ex X.K H Xa μ (t' σ O) Q->t d H Q):tw X Ex e t':=
 ⟨PA.imp h λd H Q ⟨Xa,μ,σ,O,g,i,q⟩=>f Xa μ σ O d H Q g i q⟩
def rd.go{i j:Type}{l:Hp->List af->i->j->Prop}{t:DE}{Xa μ:List af}{σ:Sg}{O:Ow}{h:St}{H:Hp}{Q1:VK}{k:D->Ow->R i}{Q:j->Hp->Prop}(m:oD X.K H Xa μ σ h)(n:oB X.K H Xa μ O)
  (q:post Ex X.K l H Xa μ ((t σ O).bnd k) Q)
  (f:∀d O1 v e g,oD X.K e Xa g σ h->Ext H μ e g->oB X.K e Xa g O1->Xe X.K e Xa g d v->post Ex X.K l e Xa g (k d O1) Q->Q1 v e):rd Ex X.K t h H Q1:=
 ⟨Xa,μ,σ,O,m,n,post.bnd q λd O1 v e g x c r p=>f d O1 v e g (m.ext x) x c r p⟩
def xV.go{i j:Type}{l:Hp->List af->i->j->Prop}{t:DT}{Xa μ:List af}{σ:Sg}{O:Ow}{h:St}{H:Hp}{Q1:Bool->Hp->Prop}{k:Bool->Ow->R i}{Q:j->Hp->Prop}(m:oD X.K H Xa μ σ h)(n:oB X.K H Xa μ O)
  (q:post Ex X.K l H Xa μ ((t σ O).bnd k) Q)
  (f:∀v O1 e g,oD X.K e Xa g σ h->Ext H μ e g->oB X.K e Xa g O1->post Ex X.K l e Xa g (k v O1) Q->Q1 v e):xV Ex X.K t h H Q1:=
 ⟨Xa,μ,σ,O,m,n,post.bnd q λd O1 v e g x c r p=>by
  subst r;exact f d O1 e g (m.ext x) x c p⟩
def uS.go{i j:Type}{l:Hp->List af->i->j->Prop}{t:DA}{Xa μ:List af}{σ:Sg}{O:Ow}{h:St}{H:Hp}{Q1:List V->Hp->Prop}{k:List D->Ow->R i}{Q:j->Hp->Prop}(m:oD X.K H Xa μ σ h)(n:oB X.K H Xa μ O)
  (q:post Ex X.K l H Xa μ ((t σ O).bnd k) Q)
  (f:∀d O1 v e g,oD X.K e Xa g σ h->Ext H μ e g->oB X.K e Xa g O1->oC X.K e Xa g d v->post Ex X.K l e Xa g (k d O1) Q->Q1 v e):uS Ex X.K t h H Q1:=
 ⟨Xa,μ,σ,O,m,n,post.bnd q λd O1 v e g x c r p=>f d O1 v e g (m.ext x) x c r p⟩
def QP(f:X.N[i]?=XE x)(g:sD X.env.scope x)(e:rH x:=by decide)(h:(x==("__classdict__":au))=Y2:=by decide):PD X Ex (.Name x pos) (qr i):=
 rS (IH f g e h) λj o p O r H Q k l q=>by
  unfold qr at q;split at q
  ·rename_i d e;obtain⟨v,m,n⟩:=k.at_ i d e;exact⟨v,m,post.here q l n⟩
  ·exact ai q
def QE:PD X Ex (.Constant (.int i) j pos) (dC (.int i)):=rS QG λd f g O h H Q k e q=>post.here q e (by unfold Xe;rfl)
def Qu:PD X Ex (.Constant (.bool i) j pos) (dC (.bl i)):=rS YR λd f g O h H Q k e q=>post.here q e (by unfold Xe;rfl)
abbrev xH:=dC .non
def Ro:PD X Ex (.Constant .none j pos) xH:=rS Lo λd f g O h H Q i e q=>post.here q e (by unfold Xe;rfl)
def QM(cs:n_)(h:x=⟨cs.toArray⟩):PD X Ex (.Constant (.str x) j pos) (dC (.str cs)):=rS Rh λd f g O i H Q k e q=>post.here q e (by unfold Xe;rw[h])
def zf8(cs:n_)(d:Gl X x)(e:X.mg x=XE (.str y t))(h:y=⟨cs.toArray⟩)(f:rH x:=by decide):PD X Ex (.Name x pos) (dC (.str cs)):=
 rS (IL (v:=.str y) d e ⟨t,rfl⟩ f) λg j k O l H Q m i q=>post.here q i (by unfold Xe;rw[h])
def g_(f:Ow->D->D->R D)(ta tb:DE):DE:=λσ O=>(ta σ O).bnd λx O1=>(tb σ O1).bnd λy O2=>f O2 x y
def sF(X:Cx)(Ex:Nat->Hp->Prop)(r:R2)(f:Ow->D->D->R D):Prop:=∀(H:Hp)(Xa μ:List af)(O:Ow)(x y:D)(v w:V)(Q:VK),oB X.K H Xa μ O->Xe X.K H Xa μ x v->Xe X.K H Xa μ y w->qW Ex X.K H Xa μ (f O x y) Q->r v w H Q
def IE{r:R2}{f:Ow->D->D->R D}(h:sF X Ex r f)(Xa μ:List af)(σ:Sg)(O:Ow)(d:St)(H:Hp)(Q:VK)(e:oD X.K H Xa μ σ d)(g:oB X.K H Xa μ O)(q:qW Ex X.K H Xa μ (g_ f ta tb σ O) Q):
  F0 r (rd Ex X.K ta) (rd Ex X.K tb) d H Q:=
 rd.go e g q λx z v A B i C j k l=>rd.go i j l λy m w n o E p s t u=>h n Xa o m x y v w Q s (k.ext p) t u
def HW(d:qI X (dU op) r)(h:sF X Ex r f)(e:PD X Ex a ta)(g:PD X Ex b tb):PD X Ex (.BinOp a op b pos) (g_ f ta tb):=
 rS (Ys d e.out g.out) (IE h)
def Lw(d:qI X (cy op) r)(h:sF X Ex r f)(e:PD X Ex a ta)(g:PD X Ex b tb)(i:behindInMarks op b=Y2):PD X Ex (.Compare a [op] [b] pos) (g_ f ta tb):=
 rS (zhp d e.out g.out i) (IE h)
def qd(t:DE):DT:=λσ O=>(t σ O).bnd λx O1=>match x with
 |.bl k=>.ok k O1
 |_=>.bad
def TY(f:∀Xa μ σ O e H Q,oD X.K H Xa μ σ e->oB X.K H Xa μ O->qW Ex X.K H Xa μ (td σ O) Q->t e H Q)(Xa μ:List af)(σ:Sg)(O:Ow)(e:St)(H:Hp)(Q:Bool->Hp->Prop)
  (g:oD X.K H Xa μ σ e) (h:oB X.K H Xa μ O) (q:yf Ex X.K H Xa μ (qd td σ O) Q):Qx t e H Q:=by
 refine f Xa μ σ O e H _ g h (post.bnd q λd i v j l x c r p=>?_);cases d with
 | bl k=>
  exact⟨k,r,post.here p c rfl⟩
 |_=>exact ai p
def zI(d:qI X (cy op) r)(h:sF X Ex r f)(e:PD X Ex a ta)(g:PD X Ex b tb)(i:behindInMarks op b=Y2):rF X Ex (.Compare a [op] [b] pos) (qd (g_ f ta tb)):=
 Il (zi1 d e.out g.out i) (TY (IE h))
noncomputable def Dw(O:Ow):D->R Bool
 |.non=>.ok Y2 O
 |.bl b=>.ok b O
 |.int i=>.ok (i !=0) O
 |.str cs=>if cs.length<=4000000 then .ok (!cs.isEmpty) O else .bad
 |.lst ds=>.ok (!ds.isEmpty) O
 |.tup ds=>.ok (!ds.isEmpty) O
 | .own k=>match O[k]? with
  |some ds=>.ok (!ds.isEmpty) O
  |none=>.bad
 |.dct=>.bad
 |.exn _=>.bad
 |.tab _=>.bad
 |.map _ _=>.bad
 |.adr _=>.bad
def rl(t:DE):DT:=λσ O=>(t σ O).bnd λx O1=>Dw O1 x
def zN{n:Nat}(h:n<=4000000):n<=J8:=aG h 's'
def M7{K:aj}{H:Hp}{Xa μ:List af}{ds:List D}{vs:List V}(h:oC K H Xa μ ds vs):(!ds.isEmpty) = !vs.isEmpty:=by have e:=h.length;cases ds<;>cases vs<;>simp_all
def SF(u:PD X Ex a ta)(w:∀f,isTrue a X.env f=(do let v <- f;standAt a.pos;holding [v] (truthy v))):rF X Ex a (rl ta):=
 Il (zeM u.out w) λg E F O G H Q y z q=>rd.go y z q λd i v j m I x c r p=>by
  cases d with
  |non=>unfold Xe at r;subst r;exact⟨_,rfl,post.here p c rfl⟩
  |bl b=>unfold Xe at r;subst r;exact⟨_,rfl,post.here p c rfl⟩
  |int b=>unfold Xe at r;subst r;exact⟨_,rfl,post.here p c rfl⟩
  | str cs=>
   unfold Xe at r;subst r;by_cases s:cs.length<=4000000
   ·have t:yf Ex X.K j g m (.ok (!cs.isEmpty) i) Q:=by
     have h:yf Ex X.K j g m (if cs.length<=4000000 then .ok (!cs.isEmpty) i else .bad) Q:=p;rw[JU s] at h;exact h
    refine⟨_,⟨?_,rfl⟩,?_⟩
    ·show cs.toArray.size<=_;rw[aP];exact zN s
    ·have e:(((⟨cs.toArray⟩:au).length:Int) !=0) = !cs.isEmpty:=by
      show((cs.toArray.size:Int) !=0)=_;cases cs<;>simp[bne];lia
     rw[e];exact post.here t c rfl
   ·have h:yf Ex X.K j g m (if cs.length<=4000000 then .ok (!cs.isEmpty) i else .bad) Q:=p;rw[J5 s] at h;exact ai h
  | lst n=>
   obtain⟨a,o,rfl,l,q⟩:=r;exact⟨_,.inl ⟨o,l.sq,rfl⟩,by rw[<- M7 q];exact post.here p c rfl⟩
  | tup n=>
   obtain⟨a,o,rfl,l,q⟩:=r;exact⟨_,.inr (.inl ⟨o,l.sq,rfl⟩),by rw[<- M7 q];exact post.here p c rfl⟩
  | own k=>
   obtain⟨a,rfl,A⟩:=r;obtain⟨n,o,B,C,D⟩:=c.at_ k a A;have t:yf Ex X.K j g m (.ok (!n.isEmpty) i) Q:=by
    have h:yf Ex X.K j g m (match i[k]? with|some n=>.ok (!n.isEmpty) i|none=>.bad) Q:=p;rw[B] at h;exact h
   exact⟨_,.inl ⟨o,.of C,rfl⟩,by rw[<- M7 D];exact post.here t c rfl⟩
  |dct=>exact ai p
  |exn _=>exact ai p
  |tab _=>exact ai p
  |map _ _=>exact ai p
  |adr _=>exact ai p
noncomputable def fI(g:Int->Int->Option D):Ow->D->D->R D:=λO x y=>match x,y with
 | .int i,.int j=>match g i j with
  |some d=>.ok d O
  |none=>.bad
 |_,_=>.bad
def D6(h:∀i j d,g i j=XE d->C i j/\∀K H Xa μ,Xe K H Xa μ d (gv i j)):sF X Ex (rI C gv) (fI g):=by
 intro H Xa μ O x y v w Q c e f q;unfold fI at q;split at q
 ·rename_i i j;subst e;subst f;split at q
  ·rename_i d k;obtain⟨l,m⟩:=h i j d k;exact⟨i,j,rfl,rfl,l,post.here q c (m _ _ _ _)⟩
  ·exact ai q
 ·exact ai q
def Eg(h:∀i j d,g i j=XE d->∀K H Xa μ,Xe K H Xa μ d (gv i j)):sF X Ex (vF gv) (fI g):=by
 intro H Xa μ O x y v w Q c e f q;unfold fI at q;split at q
 ·rename_i i j;subst e;subst f;split at q
  ·rename_i d k;exact⟨i,j,rfl,rfl,post.here q c (h i j d k _ _ _ _)⟩
  ·exact ai q
 ·exact ai q
def sV:Xe K H Xa μ (.int i) (.int i):=by unfold Xe;rfl
def uO{K H Xa μ}{i:Bool}:Xe K H Xa μ (.bl i) (.bl i):=by unfold Xe;rfl
def AB:Xe K H Xa μ .non .non:=by unfold Xe;rfl
def L3:Xe K H Xa μ (.str cs) (.str ⟨cs.toArray⟩):=by unfold Xe;rfl
def gB(p:Int->Int->Bool):Int->Int->Option D:=λi j=>XE (.bl (p i j))
noncomputable def gI(p:Int->Int->Int):Int->Int->Option D:=λi j=>XE (.int (p i j))
def vA:Int->Int->Option D:=gI λi j=>i-j
noncomputable def uL:Int->Int->Option D:=λi j=>if (-1000000000000000<i/\i<1000000000000000)\/(-1000000000000000<j/\j<1000000000000000) then XE (.int (i*j)) else YP
def ye:Int->Int->Option D:=λi j=>if 0<j/\j<1073741824 then XE (.int (i/j)) else YP
def uB:Int->Int->Option D:=λi j=>if 0<j then XE (.int (i%j)) else YP
def E5:Int->Int->Option D:=λi j=>if 0<=j/\j<=1000000/\i.natAbs<2 ^ 64 then XE (.int (i ^ j.toNat)) else YP
def xl:Int->Int->Option D:=λi j=>if 0<=j/\j<=1000000/\i.natAbs<2 ^ 64 then XE (.int (i*2 ^ j.toNat)) else YP
def zih:sF X Ex (vF λi j=>.int (i-j)) (fI vA):=Eg λi j d h _ _ _ _=>by cases h;exact sV
def zjd:sF X Ex (rI pv λi j=>.int (i*j)) (fI uL):=D6 λi j d h=>by
 unfold uL at h;split at h
 ·rename_i e;cases h;exact⟨e.imp (λz=>⟨by lia,by lia⟩) λz=>⟨by lia,by lia⟩,λ_ _ _ _=>sV⟩
 ·cases h
def zid:sF X Ex (rI Pj λi j=>.int (i/j)) (fI ye):=D6 λi j d h=>by
 unfold ye at h;split at h
 ·rename_i e;cases h;exact⟨e,λ_ _ _ _=>sV⟩
 ·cases h
def zjt:sF X Ex (rI (λ_ j=>0<j) λi j=>.int (i%j)) (fI uB):=D6 λi j d h=>by
 unfold uB at h;split at h
 ·rename_i e;cases h;exact⟨e,λ_ _ _ _=>sV⟩
 ·cases h
def zhx:sF X Ex (rI Hv λi j=>.int (i ^ j.toNat)) (fI E5):=D6 λi j d h=>by
 unfold E5 at h;split at h
 ·rename_i e;cases h;exact⟨e,λ_ _ _ _=>sV⟩
 ·cases h
def zj0:sF X Ex (rI Hv λi j=>.int (i*2 ^ j.toNat)) (fI xl):=D6 λi j d h=>by
 unfold xl at h;split at h
 ·rename_i e;cases h;exact⟨e,λ_ _ _ _=>sV⟩
 ·cases h
def xC:Ow->D->D->R D:=fI (gB λi j=>decide (i<j))
def G4:Ow->D->D->R D:=fI (gB λi j=>decide (i<=j))
def Dl:Ow->D->D->R D:=fI (gB λi j=>decide (j<=i))
def Iu:sF X Ex (vF λi j=>.bl (decide (i<j))) xC:=Eg λi j d h _ _ _ _=>by cases h;exact uO
def QC:sF X Ex (vF λi j=>.bl (decide (i<=j))) G4:=Eg λi j d h _ _ _ _=>by cases h;exact uO
def Ri:sF X Ex (vF λi j=>.bl (decide (j<=i))) Dl:=Eg λi j d h _ _ _ _=>by cases h;exact uO
def Qn:D->Bool
 |.non=>Y1
 |_=>Y2
def DM:Ow->D->D->R D:=λO x y=>match y with
 |.non=>.ok (.bl (Qn x)) O
 |_=>.bad
def ziQ(h:Xe K H Xa μ x v):decide (v=.non)=Qn x:=by
 cases x with
 |non=>unfold Xe at h;subst h;rfl
 |bl _=>unfold Xe at h;subst h;rfl
 |int _=>unfold Xe at h;subst h;rfl
 |str _=>unfold Xe at h;subst h;rfl
 |lst _=>unfold Xe at h;obtain⟨_,_,rfl,_⟩:=h;rfl
 |tup _=>unfold Xe at h;obtain⟨_,_,rfl,_⟩:=h;rfl
 |own _=>unfold Xe at h;obtain⟨_,rfl,_⟩:=h;rfl
 |dct=>unfold Xe at h;obtain⟨_,rfl,_⟩:=h;rfl
 |exn _=>unfold Xe at h;obtain⟨_,_,rfl,_⟩:=h;rfl
 |tab _=>unfold Xe at h;obtain⟨rfl,_⟩:=h;rfl
 |map _ _=>unfold Xe at h;obtain⟨_,_,rfl,_⟩:=h;rfl
 |adr _=>unfold Xe at h;subst h;rfl
def RI:sF X Ex (λx y H Q=>y=.non/\Q (.bl (decide (x=.non))) H) DM:=by
 intro H e g O x y v w Q c f d q;cases y with
 | non=>
  unfold Xe at d;subst d;refine⟨rfl,?_⟩;rw[ziQ f];exact post.here (q) c uO
 |_=>exact ai q
def zx(t u:DE):DE:=λσ O=>(t σ O).bnd λx O1=>match x with
 |.bl Y1=>u σ O1
 |.bl Y2=>.ok (.bl Y2) O1
 |_=>.bad
def OS(t u:DE):DE:=λσ O=>(t σ O).bnd λx O1=>match x with
 |.bl Y1=>.ok (.bl Y1) O1
 |.bl Y2=>u σ O1
 |_=>.bad
def DC(t:DE):DE:=λσ O=>(t σ O).bnd λx O1=>match x with
 |.bl b=>.ok (.bl (!b)) O1
 |_=>.bad
def yG(t u:DT):DT:=λσ O=>(t σ O).bnd λx O1=>if x=Y1 then u σ O1 else .ok Y2 O1
def BU(t u:DT):DT:=λσ O=>(t σ O).bnd λx O1=>if x=Y1 then .ok Y1 O1 else u σ O1
def uZ(t:DT):DT:=λσ O=>(t σ O).bnd λx O1=>.ok (!x) O1
def KA(t:DT)(u v:DE):DE:=λσ O=>(t σ O).bnd λx O1=>if x=Y1 then u σ O1 else v σ O1
def Rx(d:PD X Ex a ta):PD X Ex (.BoolOp op [a] pos) ta:=⟨Y5 d.out⟩
def Q8{e:List aS}(g:PD X Ex a ta)(h:PD X Ex (.BoolOp .And (b::e) pos) tb):PD X Ex (.BoolOp .And (a::b::e) pos) (zx ta tb):=
 rS (Z_ g.out h.out) λf s i O t H Q j l q=>rd.go j l q λd m v u n o x c r p=>by
  cases d with
  | bl k=>
   unfold Xe at r;subst r;refine⟨k,rfl,?_⟩;cases k with
   |true=>rw[JU rfl];exact⟨f,n,i,m,o,c,p⟩
   |false=>rw[J5 cz];exact post.here p c uO
  |_=>exact ai p
def Yu{e:List aS}(g:PD X Ex a ta)(h:PD X Ex (.BoolOp .Or (b::e) pos) tb):PD X Ex (.BoolOp .Or (a::b::e) pos) (OS ta tb):=
 rS (Yz g.out h.out) λf s i O t H Q j l q=>rd.go j l q λd m v u n o x c r p=>by
  cases d with
  | bl k=>
   unfold Xe at r;subst r;refine⟨k,rfl,?_⟩;cases k with
   |true=>rw[JU rfl];exact post.here p c uO
   |false=>rw[J5 cz];exact⟨f,n,i,m,o,c,p⟩
  |_=>exact ai p
def Rp(e:PD X Ex a ta):PD X Ex (.UnaryOp .Not a pos) (DC ta):=
 rS (Zs e.out) λf i j O l H Q g h q=>rd.go g h q λd m v n o s x c r p=>by
  cases d with
  |bl k=>unfold Xe at r;subst r;exact⟨k,rfl,post.here p c uO⟩
  |_=>exact ai p
structure vc(X:Cx)(Ex:Nat->Hp->Prop)(e:aS)(t:DT):Prop where
 out:PW X e (xV Ex X.K t)
def vc.pt(h:vc X Ex e t):rF X Ex e t:=⟨L2.PW.pt h.out⟩
def QB{e:aS}{t:TT}{t':DT}(h:PW X e t)(f:∀Xa μ σ O d H Q,oD X.K H Xa μ σ d->oB X.K H Xa μ O->yf Ex X.K H Xa μ (t' σ O) Q->t d H Q):vc X Ex e t':=
 ⟨PW.imp h λd H Q ⟨Xa,μ,σ,O,g,i,q⟩=>f Xa μ σ O d H Q g i q⟩
def SS{d:List aS}{f g:DT}(h:rF X Ex a f)(i:vc X Ex (.BoolOp .And (b::d) pos) g):vc X Ex (.BoolOp .And (a::b::d) pos) (yG f g):=
 QB (zk9 h.out i.out) λe s j O t H Q l m q=>xV.go l m q λk n u o r x c p=>by
  cases k with
  |true=>rw[JU rfl];exact⟨e,o,j,n,r,c,p⟩
  |false=>rw[J5 cz];exact post.here p c rfl
def zkH{d:List aS}{f g:DT}(h:rF X Ex a f)(i:vc X Ex (.BoolOp .Or (b::d) pos) g):vc X Ex (.BoolOp .Or (a::b::d) pos) (BU f g):=
 QB (Yx h.out i.out) λe s j O t H Q l m q=>xV.go l m q λk n u o r x c p=>by
  cases k with
  |true=>rw[JU rfl];exact post.here p c rfl
  |false=>rw[J5 cz];exact⟨e,o,j,n,r,c,p⟩
def S_(d:rF X Ex a tA):vc X Ex (.BoolOp .And [a] pos) tA:=⟨zhy d.out⟩
def Su(d:rF X Ex a tA):vc X Ex (.BoolOp .Or [a] pos) tA:=⟨YT d.out⟩
def SU{d:DT}(e:rF X Ex a d):rF X Ex (.UnaryOp .Not a pos) (uZ d):=
 Il (Z0 e.out) λf i j O l H Q g h q=>xV.go g h q λk m n o r x c p=>post.here p c rfl
def zf5{e:DT}(j:rF X Ex c e)(l:PD X Ex a ta)(m:PD X Ex b tb):PD X Ex (.IfExp c a b pos) (KA e ta tb):=
 rS (zfN j.out l.out m.out) λd r f O s H Q n o q=>xV.go n o q λk g t h i x c p=>by
  cases k with
  |true=>rw[JU rfl];exact⟨d,h,f,g,i,c,p⟩
  |false=>rw[J5 cz];exact⟨d,h,f,g,i,c,p⟩
noncomputable def Ln(f g:Ow->D->D->R D)(ta tb tc:DE):DE:=λσ O=>(ta σ O).bnd λx O1=>(tb σ O1).bnd λy O2=>(f O2 x y).bnd λz O3=>match z with
 |.bl Y1=>(tc σ O3).bnd λw O4=>g O4 y w
 |.bl Y2=>.ok (.bl Y2) O3
 |_=>.bad
def zfK{op e:CmpOp}{r i:R2}{f g:Ow->D->D->R D}(o:qI X (cy op) r)(h:sF X Ex r f)(s:qI X (cy e) i)(h':sF X Ex i g)(t:PD X Ex a ta)(A:PD X Ex b tb)(B:PD X Ex c tc)
  (C:lastMarks [op,e] [b,c]=Y2:=by with_unfolding_all rfl):PD X Ex (.Compare a [op,e] [b,c] pos) (Ln f g ta tb tc):=
 rS (zfA o s t.out A.out B.out C) λd μ σ O b_ H Q E F q=>rd.go E F q λx O1 v H1 f_ G x2 I J K=>rd.go G I K λy L w M N P S T j U=>
  h M d N L x y v w _ T (J.ext S) j (post.bnd U λz O3 u H3 BP l m n p=>by
   cases z with
   | bl k=>
    unfold Xe at n;subst n;refine⟨k,rfl,?_⟩;cases k with
    |true=>rw[JU rfl];exact rd.go (P.ext l) m p λV W Y Z XH e5 x5 c5 d5 q5=>h' Z d XH W y V w Y Q c5 ((j.ext l).ext x5) d5 q5
    |false=>rw[J5 cz];exact post.here p m uO
   |_=>exact ai p)
def c_:DA:=λ_ O=>.ok [] O
def a_(t:DE)(u:DA):DA:=λσ O=>(t σ O).bnd λx O1=>(u σ O1).bnd λxs O2=>.ok (x::xs) O2
def RF:tw X Ex [] c_:=QK B9 λd f g O h H Q i e q=>post.here q e .nil
def To{d:List aS}{t:DA}(e:PD X Ex a ta)(f:tw X Ex d t)(g:aF (a::d) X.env=(Y2,eval a X.env)::aF d X.env:=by rfl):tw X Ex (a::d) (a_ ta t):=
 QK (yn e.out f.out g) λh u z O A H Q i j q=>rd.go i j q λx B v C D k E l m n=>uS.go k l n λy F w G I J o p r s=>post.here s p (.cons (m.ext o) r)
def rL(t:DA):DE:=λσ O=>(t σ O).bnd λxs O1=>if xs.length<=4000000 then .ok (.tup xs) O1 else .bad
def sR(t:DA):DE:=λσ O=>(t σ O).bnd λxs O1=>if xs.length<=4000000 then .ok (.lst xs) O1 else .bad
def vB(t:DA):DE:=λσ O=>(t σ O).bnd λxs O1=>if xs.length<=4000000 then .ok (.own O1.length) (O1++[xs]) else .bad
def post.iteN{α β:Type}{K:aj}{H:Hp}{Xa μ:List af}{d:Hp->List af->α->β->Prop}{Q:β->Hp->Prop}{b:Bool}{r:R α}(h:post Ex K d H Xa μ (if b=Y1 then .bad else r) Q):b=Y2/\post Ex K d H Xa μ r Q:=by
 cases b with
 |true=>exact ai h
 |false=>exact⟨rfl,h⟩
def post.ite{α β:Type}{K:aj}{H:Hp}{Xa μ:List af}{d:Hp->List af->α->β->Prop}{Q:β->Hp->Prop}{c:Prop}[Decidable c]{r:R α}(h:post Ex K d H Xa μ (if c then r else .bad) Q):c/\post Ex K d H Xa μ r Q:=by
 by_cases e:c
 ·rw[JU e] at h;exact⟨e,h⟩
 ·rw[J5 e] at h;exact ai h
def QN(h:tw X Ex es t):PD X Ex (.Tuple es x1 pos) (rL t):=
 rS (QF h.out) λi m n O o H Q j k q=>uS.go j k q λr s u v w x y f g d=>by
  obtain⟨l,d⟩:=post.ite d;exact⟨by rw[<- g.length];exact zN l,λp e=>post.ok d (.laid e) (f.laid e) (Xe.newT f e g)⟩
def Rq(h:tw X Ex es t):PD X Ex (.List es pos) (sR t):=
 rS (QD h.out) λi m n O o H Q j k q=>uS.go j k q λr s u v w x y f g d=>by
  obtain⟨l,d⟩:=post.ite d;exact⟨by rw[<- g.length];exact zN l,λp e=>post.ok d (.laid e) (f.laid e) (Xe.newL f e g)⟩
def Jy(h:μ.length=n):Xe K H Xa (μ++[p]) (.own n) (.ref p):=by exact⟨p,rfl,by rw[<- h];simp⟩
def zjD(h:tw X Ex es t):PD X Ex (.List es pos) (vB t):=
 rS (QD h.out) λi m n O o H Q j k q=>uS.go j k q λr s u v w x y e f d=>by
  obtain⟨l,d⟩:=post.ite d;exact⟨by rw[<- f.length];exact zN l,λp g=>post.ok d (.cell g) (e.cell g f) (Jy e.len)⟩
end
inductive Src where
 |val (ds:List D)
 |own (k:Nat)
 |zip (a b:Src)
 deriving Inhabited
noncomputable def Src.get:Src->Ow->Nat->Option D
 |.val ds,_,i=>ds[i]?
 | .own k,O,i=>match O[k]? with
  |some ds=>ds[i]?
  |none=>YP
 | .zip a b,O,i=>match a.get O i,b.get O i with
  |some x,XE y=>XE (.tup [x,y])
  |_,_=>YP
noncomputable def Src.size:Src->Ow->Nat
 |.val ds,_=>ds.length
 | .own k,O=>match O[k]? with
  |some ds=>ds.length
  |none=>0
 |.zip a b,O=>min (a.size O) (b.size O)
abbrev DI:=Sg->Ow->R Src
def oH(K:aj)(J:It)(src:Src)(H:Hp)(Xa μ:List af):Prop:=∀hid' H' d_ O',Mv H Xa μ H' hid' d_->oB K H' hid' d_ O'->∀i,
 match src.get O' i with
 |some d=>J.go i H'/\∀x ud,J.yld i H' x ud->Ext H' d_ ud d_/\oB K ud hid' d_ O'/\Xe K ud hid' d_ d x
 |none=>J.stop i H'
noncomputable def rdI(Ex:Nat->Hp->Prop)(K:aj)(t:DI):TI:=λb_ H Rr=>∃Xa μ σ O,oD K H Xa μ σ b_/\oB K H Xa μ O/\post Ex K (λH' d_ s J=>oH K J s H' Xa d_) H Xa μ (t σ O) Rr
structure tu(X:Cx)(Ex:Nat->Hp->Prop)(tg iter:aS)(t:DI):Prop where
 out:PI X tg iter (rdI Ex X.K t)
def oH.mv(h:oH K J src H Xa μ)(e:Mv H Xa μ H1 x8 f_):oH K J src H1 x8 f_:=
 λa b d f m c=>h a b d f (e.trans m) c
def oH.val(l:LstAt K H Xa μ a vs)(q:oC K H Xa μ ds vs):oH K (OY K a) (.val ds) H Xa μ:=by
 intro f k n o m c i;have b:=(l.mv m).sq;have h:=q.mv m;show match ds[i]? with|some d=>_|none=>_
 cases e:ds[i]? with
 | some d=>
  obtain⟨v,g,j⟩:=h.get e;refine⟨⟨vs,v,b,g⟩,λx p y=>?_⟩;obtain⟨rfl,y⟩:=y;have:=y vs b;rw[g] at this;cases this;exact⟨.refl,c,j⟩
 | none=>
  refine⟨vs,b,?_⟩;have:=bg.mp e;rw[<- q.length];exact this
def oH.tup(l:TupAt K H Xa μ a vs)(q:oC K H Xa μ ds vs):oH K (OW K a) (.val ds) H Xa μ:=by
 intro f k n o m c i;have b:=(l.mv m).sq;have h:=q.mv m;show match ds[i]? with|some d=>_|none=>_
 cases e:ds[i]? with
 | some d=>
  obtain⟨v,g,j⟩:=h.get e;refine⟨⟨vs,v,b,g⟩,λx p y=>?_⟩;obtain⟨rfl,y⟩:=y;have:=y vs b;rw[g] at this;cases this;exact⟨.refl,c,j⟩
 | none=>
  refine⟨vs,b,?_⟩;have:=bg.mp e;rw[<- q.length];exact this
def oH.own(h:μ[k]?=XE a):oH K (OY K a) (.own k) H Xa μ:=by
 intro j o w p m c i;obtain⟨q,rfl⟩:=m.pre;have r:(μ++q)[k]?=XE a:=by rw[aI (ak.mp h).1];exact h
 obtain⟨b,f,s,t,l⟩:=c.at_ k a r;have g:qY K o a f:=.of t;show match (match p[k]? with|some b=>b[i]?|none=>YP) with|some d=>_|none=>_
 rw[s];show match b[i]? with|some d=>_|none=>_
 cases e:b[i]? with
 | some d=>
  obtain⟨v,n,u⟩:=l.get e;refine⟨⟨f,v,g,n⟩,λx z y=>?_⟩;obtain⟨rfl,y⟩:=y;have:=y f g;rw[n] at this;cases this;exact⟨.refl,c,u⟩
 | none=>
  refine⟨f,g,?_⟩;have:=bg.mp e;rw[<- l.length];exact this
def OX(x:au):It:=⟨λi _=>i<x.cps.size,λi H v H'=>H'=H/\∃c,x.cps[i]?=XE c/\v=.str ⟨#[c]⟩,λi _=>x.cps.size<=i⟩
def oH.str{K:aj}{H:Hp}{Xa μ:List af}{cs:n_}:oH K (OX ⟨cs.toArray⟩) (.val (cs.map λc=>.str [c])) H Xa μ:=by
 intro a h j k m c i;show match (cs.map λc=>D.str [c])[i]? with|some d=>_|none=>_
 rw[bC];cases e:cs[i]? with
 | some d=>
  have f:=(ak.mp e).1;refine⟨by show i<cs.toArray.size;simpa using f,λx l y=>?_⟩;obtain⟨rfl,z,g,rfl⟩:=y;have b:=g;rw[List.getElem?_toArray,e] at b;cases b;refine⟨.refl,c,?_⟩;rfl
 | none=>
  have:=bg.mp e;show cs.toArray.size<=i;simpa using this
def oH.rng:oH K (Hm lo n) (.val ((aW n).map λi=>.int (lo+(i:Nat)))) H Xa μ:=by
 intro b e f g m c i;show match ((aW n).map λi=>D.int (lo+(i:Nat)))[i]? with|some d=>_|none=>_
 rw[bC];by_cases a:i<n
 ·rw[mh a];refine⟨a,λx h y=>?_⟩;obtain⟨rfl,rfl⟩:=y;exact⟨.refl,c,sV⟩
 ·rw[bg.mpr ⇑a];exact lP.mp a
def zgb(x:au)(t:Tok)(it:af):yc P w K tg (OX x) [it] it (λi h=>h.IsStrIter it (strIterType x) x t i) where
 mem:=by simp
 obj:=λi h a b j=>by
  have e:b=it:=⇑j
  subst e;obtain⟨o,e,c,d⟩:=a;exact⟨o,e,λv z=>by rw[d] at z;cases z⟩
 keep:=λi h f a k=>by
  obtain⟨o,e,c,d⟩:=a;exact⟨o,k it 'd' o e,c,d⟩
 item:=by
  intro X R S T G i g s J H E I p a L;subst R S T;obtain⟨q,r,W,B,C,D⟩:=p it 'd';obtain⟨U,l⟩:∃c,x.cps[i]?=XE c:=⟨_,dW (L)⟩;have M:∀(F:String),(["enumerate", "zip", "dict_itemiterator", "dict_reverseitemiterator", "odict_iterator", "itertools.zip_longest", "itertools.pairwise"].contains F=Y2)->strIterType x=F->∀f,f.IsStrIter it F x t (i+1)->d6 it s.heap f->
    ∃u,XE (oa ⟨#[U]⟩ s.toks)=XE u/\aq (ax X.prog X.w) X.A (letOwnedTupleGo tg (.ref it) u) (λ_ V=>∃y N,Inv X g J N V/\RelV y u/\(OX x).yld i H y N/\V.heap.IsStrIter it (strIterType x) x t (i+1)/\∀b∈[it],N b=YP) E { s with heap:=f,toks:=s.toks+1 }:=by
   intro F Y Z f m n;have I1:Inv X g J H { s with heap:=f,toks:=s.toks+1 }:=I.turned (λb o j e=>(n.2 b j).trans e) q r B C D;obtain⟨o,e,c,d⟩:=id m;refine⟨_,rfl,E7 e c d Y ⟨.str ⟨#[U]⟩,H,I1,⟨_,rfl⟩,⟨rfl,_,l,rfl⟩,?_,λb j=>(p b j).1⟩⟩;rw[Z];exact m
  unfold strIterType at a M ⊢;split at a
  ·rename_i O;exact wpAny_pyNext_ascii_item a l λf m n=>M "str_ascii_iterator" 's' (by rw[JU O]) f m n
  ·rename_i O;exact wpAny_pyNext_wide_item a l λf m n=>M "str_iterator" 's' (by rw[J5 O]) f m n
 done:=by
  intro X R S T G i g s J H E I p a L;obtain⟨q,r,W,B,C,D⟩:=p it 'd';have l:x.cps[i]?=YP:=by
   have:x.cps.size<=i:=L;simp[this]
  unfold strIterType at a;split at a
  ·exact wpAny_pyNext_ascii_end (I.ok.hd G) a l λf Q=>⟨rfl,I.turned (λb o j e=>Q b o j e) q r B C D⟩
  ·exact wpAny_pyNext_wide_end (I.ok.hd G) a l λf Q=>⟨rfl,I.turned (λb o j e=>Q b o j e) q r B C D⟩
 self:=λ_ _ s _ _ a h=>by
  unfold strIterType at a;split at a
  ·exact wpAny_pyIter_striter_ascii a h
  ·exact wpAny_pyIter_striter_wide a h
section
variable{X:Cx}{Ex:Nat->Hp->Prop}{pos:Pos}{a b c tg:aS}{ta:DE}
noncomputable def PL(O:Ow):D->R Src
 |.lst ds=>.ok (.val ds) O
 |.tup ds=>.ok (.val ds) O
 |.str cs=>.ok (.val (cs.map λc=>.str [c])) O
 |.own k=>.ok (.own k) O
 |_=>.bad
def qy(t:DE):DI:=λσ O=>(t σ O).bnd λx O1=>PL O1 x
def SR(G:PD X Ex a ta):tu X Ex tg a (qy ta):=by
 refine⟨?_⟩;rintro m s L H M I ⟨f,U,V,O,N,P,q⟩;refine pS (G.out m s L H _ I (rd.go N P q (Q1:=λv g=>∃f n w d,oB X.K g f n w/\Xe X.K g f n d v/\post Ex X.K (λQ R s J=>oH X.K J s Q f R) g f n (PL w d) M)
  λd w v g n W x c r p=>⟨f,n,w,d,c,r,p⟩)) λu h ⟨v,g,i,z,f,n,w,d,c,r,p⟩=>?_
 have j:∀(b:af),b∈[h.heap.objs.size]->sS X m g b:=λb S=>by
  have e:b=h.heap.objs.size:=⇑S
  subst e;exact i.fpOk (aB _) (i.hok.fresh (aB _))
 cases d with
 | lst A=>
  obtain⟨a,B,rfl,l,q⟩:=r;cases z;obtain⟨C,D,y,E⟩:=i.list l.sq;refine eV y.isList ?_;exact⟨h.heap.objs.size,[h.heap.objs.size],_,_,g,rfl,i.kept λb o e=>ah _ e,Vm a _,⟨_,aM _ rfl,rfl,rfl⟩,j,post.here p c (.val l q)⟩
 | tup A=>
  obtain⟨a,B,rfl,l,q⟩:=r;cases z;obtain⟨C,D,y,E⟩:=i.tuple l.sq;refine mB (y) ?_;exact⟨h.heap.objs.size,[h.heap.objs.size],_,_,g,rfl,i.kept λb o e=>ah _ e,zbh a _,⟨_,aM _ rfl,rfl,rfl⟩,j,post.here p c (.tup l q)⟩
 | str cs=>
  subst r;obtain⟨t,rfl⟩:=z;refine wpAny_pyIter_strU ?_;exact⟨h.heap.objs.size,[h.heap.objs.size],_,_,g,rfl,i.kept λb o e=>ah _ e,zgb ⟨cs.toArray⟩ t _,⟨_,aM _ rfl,rfl,rfl⟩,j,post.here p c .str⟩
 | own k=>
  obtain⟨a,rfl,F⟩:=r;cases z;obtain⟨A,B,Y,T,Z⟩:=c.at_ k a F;obtain⟨C,D,y,E⟩:=i.list (.of T);refine eV y.isList ?_;exact⟨h.heap.objs.size,[h.heap.objs.size],_,_,g,rfl,i.kept λb o e=>ah _ e,Vm a _,⟨_,aM _ rfl,rfl,rfl⟩,j,post.here p c (.own F)⟩
 |_=>exact ai p
noncomputable def Fi(lo hi:Int):Src:=.val ((aW (hi-lo).toNat).map λi=>.int (lo+(i:Nat)))
def tD(t:DA):DI:=λσ O=>(t σ O).bnd λxs O1=>match xs with
 |[.int j]=>if -1000000<=j/\j<=1000000 then .ok (Fi 0 j) O1 else .bad
 |_=>.bad
def Ic(t:DA):DI:=λσ O=>(t σ O).bnd λxs O1=>match xs with
 |[.int i,.int j]=>if -1000000<=i/\i<=1000000/\-1000000<=j/\j<=1000000 then .ok (Fi i j) O1 else .bad
 |_=>.bad
def PI.imp(h:PI X tg iter t)(f:∀σ H Q,t' σ H Q->t σ H Q):PI X tg iter t':=λd s σ H Q I q=>h d s σ H Q I (f σ H Q q)
def uE(h:oC K H Xa μ [d] vs):∃v,vs=[v]/\Xe K H Xa μ d v:=by obtain⟨v,r,rfl,e,f⟩:=h;subst f;exact⟨v,rfl,e⟩
def Ap(h:oC K H Xa μ [d,e] vs):∃v w,vs=[v,w]/\Xe K H Xa μ d v/\Xe K H Xa μ e w:=by obtain⟨v,r,rfl,f,g⟩:=h;obtain⟨w,rfl,i⟩:=uE g;exact⟨v,w,rfl,f,i⟩
def VI(f:Gl X "range")(g:X.mg "range" = YP)(h:tw X Ex [a] t)(i:aF [a] X.env=[(Y2,eval a X.env)]:=by rfl):tu X Ex tg (.Call (.Name "range" p) [a] [] pos) (tD t):=
 tu.mk <| PI.imp (zdO f g h.out i) λn H Q ⟨k,o,s,O,l,m,q⟩=>uS.go l m q λd u w y z A x c r p=>by
  split at p
  ·rename_i j;obtain⟨⟨B,C⟩,p⟩:=post.ite p;obtain⟨v,rfl,e⟩:=uE r;unfold Xe at e;subst e;refine⟨j,rfl,by lia,by lia,?_⟩;have:=post.here p c (oH.rng);simpa using this
  ·exact ai p
def zbs(g:Gl X "range")(h:X.mg "range" = YP)(k:tw X Ex [a,b] t)(l:aF [a,b] X.env=[(Y2,eval a X.env),(Y2,eval b X.env)]:=by rfl)(m:aF [b] X.env=[(Y2,eval b X.env)]:=by rfl):
  tu X Ex tg (.Call (.Name "range" p) [a,b] [] pos) (Ic t):=
 tu.mk <| PI.imp (zc9 g h k.out l m) λu H Q ⟨n,y,z,O,o,s,q⟩=>uS.go o s q λd A B C D E x c r p=>by
  split at p
  ·rename_i i j;obtain⟨F,p⟩:=post.ite p;obtain⟨v,w,rfl,e,f⟩:=Ap r;unfold Xe at e f;subst e;subst f;exact⟨i,j,rfl,⟨by lia,by lia,by lia,by lia⟩,post.here p c (oH.rng)⟩
  ·exact ai p
end
inductive RS where
 |nx (σ:Sg) (O:Ow)
 |rt (d:D) (O:Ow)
 |bk (σ:Sg) (O:Ow)
 |ct (σ:Sg) (O:Ow)
 |exc (c:Nat) (O:Ow)
 |bad
 deriving Inhabited
abbrev DS:=Sg->Ow->RS
def R.bnS{α:Type}(r:R α)(k:α->Ow->RS):RS:=match r with
 |.ok a O=>k a O
 |.exc c O=>.exc c O
 |.bad=>.bad
section
variable(Ex:Nat->Hp->Prop)(K:aj)
def oG(H:Hp)(Xa μ:List af)(r:RS)(E:yE):Prop:=match r with
 |.nx σ O=>∀b_ H' d_,Ext H μ H' d_->oD K H' Xa d_ σ b_->oB K H' Xa d_ O->E.nx b_ H'
 |.rt d O=>∀v H' d_,Ext H μ H' d_->oB K H' Xa d_ O->Xe K H' Xa d_ d v->E.rt v H'
 |.bk σ O=>∀b_ H' d_,Ext H μ H' d_->oD K H' Xa d_ σ b_->oB K H' Xa d_ O->E.bk b_ H'
 |.ct σ O=>∀b_ H' d_,Ext H μ H' d_->oD K H' Xa d_ σ b_->oB K H' Xa d_ O->E.ct b_ H'
 |.exc c O=>∀H' d_,Ext H μ H' d_->oB K H' Xa d_ O->Ex c H'
 |.bad=>False
def J3(t:DS):TS:=λE b_ H=>∃Xa μ σ O,oD K H Xa μ σ b_/\oB K H Xa μ O/\oG Ex K H Xa μ (t σ O) E
end
structure uA(X:Cx)(Ex:Nat->Hp->Prop)(st:cT)(t:DS):Prop where
 out:PS X st (J3 Ex X.K t)
structure r8(X:Cx)(Ex:Nat->Hp->Prop)(st:List cT)(t:DS):Prop where
 out:sE X st (J3 Ex X.K t)
def PS.imp(h:PS X st t)(f:∀E σ H,t' E σ H->t E σ H):PS X st t':=λa s σ H D I q=>h a s σ H D I (f D σ H q)
def sE.imp(h:sE X st t)(f:∀E σ H,t' E σ H->t E σ H):sE X st t':=λa s σ H D I q=>h a s σ H D I (f D σ H q)
section
variable{Ex:Nat->Hp->Prop}{K:aj}{H H1:Hp}{Xa μ f_:List af}
def oG.ext{r:RS}{E:yE}(h:oG Ex K H Xa μ r E)(e:Ext H μ H1 f_):oG Ex K H1 Xa f_ r E:=by
 cases r with
 |nx σ O=>exact λj f g i a b=>h j f g (e.trans i) a b
 |bk σ O=>exact λj f g i a b=>h j f g (e.trans i) a b
 |ct σ O=>exact λj f g i a b=>h j f g (e.trans i) a b
 |rt d O=>exact λv f g i a b=>h v f g (e.trans i) a b
 |exc c O=>exact λf g i a=>h f g (e.trans i) a
 |bad=>exact h
def oG.bnS{α β:Type}{a:Hp->List af->α->β->Prop}{r:R α}{k:α->Ow->RS}{E:yE}{Q1:β->Hp->Prop}(h:oG Ex K H Xa μ (r.bnS k) E)
  (b:∀d O1 v H1 f_,Ext H μ H1 f_->oB K H1 Xa f_ O1->a H1 f_ d v->oG Ex K H1 Xa f_ (k d O1) E->Q1 v H1):post Ex K a H Xa μ r Q1:=by
 cases r with
 |ok d O'=>exact λv f g e c q=>b d O' v f g e c q (oG.ext (h) e)
 |exc c O'=>exact h
 |bad=>exact h
end
section
variable{X:Cx}{Ex:Nat->Hp->Prop}{pos:Pos}{a b c e tg:aS}{tb tc te:DE}
def yK{g:cT}{t:TS}{t':DS}(h:PS X g t)(f:∀Xa μ σ O E d H,oD X.K H Xa μ σ d->oB X.K H Xa μ O->oG Ex X.K H Xa μ (t' σ O) E->t E d H):uA X Ex g t':=
 ⟨PS.imp h λE d H ⟨Xa,μ,σ,O,i,j,q⟩=>f Xa μ σ O E d H i j q⟩
def LO(h:sE X st t)(f:∀Xa μ σ O E d H,oD X.K H Xa μ σ d->oB X.K H Xa μ O->oG Ex X.K H Xa μ (t' σ O) E->t E d H):r8 X Ex st t':=
 ⟨sE.imp h λE d H ⟨Xa,μ,σ,O,g,i,q⟩=>f Xa μ σ O E d H g i q⟩
def rd.goS{t:DE}{Xa μ:List af}{σ:Sg}{O:Ow}{i:St}{H:Hp}{Q1:VK}{k:D->Ow->RS}{E:yE}(j:oD X.K H Xa μ σ i)(l:oB X.K H Xa μ O)
  (q:oG Ex X.K H Xa μ ((t σ O).bnS k) E)
  (f:∀d O1 v g h,oD X.K g Xa h σ i->Ext H μ g h->oB X.K g Xa h O1->Xe X.K g Xa h d v->oG Ex X.K g Xa h (k d O1) E->Q1 v g):rd Ex X.K t i H Q1:=
 ⟨Xa,μ,σ,O,j,l,oG.bnS q λd O1 v g h x c r p=>f d O1 v g h (j.ext x) x c r p⟩
def xV.goS{t:DT}{Xa μ:List af}{σ:Sg}{O:Ow}{i:St}{H:Hp}{Q1:Bool->Hp->Prop}{k:Bool->Ow->RS}{E:yE}(j:oD X.K H Xa μ σ i)(l:oB X.K H Xa μ O)
  (q:oG Ex X.K H Xa μ ((t σ O).bnS k) E)
  (f:∀v O1 g h,oD X.K g Xa h σ i->Ext H μ g h->oB X.K g Xa h O1->oG Ex X.K g Xa h (k v O1) E->Q1 v g):xV Ex X.K t i H Q1:=
 ⟨Xa,μ,σ,O,j,l,oG.bnS q λd O1 v g h x c r p=>by
  subst r;exact f d O1 g h (j.ext x) x c p⟩
def qS:DS:=λσ O=>.nx σ O
def pL(t u:DS):DS:=λσ O=>match t σ O with
 |.nx σ' O'=>u σ' O'
 |r=>r
def T_:r8 X Ex [] qS:=LO SY λd f j O E g H h i q=>q g H f .refl h i
def qM{i:cT}{f:List cT}{t u:DS}(k:uA X Ex i t)(l:r8 X Ex f u):r8 X Ex (i::f) (pL t u):=
 LO (Eh k.out l.out) λh m j O E s H n o q=>by
  refine⟨h,m,j,O,n,o,?_⟩;unfold pL at q;cases g:t j O with
  | nx σ' O'=>
   rw[g] at q;exact λv w p r a b=>⟨h,p,σ',O',a,b,q.ext r⟩
  |rt d O'=>rw[g] at q;exact q
  |bk σ' O'=>rw[g] at q;exact q
  |ct σ' O'=>rw[g] at q;exact q
  |exc c O'=>rw[g] at q;exact q
  |bad=>rw[g] at q;exact q
def qK(d:uA X Ex st t):r8 X Ex [st] t:=⟨So d.out⟩
def pT(t:DE):DS:=λσ O=>(t σ O).bnS λd O1=>.rt d O1
def SM(f:PD X Ex e te):uA X Ex (.Return (XE e) pos) (pT te):=
 yK (Zc f.out) λg l m O E n H h i q=>rd.goS h i q λd o v j k s x c r p=>p v j k .refl c r
def qT(c:DT)(t u:DS):DS:=λσ O=>(c σ O).bnS λb O1=>if b=Y1 then t σ O1 else u σ O1
def Rt{c:aS}{x y:List cT}{tc:DT}{t u:DS}(j:rF X Ex c tc)(l:r8 X Ex x t)(m:r8 X Ex y u):uA X Ex (.If c x y pos) (qT tc t u):=
 yK (Yy j.out l.out m.out) λd r f O E s H n o q=>xV.goS n o q λk g v h i x c p=>by
  cases k with
  |true=>rw[JU rfl];exact⟨d,h,f,g,i,c,p⟩
  |false=>rw[J5 cz];exact⟨d,h,f,g,i,c,p⟩
def K3:DS:=λ_ _=>.bad
def S7:r8 X Ex st K3:=LO zei λd f g O E h H i j q=>q
def tG(t:DE):DS:=λσ O=>(t σ O).bnS λ_ O1=>.nx σ O1
def T5(f:PD X Ex e te)(g:swapsWith e YP pos.line X.env=pure Y2:=by rfl):uA X Ex (.Expr e pos) (tG te):=
 yK (RL f.out g) λh o s O E i H j k q=>rd.goS j k q λd t v l m n x c r p=>p i l m .refl n c
def p_(i:Nat)(t:DE):DS:=λσ O=>(t σ O).bnS λd O1=>.nx (σ.set i (XE d)) O1
def IU(f:X.N.Nodup)(g:X.N[i]?=XE x)(h:Loc X.env.scope x)(j:PD X Ex e te)(k:swapsWith e (XE (.Name x pos')) pos.line X.env=pure Y2:=by rfl)
  (l:X.fn x=Y1\/X.env.scope.names.lookup x=XE .local:=by first|exact .inl rfl|exact .inr rfl):uA X Ex (.Assign [.Name x pos'] e pos) (p_ i te):=
 yK (Lh f g h j.out k l) λm y z O E n H o s q=>rd.goS o s q λd A v t u w x c r p=>p (n.set i (XE v)) t u .refl (w.set r i) c
def HB(i j:Nat)(t:DA):DS:=λσ O=>(t σ O).bnS λds O1=>match ds with
 |[x,y]=>.nx ((σ.set i (XE x)).set j (XE y)) O1
 |_=>.bad
inductive Tg where
 |one (i:Nat)
 |two (i j:Nat)
noncomputable def Tg.put:Tg->D->Sg->Option Sg
 |.one i,d,σ=>XE (σ.set i (XE d))
 | .two i j,d,σ=>match d with
  |.tup [x,y]=>XE ((σ.set i (XE x)).set j (XE y))
  |_=>YP
def Tg.rd(K:aj):Tg->TG
 |.one i=>Ar i
 |.two i j=>Po K 2 (K7 (Ar i) (K7 (Ar j) Pm))
def Tg.slots:Tg->n_
 |.one i=>[i]
 |.two i j=>[i,j]
def Tg.ok2(g:Tg)(n:oD K H Xa μ σ b_)(q:Xe K H Xa μ d v)(h:g.put d σ=XE σ')
  (k:∀f,oD K H Xa μ σ' f->(∀i,i∉g.slots->f[i]?=b_[i]?)->Q f H):g.rd K v b_ H Q:=by
 cases g with
 | one i=>
  cases h;exact k _ (n.set q i) λj p=>aZ (λe=>p (by simp[Tg.slots,e]))
 | two i j=>
  unfold Tg.put at h;dsimp only at h;split at h
  ·rename_i x y;cases h;obtain⟨a,t,rfl,l,q⟩:=q;obtain⟨u,w,rfl,r,s⟩:=Ap q;refine⟨a,[u,w],rfl,l.sq,rfl,u,[w],rfl,w,[],rfl,rfl,k _ ((n.set r i).set s j) λm o=>?_⟩;rw[aZ (λe=>o (by simp[Tg.slots,e])),aZ (λe=>o (by simp[Tg.slots,e]))]
  ·cases h
def Tg.ok{K:aj}{H:Hp}{Xa μ:List af}{σ σ':Sg}{f:St}{d:D}{v:V}{Q:St->Hp->Prop}(g:Tg)(m:oD K H Xa μ σ f)(q:Xe K H Xa μ d v)(h:g.put d σ=XE σ')(k:∀n,oD K H Xa μ σ' n->Q n H):g.rd K v f H Q:=by
 cases g with
 |one i=>cases h;exact k _ (m.set q i)
 | two i j=>
  unfold Tg.put at h;dsimp only at h;split at h
  ·rename_i x y;cases h;obtain⟨a,r,rfl,l,q⟩:=q;obtain⟨u,w,rfl,o,p⟩:=Ap q;exact⟨a,[u,w],rfl,l.sq,rfl,u,[w],rfl,w,[],rfl,rfl,k _ ((m.set o i).set p j)⟩
  ·cases h
def QA(d:X.N.Nodup)(f:X.N[i]?=XE x)(g:Loc X.env.scope x)(h:X.fn x=Y1\/X.env.scope.names.lookup x=XE .local:=by first|exact .inl rfl|exact .inr rfl|assumption):PG X (.Name x pos) ((Tg.one i).rd X.K):=IS d f g h
noncomputable def uN(src:Src)(step:D->Sg->Ow->RS):Nat->Nat->Sg->Ow->RS
 | 0,i,σ,O=>match src.get O i with
  |none=>.nx σ O
  |some _=>.bad
 | f+1,i,σ,O=>match src.get O i with
  |none=>.nx σ O
  | some d=>match step d σ O with
   |.nx σ' O'=>uN src step f (i+1) σ' O'
   |.ct σ' O'=>uN src step f (i+1) σ' O'
   |.bk σ' O'=>.nx σ' O'
   |r=>r
def t6(it:DI)(g:Tg)(body:DS):DS:=λσ O=>(it σ O).bnS λsrc O1=>uN src (λd σ O=>match g.put d σ with|some σ'=>body σ' O|none=>.bad) (src.size O1) 0 σ O1
def RQ{u:aS}{body:List cT}{it:DI}{g:Tg}{tb:DS}(hp:jG (ax X.prog X.w) X.A X.env X.xe)(hc:X.calm=Y1)(hi:tu X Ex tg u it)(hg:PG X tg (g.rd X.K))(hb:r8 X Ex body tb)
  (hs:∀x,cg u X.env x=pure x:=by intro _;rfl):uA X Ex (.For tg u body [] pos) (t6 it g tb):=
 yK (QO hp hc hi.out hg hb.out hs) λk μ Q O E b_ H Y c1 q=>by
  refine⟨k,μ,Q,O,Y,c1,oG.bnS q λo O1 J Z S x1 c2 sa p=>?_⟩;generalize vG:(λ(d:D)(Q:Sg)(O:Ow)=>match g.put d Q with|some j=>tb j O|none=>RS.bad)=n at p;refine⟨λi m L t=>∃s j z,Ext Z S t s/\oD X.K t k s j L/\oB X.K t k s z/\oG Ex X.K t k s (uN o n m i j z) E,⟨_,S,Q,O1,.refl,Y.ext x1,c2,p⟩,?_⟩;rintro i m xF M ⟨F,N,B,x2,T,U,C⟩;have R:=sa k M F B x2.mv U i;cases G:o.get B i with
  | none=>
   rw[G] at R;refine .inl ⟨R,?_⟩;cases m with
   | zero=>
    have l:oG Ex X.K M k F (match o.get B i with|none=>.nx N B|some _=>.bad) E:=C;rw[G] at l;exact l xF M F .refl T U
   | succ f=>
    unfold uN at C;rw[G] at C;exact C xF M F .refl T U
  | some d=>
   rw[G] at R;obtain⟨go,yl⟩:=R;cases m with
   | zero=>
    have l:oG Ex X.K M k F (match o.get B i with|none=>.nx N B|some _=>.bad) E:=C;rw[G] at l;exact ai l
   | succ f=>
    refine .inr ⟨go,λL t=>∃s j z,Ext Z S t s/\oD X.K t k s j L/\oB X.K t k s z/\oG Ex X.K t k s (uN o n f (i+1) j z) E,λj t h=>⟨f,fi f,h⟩,λv H3 y=>?_⟩;obtain⟨V,c4,r⟩:=yl v H3 y;unfold uN at C;rw[G] at C;have l:oG Ex X.K H3 k F (match n d N B with
     |.nx j z=>uN o n f (i+1) j z
     |.ct j z=>uN o n f (i+1) j z
     |.bk j z=>.nx j z
     |r=>r) E:=oG.ext C V
    cases W:g.put d N with
    | none=>
     rw[<- vG] at l;simp only[W] at l;exact ai l
    | some sG=>
     refine Tg.ok g (T.ext V) r W λXG e3=>⟨k,F,sG,B,e3,c4,?_⟩;have WN:n d N B=tb sG B:=by rw[<- vG];simp only[W]
     rw[WN] at l;have x4:=x2.trans V;cases I:tb sG B with
     |nx Ho O4=>rw[I] at l;exact λL t s P a b=>⟨s,Ho,O4,x4.trans P,a,b,l.ext P⟩
     |ct Ho O4=>rw[I] at l;exact λL t s P a b=>⟨s,Ho,O4,x4.trans P,a,b,l.ext P⟩
     |bk Ho O4=>rw[I] at l;exact l
     |rt d4 O4=>rw[I] at l;exact l
     |exc c4 O4=>rw[I] at l;exact l
     |bad=>rw[I] at l;exact l
end
structure Cl where
 it:DI
 g:Tg
 ifs:List DT
def qz:List Cl->n_
 |[]=>[]
 |c::cs=>c.g.slots++qz cs
def qH{α:Type}(σ:List (Option α)):n_->List (Option α)
 |[]=>σ
 |i::r=>qH (σ.set i YP) r
def uD:List DT->DT
 |[]=>λ_ O=>.ok Y1 O
 |c::cs=>λσ O=>(c σ O).bnd λb O1=>if b=Y1 then uD cs σ O1 else .ok Y2 O1
noncomputable def q0(src:Src)(step:D->Ow->List D->R (List D)):Nat->Nat->Ow->List D->R (List D)
 | 0,i,O,Xu=>match src.get O i with
  |none=>.ok Xu O
  |some _=>.bad
 | f+1,i,O,Xu=>match src.get O i with
  |none=>.ok Xu O
  |some d=>(step d O Xu).bnd λrg O'=>q0 src step f (i+1) O' rg
def xo:List Cl->DE->Sg->Ow->List D->R (List D)
 |[],elt,σ,O,Xu=>(elt σ O).bnd λv O1=>if Xu.length<4000000 then .ok (Xu++[v]) O1 else .bad
 | c::cs,elt,σ,O,Xu=>(c.it σ O).bnd λsrc O1=>q0 src (λd O2 Xu=>match c.g.put d (qH σ (qz (c::cs))) with
   |some qv=>(uD c.ifs qv O2).bnd λb O3=>if b=Y1 then xo cs elt qv O3 Xu else .ok Xu O3
   |none=>.bad) (src.size O1) 0 O1 Xu
def An(c:Cl)(cs:List Cl)(elt:DE)(σ:Sg):D->Ow->List D->R (List D):=λd O2 Xu=>match c.g.put d (qH σ (qz (c::cs))) with
   |some qv=>(uD c.ifs qv O2).bnd λb O3=>if b=Y1 then xo cs elt qv O3 Xu else .ok Xu O3
   |none=>.bad
abbrev Em:=Sg->Ow->List D->R (List D)
def A2(te:DE):Em:=λσ O Xu=>(te σ O).bnd λv O1=>if Xu.length<4000000 then .ok (Xu++[v]) O1 else .bad
def vh:List Cl->Em->Sg->Ow->List D->R (List D)
 |[],em,σ,O,Xu=>em σ O Xu
 | c::cs,em,σ,O,Xu=>(c.it σ O).bnd λsrc O1=>q0 src (λd O2 Xu=>match c.g.put d (qH σ (qz (c::cs))) with
   |some qv=>(uD c.ifs qv O2).bnd λb O3=>if b=Y1 then vh cs em qv O3 Xu else .ok Xu O3
   |none=>.bad) (src.size O1) 0 O1 Xu
def u4(c:Cl)(cs:List Cl)(em:Em)(σ:Sg):D->Ow->List D->R (List D):=λd O2 Xu=>match c.g.put d (qH σ (qz (c::cs))) with
   |some qv=>(uD c.ifs qv O2).bnd λb O3=>if b=Y1 then vh cs em qv O3 Xu else .ok Xu O3
   |none=>.bad
theorem Sf(te:DE):∀a:List Cl,vh a (A2 te)=xo a te
 |[]=>by funext σ O Xu;unfold vh xo A2;rfl
 |c::cs=>by funext σ O Xu;unfold vh xo;rw[Sf te cs]
def zhW(c:Cl)(cs:List Cl)(te:DE):u4 c cs (A2 te)=An c cs te:=by funext σ d O Xu;unfold u4 An;rw[Sf te cs]
theorem Fm{α:Type}:∀(l:n_)(σ:List (Option α)),(qH σ l).length=σ.length
 |[],_=>rfl
 |i::r,σ=>by unfold qH;rw[Fm r];simp
theorem LH{α:Type}:∀(l:n_)(σ:List (Option α))(i:Nat),i∉l->(qH σ l)[i]?=σ[i]?
 |[],σ,i,h=>rfl
 | j::r,σ,i,h=>by
  unfold qH;rw[LH r _ i λz=>h (al _ z),aZ λz=>h (by simp[z])]
theorem Je{α:Type}:∀(l:n_)(σ:List (Option α))(i:Nat)(d:α),(qH σ l)[i]?=XE (XE d)->σ[i]?=XE (XE d)/\i∉l
 |[],σ,i,d,h=>⟨h,by simp⟩
 | j::r,σ,i,d,h=>by
  obtain⟨a,b⟩:=Je r _ i d h;by_cases e:j=i
  ·subst e;by_cases c:j<σ.length
   ·rw[aY c] at a;cases a
   ·rw[bg.mpr (by simp;lia)] at a;cases a
  ·rw[aZ e] at a;exact⟨a,by simp[b];exact λz=>e z.symm⟩
structure Ea(A:af)(H:Hp)(μ:List af)(H':Hp)(d_:List af):Prop where
 pre:∃ν,d_=μ++ν
 kept:∀b o,H b=XE o->b∉μ->b≠A->DV o->H' b=XE o
 fresh:∀b∈d_,b∈μ\/H b=YP
 there:∀b,H b≠YP->H' b≠YP
 tab:∀P,oQ H P->oQ H' P
section
variable{K:aj}{A:af}{H H' H1 H2:Hp}{Xa μ d_ f_ pW:List af}
def Ext.ea(e:Ext H μ H' d_):Ea A H μ H' d_:=⟨e.pre,λb o h n _ a=>e.kept b o h n a,e.fresh,e.there,e.tab⟩
def Ea.refl:Ea A H μ H μ:=Ext.refl.ea
def Ea.trans(a:Ea A H μ H1 f_)(b:Ea A H1 f_ H2 pW):Ea A H μ H2 pW:=by
 have i:∀c,H1 c=YP->H c=YP:=λc h=>by
  cases e:H c with
  |none=>rfl
  |some o=>exact absurd h (a.there c (by rw[e];simp))
 refine⟨?_,λc o h d f g=>?_,λc h=>?_,λc h=>b.there c (a.there c h),λP t=>b.tab P (a.tab P t)⟩
 ·obtain⟨x,rfl⟩:=a.pre;obtain⟨y,rfl⟩:=b.pre;exact⟨x++y,by simp⟩
 ·refine b.kept c o (a.kept c o h d f g) (λm=>?_) f g;rcases a.fresh c m with z|z
  ·exact d z
  ·rw[z] at h;cases h
 ·rcases b.fresh c h with z|z
  ·exact a.fresh c z
  ·exact .inr (i c z)
def Ea.mv(e:Ea A H μ H' d_):Mv H (A::Xa) μ H' (A::Xa) d_:=⟨e.pre,λb o h a c d=>e.kept b o h a (λz=>c (by simp[z])) d,e.fresh,λ_ m=>.inl m,e.there,e.tab⟩
def Ea.putX(a:∀P,oQ H P->oQ (upd H A o) P):Ea A H μ (upd H A o) μ:=⟨⟨[],by simp⟩,λb u h _ n _=>by rw[pX n];exact h,λ_ m=>.inl m,yo,a⟩
def oB.putX(c:oB K H (A::Xa) μ O)(b:∀P,oQ H P->oQ (upd H A o) P):oB K (upd H A o) (A::Xa) μ O:=by refine⟨c.len,c.nd,c.nh,λa m=>yo a (c.ht a m),λk a e=>?_⟩;obtain⟨d,f,g,h,i⟩:=c.at_ k a e;have j:a≠A:=λz=>c.nh a (aO e) (by simp[z]);exact⟨d,f,g,by rw[pX j];exact h,i.mv (Ea.putX b).mv⟩
def Ea.put{o:HO}(a:∃vs,H A=XE (.lst vs)):Ea A H μ (upd H A o) μ:=.putX λ_ t=>t.upd (.inr a)
def oB.putA{o:HO}{O:Ow}(c:oB K H (A::Xa) μ O)(a:∃vs,H A=XE (.lst vs)):oB K (upd H A o) (A::Xa) μ O:=c.putX λ_ t=>t.upd (.inr a)
def oB.unhide(c:oB K H (A::Xa) μ O):oB K H Xa μ O:=
 ⟨c.len,c.nd,λa m z=>c.nh a m (al _ z),λa m=>c.ht a (al _ m),λk a e=>
  let ⟨ds,vs,h1,h2,h3⟩:=c.at_ k a e
  ⟨ds,vs,h1,h2,h3.mv .unhide⟩⟩
end
abbrev qD:Nat->Hp->Prop:=λ_ _=>False
inductive oU(X:Cx):List bN->List Cl->Prop where
 |nil:oU X [] []
 | cons {tg iter:aS} {ifs:List aS} {gs:List bN} {c:Cl} {cs:List Cl} (hi:tu X qD tg iter c.it) (hs:∀x,cg iter X.env x=pure x) (hg:PG X tg (c.g.rd X.K))
   (hf:cu (λe t=>rF X qD e t) ifs c.ifs) (r:oU X gs cs):oU X (⟨tg,iter,ifs,0⟩::gs) (c::cs)
section
variable{X:Cx}
def Bw{α:Type}{M:iu}{A:aX}{t:Sem α}{Q b:α->ag->Prop}{E:ae->ag->Prop}{s:ag}(c:X.xe=λ_ _=>False)(h:aq M A t Q X.xe s)(k:∀a s',Q a s'->b a s'):aq M A t b E s:=
 ci h k λe s' z=>by rw[c] at z;exact z.elim
theorem VQ{env:Env}{M:iu}{A:aX}{E:ae->ag->Prop}{s:ag}{Q:Bool->ag->Prop}(h:Q Y2 s):∀(a:List aS),aq M A (forIn a Y2 λc r=>if r=Y1 then do let ok <- isTrue c env (eval c env);pure (gc ok) else pure (gc r)) Q E s
 |[]=>am h
 | c::cs=>by
  simp;exact aa (am (VQ h cs))
theorem Tf{E:ae->ag->Prop}{Xa:List af}(i:X.xe=λ_ _=>False):∀{a:List aS}{ts:List DT},cu (λe t=>rF X qD e t) a ts->∀(Xd:List (af×Obj))(s:ag)(b_:St)(H:Hp)(μ:List af)(σ:Sg)(O:Ow)(Q:Bool->ag->Prop),
  L2.Inv X Xd b_ H s->oD X.K H Xa μ σ b_->oB X.K H Xa μ O->
  yf qD X.K H Xa μ (uD ts σ O) (λb H'=>∀s',L2.Inv X Xd b_ H' s'->Q b s')->
  aq (ax X.prog X.w) X.A (forIn a Y1 λc r=>if r=Y1 then do let ok <- isTrue c X.env (eval c X.env);pure (gc ok) else pure (gc r)) Q E s
 |_,_,.nil,Xd,s,b_,H,μ,σ,O,Q,I,e1,c1,q=>am (post.here q c1 rfl s I)
 | _::a,_::ts,.cons hc hr,Xd,s,b_,H,μ,σ,O,Q,I,e1,c1,q=>by
  simp only[h9,if_true];refine aa (aa (Bw i (hc.out Xd s b_ H _ I (xV.go e1 c1 q (Q1:=λb g=>∃d f,oD X.K g Xa d σ b_/\oB X.K g Xa d f/\yf qD X.K g Xa d (if b=Y1 then uD ts σ f else .ok Y2 f) (λb H'=>∀s',L2.Inv X Xd b_ H' s'->Q b s'))
   λb f g d h x c p=>⟨d,f,h,c,p⟩)) λb j ⟨g,k,d,f,h,l,p⟩=>am ?_))
  cases b with
  |true=>rw[JU rfl] at p;exact Tf i hr Xd j b_ g d σ f Q k h l p
  |false=>rw[J5 cz] at p;exact VQ (post.here p l rfl j k) a
structure xm where
 ex:List bN->cf->Pos->aS
 emit:ae->Env->Sem Unit
 new:Sem ae
 ho:aJ->aU->af->HO
 G:aj->aJ->aU->af->List af->Hp->List af->List D->Prop
structure Bs(X:Cx)(C:xm)(A:af)(Xa:List af)(Xd:List (af×Obj))(s:ag)(b_:St)(H:Hp)(μ:List af)(σ:Sg)(O:Ow)(Xu:List D):Prop where
 inv:L2.Inv X Xd b_ H s
 env:oD X.K H (A::Xa) μ σ b_
 cells:oB X.K H (A::Xa) μ O
 grown:C.G X.K X.prog X.w A Xa H μ Xu
def P8(X:Cx)(C:xm)(A:af)(Xa:List af)(Xd:List (af×Obj))(b_:St)(H:Hp)(μ:List af)(sl:n_)(Xu:List D)(O:Ow)(Q:ag->Prop):Prop:=
 ∀s' pV H' d_,L2.Inv X Xd pV H' s'->Ea A H μ H' d_->oB X.K H' (A::Xa) d_ O->C.G X.K X.prog X.w A Xa H' d_ Xu->pV.length=b_.length->(∀i,i∉sl->pV[i]?=b_[i]?)->Q s'
def zF(X:Cx)(C:xm)(A:af)(Xa:List af)(Xd:List (af×Obj))(b_:St)(H:Hp)(μ:List af)(sl:n_)(r:R (List D))(Q:ag->Prop):Prop:=match r with
 |.ok Xu O=>P8 X C A Xa Xd b_ H μ sl Xu O Q
 |_=>False
noncomputable def B1(e:aS)(em:ae->Env->Sem Unit)(gens:List bN)(k:Nat)(Xu:ae)(env:Env):Sem Unit:=match gens[k]? with
 | some g'=>do
  let x <- eval g'.iter env
  standAt g'.iter.pos
  let x <- if g'.is_async !=0 then foldedIterable g'.iter x else cg g'.iter env x
  let _ <- runOwn (.compStart e k (<- holding [x] (if g'.is_async !=0 then asyncIter x else pyIter x)) Xu env) env
 |none=>em Xu env
def Zg(C:xm):Prop:=∀(gens:List bN)(scope:cf)(pos:Pos)(k:Nat)(it Xu:ae)(env:Env){tg iter:aS}{ifs:List aS},gens[k]?=XE ⟨tg,iter,ifs,0⟩->
  (gens[k+1]?=YP \/ ∃Cu t7 vX,gens[k+1]?=XE ⟨Cu,t7,vX,0⟩)->
  compTurn (C.ex gens scope pos) k it Xu env=(do
   standAt iter.pos
   match <- pyNext it with
   |none=>pure (.done .next)
   | some v=>
    letOwnedTupleGo tg it v
    assign tg env v
    let mut ok:=Y1
    for c in ifs do
     if ok then ok <- isTrue c env (eval c env)
    if ok then B1 (C.ex gens scope pos) C.emit gens (k+1) Xu env
    again (.compLoop (C.ex gens scope pos) k it Xu env))
structure B6(C:xm):Prop where
 cl:∀gens scope pos,clausesOf (C.ex gens scope pos)=gens
 turn:Zg C
 keep:∀{K P w A Xa H μ Xu H' d_},C.G K P w A Xa H μ Xu->A∉μ->Ext H μ H' d_->C.G K P w A Xa H' d_ Xu
 new:∀{P:aJ}{w:aU}{A:aX}{E:ae->ag->Prop}{Q:ae->ag->Prop}{s:ag},(∀o:Obj,o.isFreed=Y2->(∀(H:Hp)(h:aR)(a:af),sysModules<a->h.get? a=XE o->oR P w (upd H a (C.ho P w a)) h a (C.ho P w a))->Q (.ref s.heap.objs.size) { s with heap:=s.heap.push o })->aq (ax P w) A C.new Q E s
 g0:∀{K P w a Xa H μ},C.G K P w a Xa (upd H a (C.ho P w a)) μ []
 q1:∀gens scope pos k it Xu env,(l7 (C.ex gens scope pos) k it Xu env).quiet=Y1
 u1:∀(A:aX)gens scope pos k it Xu env,A.under (l7 (C.ex gens scope pos) k it Xu env)=A
 d1:∀P w gens scope pos k it Xu env,(ax P w).den (l7 (C.ex gens scope pos) k it Xu env)=(compTurn (C.ex gens scope pos) k it Xu env).onRaise (λx=>do noteFrame x env;theTreesLotGoes x)
 u2:∀(A:aX)gens scope pos k it Xu env,A.under (nU (C.ex gens scope pos) k it Xu env)=A
 d2:∀P w gens scope pos k it Xu env,(ax P w).den (nU (C.ex gens scope pos) k it Xu env)=(compStart (C.ex gens scope pos) k it Xu env).onRaise (λx=>do noteFrame x env;standAt theWindowsPlace)
noncomputable def B3(elt:aS):xm where
 ex:=λgens scope pos=>.ListComp elt gens scope pos
 emit:=λXu env=>do let _ <- call (.builtin "list.append") [Xu,<- eval elt env]
 new:=newList []
 ho:=λ_ _ _=>.lst []
 G:=λK _ _ A Xa H μ Xu=>∃vs,H A=XE (.lst vs)/\oC K H (A::Xa) μ Xu vs
def Mc(c:aS):B6 (B3 c) where
 cl:=λ_ _ _=>rfl
 turn:=λd b g k n i j t l o m f=>by
  show compTurn (.ListComp c d b g) k n i j=_;unfold compTurn B1;rcases f with f|⟨u,v,w,f⟩
  ·simp only[m,f];rfl
  ·simp only[m,f,bne_self_eq_false,bZ,if_false,bind_assoc,pure_bind]
   first|rfl|congr 1
 keep:=λ⟨p,q,r⟩ s x=>⟨p,x.keep _ _ q s,r.ext x⟩
 new:=λh=>cx (h _ rfl λH h a _ e=>⟨bX _,[],0,.nil,e⟩)
 g0:=⟨[],rG,.nil⟩
 q1:=λ_ _ _ _ _ _ _=>rfl
 u1:=λ_ _ _ _ _ _ _ _=>rfl
 d1:=λ_ _ _ _ _ _ _ _ _=>rfl
 u2:=λ_ _ _ _ _ _ _ _=>rfl
 d2:=λ_ _ _ _ _ _ _ _ _=>rfl
noncomputable def Wq(Z:St->Hp->List af->Prop)(K:aj)(Xa:List af)(t:DE):TE:=λb_ H Q=>∃μ σ O,Z b_ H μ/\oD K H Xa μ σ b_/\oB K H Xa μ O/\qW qD K H Xa μ (t σ O) Q
def PD.z{X:Cx}{Z:St->Hp->List af->Prop}{Xa:List af}{e:aS}{t:DE}(h:PD X qD e t):PE X e (Wq Z X.K Xa t):=λa s b H Q I ⟨c,d,O,_,f,g,q⟩=>h.out a s b H Q I ⟨Xa,c,d,O,f,g,q⟩
section
variable{C:xm}{Z:St->Hp->List af->Prop}{A:af}{Xa:List af}{elt:aS}{gens:List bN}{scope:cf}{pos:Pos}{te:DE}{em:Em}
def Av(X:Cx)(Z:St->Hp->List af->Prop)(C:xm)(A:af)(Xa:List af)(e:aS)(gens:List bN)(em:Em)(k:Nat)(cls:List Cl):Prop:=∀(Xd:List (af×Obj))(s:ag)(b_:St)(H:Hp)(μ:List af)(σ:Sg)(O:Ow)(Xu:List D)(Q:ag->Prop)(E:ae->ag->Prop),
 Z b_ H μ->Bs X C A Xa Xd s b_ H μ σ O Xu->zF X C A Xa Xd b_ H μ (qz cls) (vh cls em σ O Xu) Q->aq (ax X.prog X.w) X.A (B1 e C.emit gens k (.ref A) X.env) (λ_ s'=>Q s') E s
def zeA{k:Nat}{e:aS}(p:X.xe=λ_ _=>False)(F:PE X elt (Wq Z X.K (A::Xa) te))(G:gens[k]?=YP):Av X Z (B3 elt) A Xa e gens (A2 te) k []:=by
 intro a s h H i t O b Q E z B q;unfold B1;rw[G];obtain⟨w,I,J⟩:=B.grown;cases j:te t O with
 | ok d O1=>
  have l:zF X (B3 elt) A Xa a h H i (qz []) (if b.length<4000000 then .ok (b++[d]) O1 else .bad) Q:=by
   have:=q;unfold vh A2 at this;rw[j] at this;exact this
  by_cases o:b.length<4000000
  ·rw[JU o] at l;refine aa (Bw p (F a s h H (λv f=>∃g,Ext H i f g/\oB X.K f (A::Xa) g O1/\Xe X.K f (A::Xa) g d v) B.inv ⟨i,t,O,z,B.env,B.cells,by rw[j];exact λv V L x c r=>⟨L,x,c,r⟩⟩)
    λu M ⟨v,f,N,P,g,x,c,r⟩=>?_)
   have R:A∉i:=λm=>B.cells.nh A m 'd';have n:=x.keep A _ I R;have y:=J.ext x;refine aa (Bw p (UK a M h f (.ref A) [v] (.ref A) [u] (λ_ D=>D=upd f A (.lst (w++[v]))) N rfl (.cons P .nil)
    ⟨A,w,v,rfl,rfl,n,a9 (by rw[<- y.length];exact o) 's',rfl⟩) λW S ⟨Y,D,T,r2,U⟩=>?_)
   subst U;refine am (l S h _ g T (x.ea.trans (.put ⟨_,n⟩)) (c.putA ⟨_,n⟩) ⟨_,rG,?_⟩ rfl λ_ _=>rfl);exact(y.append (.cons r .nil)).mv (Ea.put ⟨_,n⟩).mv
  ·rw[J5 o] at l;exact l.elim
 | exc c O1=>
  unfold vh A2 at q;rw[j] at q;exact q.elim
 | bad=>
  unfold vh A2 at q;rw[j] at q;exact q.elim
def S0(co:B6 C){k:Nat}{tg iter:aS}{ifs:List aS}{c:Cl}{cs:List Cl}(hx:X.xe=λ_ _=>False)(pQ:X.calm=Y1)(hk:gens[k]?=XE ⟨tg,iter,ifs,0⟩)(hg:PG X tg (c.g.rd X.K))(hf:cu (λe t=>rF X qD e t) ifs c.ifs)
  (hZ:∀(qv sQ:St)S L H2 pW,Z qv S L->(∀j,j∉qz (c::cs)->sQ[j]?=qv[j]?)->Ea A S L H2 pW->Z sQ H2 pW) (y:Av X Z C A Xa (C.ex gens scope pos) gens em (k+1) cs) (hn:gens[k+1]?=YP \/ ∃Cu t7 vX,gens[k+1]?=XE ⟨Cu,t7,vX,0⟩) {it:af} {fp:List af} {tn:Nat->aR->Prop} {J:It} {src:Src} (T:yc X.prog X.w X.K tg J fp it tn)
  (a:List (af×Obj)) (s:ag) (h:St) (H:Hp) (μ:List af) (σ:Sg) (O:Ow) (W:List D) (n:Nat) (Q:ag->Prop) (st:tn 0 s.heap) (zc:∀b∈fp,sS X a H b) (sa:oH X.K J src H (A::Xa) μ)
  (z0:Z h H μ) (B:Bs X C A Xa a s h H μ σ O W) (q:zF X C A Xa a h H μ (qz (c::cs)) (q0 src (u4 c cs em σ) n 0 O W) Q):
  codeAny (ax X.prog X.w) X.A (.compLoop (C.ex gens scope pos) k (.ref it) (.ref A) X.env) (λr s'=>∃f,r=.ok f/\Q s') s:=by
 have vU:∀{l:Hp},(∀b∈fp,l b=YP)->∀b∈fp,sS X a l b:=λhn b y=>⟨hn b y,(zc b y).2⟩;let P:Nat->ag->Prop:=λm s'=>∃i M l N p E,L2.Inv X a M l s'/\tn i s'.heap/\(∀b∈fp,l b=YP)/\Ea A H μ l N/\oB X.K l (A::Xa) N p/\C.G X.K X.prog X.w A Xa l N E/\
  M.length=h.length/\(∀i,i∉qz (c::cs)->M[i]?=h[i]?)/\zF X C A Xa a h H μ (qz (c::cs)) (q0 src (u4 c cs em σ) m i p E) Q
 refine codeAny_loop (co.q1 _ _ _ _ _ _ _) P (λm s1 hP=>?_) n ⟨0,h,H,μ,O,W,B.inv,st,λb y=>(zc b y).1,.refl,B.cells,B.grown,rfl,λ_ _=>rfl,q⟩;rw[co.u1,co.d1];refine wpAny_noted ?_;rw[co.turn _ _ _ _ _ _ _ hk hn];obtain⟨i,xG,S,L,U,R,I1,qN,Xh,x1,c1,g1,l1,k1,I⟩:=hP;have JZ:=sa (A::Xa) S L U x1.mv c1 i
 -- zP names that Wl
 have OL:oD X.K S (A::Xa) L (qH σ (qz (c::cs))) xG:=by
  refine⟨by rw[Fm,B.env.len,l1],λj d Y=>?_⟩;obtain⟨h1,h2⟩:=Je _ _ _ _ Y;obtain⟨v,h3,h4⟩:=B.env.at_ j d h1;exact⟨v,by rw[k1 j h2];exact h3,h4.mv x1.mv⟩
 cases qQ:src.get U i with
 | none=>
  rw[qQ] at JZ;have x:P8 X C A Xa a h H μ (qz (c::cs)) R U Q:=by
   cases m with
   |zero=>unfold q0 at I;rw[qQ] at I;exact I
   |succ f=>unfold q0 at I;rw[qQ] at I;exact I
  refine aa (eZ (aa (pS (T.done X rfl rfl rfl pQ i a s1 xG S _ I1 (vU Xh) qN JZ) λr s2 ⟨hr,I2⟩=>?_)));subst hr;exact am ⟨_,rfl,x s2 xG S L I2 x1 c1 g1 l1 k1⟩
 | some d=>
  rw[qQ] at JZ;obtain⟨go,yl⟩:=JZ;cases m with
  | zero=>
   unfold q0 at I;rw[qQ] at I;exact I.elim
  | succ f=>
   have x:zF X C A Xa a h H μ (qz (c::cs)) ((u4 c cs em σ d U R).bnd λE p=>q0 src (u4 c cs em σ) f (i+1) p E) Q:=by
    have:=I;unfold q0 at this;rw[qQ] at this;exact this
   refine aa (eZ (aa (pS (T.item X rfl rfl rfl pQ i a s1 xG S _ I1 (vU Xh) qN go) λr s2 ⟨u,hr,h2⟩=>?_)));subst hr;refine aa (pS h2 λ_ s3 ⟨v,H3,I3,r3,y3,qf,Kv⟩=>?_);obtain⟨x3,c3,d3⟩:=yl v H3 y3;have I3':=I3.pinned (vU Kv) (T.obj _ _ qf);cases uT:c.g.put d (qH σ (qz (c::cs))) with
   | none=>
    unfold u4 at x;rw[uT] at x;exact x.elim
   | some sG=>
    have Gp:u4 c cs em σ d U R=((uD c.ifs sG U).bnd λb O3=>if b=Y1 then vh cs em sG O3 R else .ok R O3):=by
     unfold u4;rw[uT]
    rw[Gp] at x;refine aa (Bw hx (hg _ s3 xG H3 v u (λV H4=>H4=H3/\oD X.K H3 (A::Xa) L sG V/\∀j,j∉c.g.slots->V[j]?=xG[j]?) I3' r3 (Tg.ok2 c.g (OL.ext x3) d3 uT λV e4 k4=>⟨rfl,e4,k4⟩)) λ_ s4 ⟨V,H4,I4,e4,G6,k4⟩=>?_);subst e4;have l4:V.length=h.length:=by rw[I4.len,<- I3.len,l1]
    have NF:∀j,j∉qz (c::cs)->V[j]?=h[j]?:=λj Y=>by
     rw[k4 j λz=>Y (bS _ z)];exact k1 j Y
    have nA:A∉L:=λm=>c1.nh A m 'd';have x13:=x1.trans x3.ea;have g3:=co.keep g1 nA x3
    -- behind zP step: zP next turn
    have F:∀{s':ag}{M:St}{l:Hp}{N:List af}{p:Ow}{E:List D},L2.Inv X (a++Fj fp s3.heap) M l s'->Ea A H μ l N->oB X.K l (A::Xa) N p->C.G X.K X.prog X.w A Xa l N E->M.length=h.length->
      (∀i,i∉qz (c::cs)->M[i]?=h[i]?)->zF X C A Xa a h H μ (qz (c::cs)) (q0 src (u4 c cs em σ) f (i+1) p E) Q->∃m,m<f+1/\P m s':=by
     intro s' M l N p E I' x' c' g' l' k' p';refine⟨f,fi f,i+1,M,l,N,p,E,I'.unpinned,T.keep _ _ _ qf λb y o e=>(I'.pin (b,o) (aC _ (aC _ (Ju y e)))).1,λb y=>?_,x',c',g',l',k',p'⟩;obtain⟨o,e,d⟩:=T.obj _ _ qf b y;exact(I'.pin (b,o) (aC _ (aC _ (Ju y e)))).2.1
    cases tO:uD c.ifs sG U with
    |exc c' p=>rw[tO] at x;exact x.elim
    |bad=>rw[tO] at x;exact x.elim
    | ok b O3=>
     rw[tO] at x;have q3:zF X C A Xa a h H μ (qz (c::cs)) ((if b=Y1 then vh cs em sG O3 R else .ok R O3).bnd λE p=>q0 src (u4 c cs em σ) f (i+1) p E) Q:=x;refine aa (Tf hx hf _ s4 V H4 L sG U _ I4 G6 c3 ?_);rw[tO];intro b' H5 Aa x5 c5 eb s5 I5;subst eb;have g5:=co.keep g3 nA x5;have M9:=x13.trans x5.ea;cases b with
     | false=>
      exact am ⟨rfl,F I5 M9 c5 g5 l4 NF q3⟩
     | true=>
      refine aa (y _ s5 V H5 Aa sG O3 R _ _ (hZ _ _ _ _ _ _ z0 NF M9) ⟨I5,G6.ext x5,c5,g5⟩ ?_);cases qp:vh cs em sG O3 R with
      |exc c' p=>rw[qp] at q3;exact q3.elim
      |bad=>rw[qp] at q3;exact q3.elim
      | ok acc6 O6=>
       rw[qp] at q3;intro s6 XF H6 Hq I6 x6 c6 g6 l6 k6;refine am ⟨rfl,F I6 (M9.trans x6) c6 g6 (l6.trans l4) (λj Y=>?_) q3⟩;rw[k6 j λz=>Y (aC _ z)];exact NF j Y
end
end
section
variable{X:Cx}{Z:St->Hp->List af->Prop}{C:xm}{A:af}{Xa:List af}{gens:List bN}{scope:cf}{pos:Pos}{em:Em}
def TV(a:B6 C)(b:gens[k]?=XE ⟨tg,iter,ifs,0⟩)(T:yc X.prog X.w X.K tg J fp it tn)(i:Nat)(c:tn i s.heap)
  (h:codeAny (ax X.prog X.w) X.A (.compLoop (C.ex gens scope pos) k (.ref it) Xu env) P s):
  codeAny (ax X.prog X.w) X.A (.compStart (C.ex gens scope pos) k (.ref it) Xu env) P s:=by
 refine kT ?_;rw[a.u2,a.d2];refine wpAny_notedAt ?_;unfold compStart;have d:clausesOf (C.ex gens scope pos)=gens:=a.cl _ _ _;simp only[d,b,Option.elim,bne_self_eq_false,bZ,if_false];refine aa (wpAny_askSetting (wpAny_ite ?_));split
 ·exact am (fw (a.q1 _ _ _ _ _ _ _) h)
 ·refine aa (eB ?_);exact aa (eZ (aa (T.self _ i s _ _ c (am (fw (a.q1 _ _ _ _ _ _ _) h)))))
def SD(w:B6 C)(y:X.xe=λ_ _=>False)(V:X.calm=Y1){sl:n_}(M:∀(D F:St)d b o p,Z D d b->(∀j,j∉sl->F[j]?=D[j]?)->Ea A d b o p->Z F o p)(W:∀k,gens[k]?=YP->Av X Z C A Xa (C.ex gens scope pos) gens em k []):∀{i:List bN}{l:List Cl},oU X i l->(∀j∈qz l,j∈sl)->∀k,gens.drop k=i->Av X Z C A Xa (C.ex gens scope pos) gens em k l
 | _,_,.nil,_,k,hd=>W k (by
   have:=congrArg jC hd;simp at this;exact bg.mpr 'o')
 | ⟨tg,iter,ifs,_⟩::gs,c::cs,.cons hi hs hg hf r,Ke,k,hd=>by
  have N:gens[k]?=XE ⟨tg,iter,ifs,0⟩:=by
   have:(gens.drop k)[0]?=XE ⟨tg,iter,ifs,0⟩:=by rw[hd];rfl
   simpa using this
  have Y:gens.drop (k+1)=gs:=by
   have:=congrArg (List.drop 1) hd;simpa [eH,im] using this
  have hb:=SD w y V M W r (λj m=>Ke j (aC _ m)) (k+1) Y;have hn:gens[k+1]?=YP \/ ∃Cu t7 vX,gens[k+1]?=XE ⟨Cu,t7,vX,0⟩:=by
   have e:gens[k+1]?=gs[0]?:=by rw[<- Y];simp
   cases r with
   |nil=>exact .inl (by rw[e];rfl)
   |cons _ _ _ _ _=>exact .inr ⟨_,_,_,by rw[e];rfl⟩
  intro a s P H G u O n Q E z B q;unfold B1;rw[N];simp only[bne_self_eq_false,bZ,if_false];cases g:c.it u O with
  |exc R O'=>unfold vh at q;rw[g] at q;exact q.elim
  |bad=>unfold vh at q;rw[g] at q;exact q.elim
  | ok src O1=>
   have t:zF X C A Xa a P H G (qz (c::cs)) (q0 src (u4 c cs em u) (src.size O1) 0 O1 n) Q:=by
    have:=q;unfold vh at this;rw[g] at this;exact this
   refine aa (Bw y (hi.out a s P H (λJ d=>∃b,Ext H G d b/\oB X.K d (A::Xa) b O1/\oH X.K J src d (A::Xa) b) B.inv ⟨A::Xa,G,u,O,B.env,B.cells,by rw[g];exact λJ d b x c S=>⟨b,x,c,S⟩⟩) λv s1 h1=>?_);refine aa (eZ ?_);refine aa (k9 (hs v) ?_);refine aa (bL (Bw y h1 λGj s2 h2=>?_));obtain⟨it,fp,tn,J,o,e,I2,T,ql,f2,p,I,c2,S⟩:=h2;subst e;refine aa (wpAny_runOwn (h:=YP) ?_);show codeAny _ X.A _ _ _;have nA:A∉G:=λm=>B.cells.nh A m 'd';refine TV w N T 0 ql ?_;refine eL (S0 w (A:=A) (Xa:=Xa) (em:=em) (c:=c) (cs:=cs) y V N hg hf (λD F d b o p z1 k1 x1=>M D F d b o p z1 (λj hj=>k1 j λm=>hj (Ke j m)) x1) hb hn T a s2 P o p u O1 n (src.size O1) (λL=>Q L) ql f2 S (M _ _ _ _ _ _ z (λ_ _=>rfl) I.ea) ⟨I2,B.env.ext I,c2,w.keep B.grown nA I⟩ ?_) λr L hr=>?_
   ·cases U:q0 src (u4 c cs em u) (src.size O1) 0 O1 n with
    |exc R O'=>rw[U] at t;exact t.elim
    |bad=>rw[U] at t;exact t.elim
    | ok rg O'=>
     rw[U] at t;exact λL pV H' d_ I' x' R g' l' k'=>t L pV H' d_ I' (I.ea.trans x') R g' l' k'
   ·obtain⟨f,rfl,hq⟩:=hr;exact am hq
end
noncomputable def qR(X:Cx)(N':List au)(scope:cf)(cells:List (au×af))(C:af)(s:ag)(H:Hp)(fp:List af):Cx:=
 { X with
  N:=N',s₀:=s,H₀:=H
  env:={ scope:=relabel scope X.env,locals:=C,globals:=X.env.globals,cells:=cells,qual:=X.env.qual,func:=YP,code:=X.env.code,frame:=X.env.frame,builtins:=X.env.builtins }
  outer:=X.stack,ex:=fp,fn:=λx=>scope.names.lookup x==XE .cell,pn:=[],xe:=λ_ _=>False }
structure yu(sc scope:cf)(N':List au)(sl:n_):Prop where
 kind:scope.kind=.function
 nd:(scope.names.map (·.1)).Nodup
 frees:∀y∈scope.names,y.2=.free->sc.names.lookup y.1=XE .cell\/sc.names.lookup y.1=XE .free
 own:∀(i:Nat)x,N'[i]?=XE x->(x,NameKind.local)∈scope.names\/(x,dP)∈scope.names->i∈sl
theorem yL{β:Type}:∀{l:List (au×β)}{x:au}{b:β},(l.map (·.1)).Nodup->(x,b)∈l->l.lookup x=XE b
 |[],_,_,_,h=>by cases h
 | (y,c)::r,x,b,nd,h=>by
  obtain⟨a,d⟩:=bA.mp nd;rcases ar.mp h with e|h
  ·cases e;simp[fj]
  ·have f:x≠y:=λe=>a (az.mpr ⟨(x,b),h,e⟩);rw[fj];have:(x==y)=Y2:=⇑f
   rw[this];exact yL d h
theorem MS(env:Env)(x:au):∀(names:List (au×dB)),(names.map λ(n,k)=>if (k==dk&&env.scope.kind == .function&&env.kindOf n==XE .cell) then (n,dP) else (n,k)).lookup x =
  (names.lookup x).map λk=>if (k==dk&&env.scope.kind == .function&&env.kindOf x==XE .cell) then dP else k
 |[]=>rfl
 | (n,k)::r=>by
  show List.lookup x ((if (k==dk&&env.scope.kind == .function&&env.kindOf n==XE .cell)=Y1 then (n,dP) else (n,k))::_)=_;cases a:x==n with
  | true=>
   have e:x=n:=⇑a
   subst e;simp;split
   ·rename_i h;simp[fj,h]
   ·rename_i h;simp[fj,h]
  | false=>
   have b:=MS env x r;simp only[fj,a];rw[<- b];split<;>simp only[fj,a]
def VP(h:sD (relabel scope env) x):(x,NameKind.local)∈scope.names\/(x,dP)∈scope.names\/(x,dk)∈scope.names:=by
 unfold sD relabel at h;simp only[MS] at h;cases e:scope.names.lookup x with
 |none=>rw[e] at h;simp at h
 | some k=>
  have m:=bu e;cases k with
  | «local»=>exact .inl m
  |cell=>exact .inr (.inl m)
  |free=>exact .inr (.inr m)
  |_=>rw[e] at h;simp at h
noncomputable def rX(cells:List (au×af)):List (au×dB)->List (au×af)->List (au×af)
 |[],Xu=>Xu
 |(n,k)::r,Xu=>if k == .free then rX cells r ((n,(cells.lookup n).getD 0)::Xu) else rX cells r Xu
def MY(h:∀y∈scope.names,y.2=.free->∃c,env.cells.lookup y.1=XE c):closureFor scope env=pure (rX env.cells scope.names []):=by
 have f:∀(b:List (au×dB))(d:List (au×af)),(∀y∈b,y.2=.free->∃c,env.cells.lookup y.1=XE c)->
   (forIn b d λ(x:au×dB)(e:List (au×af))=>(if x.2 == .free then (do let a <- cellOf env x.1;pure (gc ((x.1,a)::e))) else pure (gc e):Sem _))=pure (rX env.cells b d):=by
  intro b
  induction b with
  |nil=>intro d _;rfl
  | cons y r ih=>
   intro d g;obtain⟨n,k⟩:=y;rw[h9];unfold rX;by_cases i:(k==dk)=Y1
   ·obtain⟨c,l⟩:=g (n,k) av ⇑i;have o:cellOf env n=pure c:=by unfold cellOf;rw[l]
    simp only[i,if_true,o,pure_bind,l,Option.getD_some];exact ih _ λy j=>g y (al _ j)
   ·simp only[i,if_false,pure_bind,bZ];exact ih _ λy j=>g y (al _ j)
 have:=f scope.names [] h;refine Eq.trans ?_ (congrArg (λm=>m >>= λe=>pure e) this);congr 1
theorem FK:∀(names:List (au×dB))(Xu:List (au×af)),(x,c)∈rX cells names Xu->(x,c)∈Xu\/((x,dk)∈names/\c=(cells.lookup x).getD 0)
 |[],Xu,h=>.inl h
 | (n,k)::r,Xu,h=>by
  unfold rX at h;by_cases a:(k==dk)=Y1
  ·rw[JU a] at h;rcases FK r _ h with m|⟨m,e⟩
   ·rcases ar.mp m with m|m
    ·cases m;have:k=.free:=⇑a
     subst this;exact .inr ⟨av,rfl⟩
    ·exact .inl m
   ·exact .inr ⟨al _ m,e⟩
  ·rw[J5 a] at h;rcases FK r _ h with m|⟨m,e⟩
   ·exact .inl m
   ·exact .inr ⟨al _ m,e⟩
theorem MD:∀(names:List (au×dB))(Xu:List (au×af)),p∈Xu->p∈rX cells names Xu
 |[],Xu,h=>h
 | (n,k)::r,Xu,h=>by
  unfold rX;split
  ·exact MD r _ (al _ h)
  ·exact MD r _ h
theorem FI:∀(names:List (au×dB))(Xu:List (au×af)),(x,dk)∈names->(x,(cells.lookup x).getD 0)∈rX cells names Xu
 | (n,k)::r,Xu,h=>by
  unfold rX;rcases ar.mp h with e|h
  ·cases e;exact MD r _ av
  ·split
   ·exact FI r _ h
   ·exact FI r _ h
theorem LA:∀(names:List (au×dB))(n:Nat)(Xu:List (au×af)),(x,c)∈ck n names Xu->(x,c)∈Xu\/((x,dP)∈names/\n<=c)
 |[],n,Xu,h=>.inl h
 | (y,k)::r,n,Xu,h=>by
  unfold ck at h;by_cases a:(k==dP)=Y1
  ·rw[JU a] at h;rcases LA r _ _ h with m|⟨m,e⟩
   ·rcases ar.mp m with m|m
    ·cases m;have:k=.cell:=⇑a
     subst this;exact .inr ⟨av,aB _⟩
    ·exact .inl m
   ·exact .inr ⟨al _ m,Nat.le_of_succ_le e⟩
  ·rw[J5 a] at h;rcases LA r _ _ h with m|⟨m,e⟩
   ·exact .inl m
   ·exact .inr ⟨al _ m,e⟩
theorem LB:∀(names:List (au×dB))(n:Nat)(Xu:List (au×af)),p∈Xu->p∈ck n names Xu
 |[],_,_,h=>h
 | (y,k)::r,n,Xu,h=>by
  unfold ck;split
  ·exact LB r _ _ (al _ h)
  ·exact LB r _ _ h
theorem Mb:∀(names:List (au×dB))(n:Nat)(Xu:List (au×af)),(Xu.Pairwise λx y=>x.2≠y.2)->(∀p∈Xu,p.2<n)->(ck n names Xu).Pairwise λx y=>x.2≠y.2
 |[],_,_,h,_=>h
 | (y,k)::r,n,Xu,h,hl=>by
  unfold ck;split
  ·refine Mb r (n+1) _ (bK.mpr ⟨λp hp=>?_,h⟩) λp hp=>?_
   ·exact λe=>absurd (hl p hp) (by show ¬ p.2<n;rw[<- e];exact cw _)
   ·rcases ar.mp hp with rfl|hp
    ·exact fi _
    ·exact gn (hl p hp)
  ·exact Mb r n Xu h hl
theorem L7:∀(names:List (au×dB))(n:Nat)(Xu:List (au×af)),((names.map (·.1)).Nodup)->(Xu.map (·.1)).Nodup->(∀p∈Xu,∀k,(p.1,k)∈names->k≠dP)->((ck n names Xu).map (·.1)).Nodup
 |[],_,_,_,h,_=>h
 | (y,k)::r,n,Xu,nd,h,hl=>by
  obtain⟨f,d⟩:=bA.mp nd;unfold ck;by_cases c:(k==dP)=Y1
  ·rw[JU c];have g:k=.cell:=⇑c
   refine L7 r (n+1) _ d (bA.mpr ⟨λm=>?_,h⟩) λp hp a b=>?_
   ·obtain⟨p,hp,e⟩:=az.mp m;exact hl p hp k (by rw[e];exact av) g
   ·rcases ar.mp hp with rfl|hp
    ·exact absurd (az.mpr ⟨(y,a),b,rfl⟩) f
    ·exact hl p hp a (al _ b)
  ·rw[J5 c];exact L7 r n Xu d h λp hp a b=>hl p hp a (al _ b)
theorem FU:∀(names:List (au×dB))(Xu:List (au×af)),((names.map (·.1)).Nodup)->(Xu.map (·.1)).Nodup->(∀p∈Xu,p.1∉names.map (·.1))->((rX cells names Xu).map (·.1)).Nodup
 |[],_,_,h,_=>h
 | (y,k)::r,Xu,nd,h,hl=>by
  obtain⟨b,a⟩:=bA.mp nd;unfold rX;split
  ·refine FU r _ a (bA.mpr ⟨λm=>?_,h⟩) λp hp=>?_
   ·obtain⟨p,hp,e⟩:=az.mp m;exact hl p hp (by rw[e];simp)
   ·rcases ar.mp hp with rfl|hp
    ·exact b
    ·exact λm=>hl p hp (al _ m)
  ·exact FU r Xu a h λp hp m=>hl p hp (al _ m)
theorem L5:∀(names:List (au×dB))(h:aR)(Xu:List (au×af)),(x,c)∈ck h.objs.size names Xu->(x,c)∈Xu\/(mC h names).IsCell c YP
 |[],_,_,m=>.inl m
 | (y,k)::r,h,Xu,m=>by
  unfold ck at m;unfold mC;by_cases a:(k==dP)=Y1
  ·rw[JU a] at m ⊢;have e:h.objs.size+1=(h.push { cls:=.type "cell",data:=.cell YP }).objs.size:=(cJ ..).symm;rw[e] at m;rcases L5 r _ _ m with m|m
   ·rcases ar.mp m with m|m
    ·cases m;exact .inr ⟨_,jg _ _ _ _ (aM _ rfl),rfl⟩
    ·exact .inl m
   ·exact .inr m
  ·rw[J5 a] at m ⊢;exact L5 r _ _ m
def z7K{l:List (au×af)}(d:(l.map (·.1)).Nodup)(inj:∀p∈l,∀q∈l,p.2=q.2->p.1=q.1):l.Pairwise λx y=>x.2≠y.2:=by
 induction l with
 |nil=>exact .nil
 | cons p r ih=>
  obtain⟨f,g⟩:=bA.mp d;refine bK.mpr ⟨λq c e=>f ?_,ih g λa h b i=>inj a (al _ h) b (al _ i)⟩;exact az.mpr ⟨q,c,(inj p av q (al _ c) e).symm⟩
abbrev Fc:Obj:={ cls:=.type "dict",data:=.dict #[] }
section
variable{X:Cx}{Xd:List (af×Obj)}{b_:St}{H:Hp}{s:ag}
abbrev Ig(ob:Obj)(h:aR)(names:List (au×dB)):aR:=mC ((h.push ob).push Fc) names
def Vz(c:Obj)(h:aR)(a:List (au×dB))(b:af)(o:Obj)(e:h.get? b=XE o):(Ig c h a).get? b=XE o:=jg _ _ _ _ (ah _ (ah _ e))
def YG(a:Obj)(h:aR):((h.push a).push Fc).objs.size=h.objs.size+2:=by rw[cJ,cJ]
def ze3{scope:cf}{ext:List au}{sl:n_}{F:List af}(I:L2.Inv X Xd b_ H s)(C:∀b∈F,sS X Xd H b)(P:∀b∈F,b<s.heap.objs.size)(g:yu X.env.scope scope (X.N++ext) sl){t:Obj}{u:HO}(Z:t.isFreed=Y2)(xw:∀h:aR,h.get? s.heap.objs.size=XE t->oR X.prog X.w (upd H s.heap.objs.size u) h s.heap.objs.size u):
  L2.Inv (qR X (X.N++ext) scope (ck (s.heap.objs.size+2) scope.names (rX X.env.cells scope.names [])) (s.heap.objs.size+1) s H F) [] (qH (b_++aw ext.length YP) sl)
   (upd H s.heap.objs.size u) { s with heap:=Ig t s.heap scope.names }:=by
 have Q:∀x c,X.env.cells.lookup x=XE c->c<s.heap.objs.size:=λx c e=>by
  obtain⟨v,z⟩:=I.cell x c e;exact z.lt
 -- a free name of zP block has e_ cell around
 have R:∀x,(x,dk)∈scope.names->∃c,X.env.cells.lookup x=XE c:=λx f=>I.ok.has x (g.frees _ f rfl);have A:∀x c,(x,c)∈rX X.env.cells scope.names []->(x,dk)∈scope.names/\X.env.cells.lookup x=XE c:=λx c hm=>by
  rcases FK _ _ hm with m|⟨m,e⟩
  ·cases m
  ·obtain⟨c',S⟩:=R x m;rw[S] at e;exact⟨m,by rw[e];exact S⟩
 have G:∀x,(x,dk)∈scope.names->∀c,X.env.cells.lookup x=XE c->(x,c)∈rX X.env.cells scope.names []:=λx f c e=>by
  have:=FI (cells:=X.env.cells) scope.names [] f;rw[e] at this;exact this
 have T:((rX X.env.cells scope.names []).map (·.1)).Nodup:=FU _ _ g.nd 'd' (by intro p l;cases l);have J:((ck (s.heap.objs.size+2) scope.names (rX X.env.cells scope.names [])).map (·.1)).Nodup:=L7 _ _ _ g.nd T λp l k hk e=>by
  subst e;have j:=(A p.1 p.2 l).1;have:=yL g.nd j;rw[yL g.nd hk] at this;cases this
 have r:(ck (s.heap.objs.size+2) scope.names (rX X.env.cells scope.names [])).Pairwise λx y=>x.2≠y.2:=by
  refine Mb _ _ _ (z7K T λp l q hq e=>?_) λp l=>a9 (Q _ _ (A p.1 p.2 l).2) (gM _ _);refine I.ok.inj p.1 q.1 p.2 (A p.1 p.2 l).2 ?_;rw[e];exact(A q.1 q.2 hq).2
 have K:∀x c,(ck (s.heap.objs.size+2) scope.names (rX X.env.cells scope.names [])).lookup x=XE c->((x,dk)∈scope.names/\X.env.cells.lookup x=XE c)\/((x,dP)∈scope.names/\s.heap.objs.size+2<=c):=λx c e=>by
  rcases LA _ _ _ (bu e) with m|m
  ·exact .inl (A x c m)
  ·exact .inr m
 have d:∀a,s.heap.objs.size<=a->H a=YP:=λa ha=>I.hok.fresh ha;have D:=Vz t s.heap scope.names;have U:∀x,(x,dk)∈scope.names->∀c,X.env.cells.lookup x=XE c->(ck (s.heap.objs.size+2) scope.names (rX X.env.cells scope.names [])).lookup x=XE c:=λx f c e=>
  yL J (LB _ _ _ (G x f c e))
 refine⟨⟨I.ok.mod,g.kind,I.ok.glob,I.ok.blt,fU _,λx y c j L=>name_of_addr r (bu j) (bu L),λx f=>?_,λx c f h=>?_,I.ok.hd,I.ok.frames,.inl rfl,λb n=>⟨?_,λx c e=>?_⟩,I.bs,?_,λb o e n=>?_,λb n z=>?_,I.stack,I.stkFree⟩,
  rfl,I.bare,Un.laid D (aB _) (d _ (aB _)),?_,λx c e=>?_,?_,λx c e=>?_,λp l=>absurd (show p∈([]:List (af×Obj)) from l) 'd',I.hok.laid D (aB _) ?_,?_,I.tk⟩
 ·-- has
  have f:sD (relabel scope X.env) x:=.inr f;rcases VP f with m|m|m
  ·exfalso;have e:=yL g.nd m;have V:(relabel scope X.env).names.lookup x=XE .local:=lookup_relabel_local e;rcases (show(relabel scope X.env).names.lookup x=XE .cell\/(relabel scope X.env).names.lookup x=XE .free by rename_i M;exact M) with q|q
   ·rw[V] at q;cases q
   ·rw[V] at q;cases q
  ·exact ij.mp (gh scope.names _ _ (.inl (yL g.nd m)))
  ·obtain⟨c,O⟩:=R x m;exact⟨c,U x m c O⟩
 ·-- cab
  have f:(scope.names.lookup x==XE .cell)=Y1:=f;rcases K x c h with⟨m,_⟩|⟨_,m⟩
  ·rw[yL g.nd m] at f;cases f
  ·exact aG (gM _ _) m
 ·exact bq (gn (P b n))
 ·rcases K x c e with⟨_,m⟩|⟨_,m⟩
  ·exact(C b n).2.2.2.2.1 x c m
  ·have M:=P b n;exact λz=>by
    rw[z] at m;exact absurd (a9 M (aG (gM _ 2) m)) (cw _)
 ·exact aG I.ok.bsz I.sz
 ·rcases (C b n).2.2.2.1 with z|z
  ·exact I.ok.noex b o e z
  ·exact absurd (a9 (aK e) (aG I.ok.bsz z)) (cw _)
 ·rcases ar.mp (I.stkSub b z) with q|q
  ·exact(C b n).2.1 q
  ·exact(C b n).2.2.1 q
 ·-- loc
  refine⟨λ_=>YP,?_,λi x v j L h3=>?_⟩
  ·have z:=(Heap.Ns.new (s.heap.push t) (.type "dict")).keeps (jg scope.names _);rw[cJ] at z;exact z
  ·obtain⟨B,W⟩:=Je _ _ _ _ L;have E:i<b_.length:=by
    by_cases E:i<b_.length
    ·exact E
    ·rw[a8 'o',fc] at B;split at B<;>cases B
   rw[aI E] at B;have AQ:X.N[i]?=XE x:=by
    have j:(X.N++ext)[i]?=XE x:=j;rw[aI (by rw[<- I.len];exact E)] at j;exact j
   rcases VP h3 with m|m|m
   ·exact absurd (g.own i x j (.inl m)) W
   ·exact absurd (g.own i x j (.inr m)) W
   ·obtain⟨m0,hn,hl⟩:=I.loc;have Y:=g.frees _ m rfl;obtain⟨u,ru,lk⟩:=hl i x v AQ B (.inr Y);refine⟨u,ru,?_⟩;rcases lk with⟨q,_⟩|⟨q,c,O,z⟩
    ·exfalso;have q:X.env.scope.names.lookup x=XE .local:=q;rcases Y with k|k<;>(rw[q] at k;cases k)
    ·refine .inr ⟨?_,c,U x m c O,z.keeps D⟩;have e:=yL g.nd m;show(relabel scope X.env).names.lookup x=XE .cell\/(relabel scope X.env).names.lookup x=XE .free;unfold relabel;simp only[MS,e,Option.map_some];split
     ·exact .inl rfl
     ·exact .inr rfl
 ·-- cell
  rcases L5 scope.names ((s.heap.push t).push Fc) (rX X.env.cells scope.names []) (by rw[YG];exact bu e) with m|m
  ·obtain⟨v,z⟩:=I.cell x c (A x c m).2;exact⟨v,z.keeps D⟩
  ·exact⟨YP,m⟩
 ·show upd H s.heap.objs.size u (s.heap.objs.size+1)=YP;rw[pX (dO (fi _))];exact d _ (fU _)
 ·rcases K x c e with⟨_,m⟩|⟨_,m⟩
  ·rw[pX (bq (Q x c m))];exact I.freeC x c m
  ·have ne:c≠s.heap.objs.size:=λz=>by
    rw[z] at m;exact absurd m 'o'
   rw[pX ne];exact d c (aG (gM _ 2) m)
 ·exact xw _ (jg _ _ _ _ (ah _ (aM _ Z)))
 ·show _=(X.N++ext).length;rw[Fm,aA,i4,aA,I.len]
end
def zQ{α:Type}:R α->R α
 |.ok a O=>.ok a O
 |_=>.bad
def Cf(ext:Nat)(it0:DI)(g:Tg)(ts:List DT)(cs:List Cl)(em:Em):Sg->Ow->R (List D):=λσ O=>(it0 σ O).bnd λsrc O1=>
 zQ (q0 src (u4 ⟨it0,g,ts⟩ cs em (qH (σ++aw ext YP) (qz (⟨it0,g,ts⟩::cs)))) (src.size O1) 0 O1 [])
def Cb(ext:Nat)(it0:DI)(g:Tg)(ts:List DT)(cs:List Cl)(te:DE):Sg->Ow->R (List D):=λσ O=>(it0 σ O).bnd λsrc O1=>
 zQ (q0 src (An ⟨it0,g,ts⟩ cs te (qH (σ++aw ext YP) (qz (⟨it0,g,ts⟩::cs)))) (src.size O1) 0 O1 [])
def MA(ext:Nat)(it0:DI)(g:Tg)(ts:List DT)(cs:List Cl)(te:DE):Cf ext it0 g ts cs (A2 te)=Cb ext it0 g ts cs te:=by funext σ O;unfold Cf Cb;rw[zhW]
def ZB(b_:St)(n:Nat)(sl:n_)(A:af)(H0:Hp):St->Hp->List af->Prop:=λσ H μ=>(∀j,j∉sl->σ[j]?=(b_++aw n YP)[j]?)/\H0 A=YP/\∃Hr o,Ea A (upd H0 A o) Hr H μ/\∀a∈Hr,∃vs,H0 a=XE (.lst vs)
section
variable{C:xm}{em:Em}
variable{X:Cx}{M:iu}{A:aX}{E:ae->ag->Prop}{s:ag}
def z8f
  (h:Q { scope,locals:=s.heap.objs.size,globals,cells:=ck (s.heap.objs.size+1) scope.names cl,qual,func:=YP,code:=env.code,frame:=env.frame,builtins:=env.builtins } { s with heap:=mC (s.heap.push Fc) scope.names }):
  aq M A (newFunctionEnv scope globals cl [] qual YP .none (XE env)) Q E s:=by simp only[newFunctionEnv,mz,if_true];refine aa (wpAny_alloc ?_);refine aa (wpAny_layCells _ (λc a cells=>by cases b:a==dP<;>simp[b]) _ _ _ _ ?_);rw[show({ s with heap:=s.heap.push Fc }:ag).heap.objs.size=s.heap.objs.size+1 from cJ ..];simp only[lv,pure_bind];exact am h
structure Q9(X:Cx)(C:xm)(Xd:List (af×Obj))(b_:St)(H:Hp)(Xa μ:List af)(L Cn:af)(Xu:List D)(O:Ow)(s':ag):Prop where
 inv:∃H' d_,L2.Inv X Xd b_ H' s'/\Ext H μ H' d_/\oB X.K H' (L::Xa) d_ O/\H L=YP/\H' Cn=YP/\C.G X.K X.prog X.w L Xa H' d_ Xu
 ns:∃m,s'.heap.Ns Cn m
 loc:Cn≠X.env.locals
 young:X.s₀.heap.objs.size<=Cn
 cel:∀x c,X.env.cells.lookup x=XE c->c≠Cn
 pns:∀p∈X.pn++Xd,p.1≠Cn
def Inv.bare{a:List (af×Obj)}{i:St}{H:Hp}{s':ag}{C:af}{h':aR}(I:L2.Inv X a i H s')(j:d6 C s'.heap h')(k:H C=YP)(f:C≠X.env.locals)(d:X.s₀.heap.objs.size<=C)(g:∀x c,X.env.cells.lookup x=XE c->c≠C)
  (h:∀p∈X.pn++a,p.1≠C):L2.Inv X a i H { s' with heap:=h' }:=I.turned (t':=s'.toks) (λb o l e=>(j.2 b l).trans e) k f (.inr d) g h
def zbm(W:B6 C)
  {it:af} {B:List af} {tn:Nat->aR->Prop} {J:It} {RR:ae->af->Result->ag->Prop}
  (pQ:X.calm=Y1) (Y:yu X.env.scope scope (X.N++ext) (qz (⟨it0,g,ts⟩::cs)))
  (ua:∀cells Cn,PG (qR X (X.N++ext) scope cells Cn s H B) tg (g.rd X.K)/\cu (λe t=>rF (qR X (X.N++ext) scope cells Cn s H B) qD e t) ifs ts/\oU (qR X (X.N++ext) scope cells Cn s H B) gs cs/\∀A Xa k,(⟨tg,iter,ifs,0⟩::gs:List bN)[k]?=YP->Av (qR X (X.N++ext) scope cells Cn s H B) (ZB b_ ext.length (qz (⟨it0,g,ts⟩::cs)) A H) C A Xa (C.ex (⟨tg,iter,ifs,0⟩::gs) scope pos) (⟨tg,iter,ifs,0⟩::gs) em k [])
  (I:L2.Inv X Xd b_ H s) (e1:oD X.K H Xa μ σ b_) (Q:oB X.K H Xa μ O) (T:yc X.prog X.w X.K tg J B it tn) (st:tn 0 s.heap) (zc:∀b∈B,sS X Xd H b) (sa:oH X.K J src H Xa μ)
  (hw:q0 src (u4 ⟨it0,g,ts⟩ cs em (qH (σ++aw ext.length YP) (qz (⟨it0,g,ts⟩::cs)))) (src.size O) 0 O []=.ok Xu O2)
  (hRR:∀f s',Q9 X C Xd b_ H Xa μ s.heap.objs.size (s.heap.objs.size+1) Xu O2 s'->RR (.ref s.heap.objs.size) (s.heap.objs.size+1) (.ok f) s'):
  aq (ax X.prog X.w) X.A C.new (λac xS=>aq (ax X.prog X.w) X.A (newFunctionEnv scope X.env.globals (rX X.env.cells scope.names []) [] X.env.qual YP .none (XE X.env)) (λHc Nc=>
   codeAny (ax X.prog X.w) X.A (.compStart (C.ex (⟨tg,iter,ifs,0⟩::gs) scope pos) 0 (.ref it) ac { Hc with scope:=relabel scope X.env }) (RR ac Hc.locals) Nc) E xS) E s:=by
 refine W.new λF vH xw=>?_;refine z8f ?_;have qo:(s.heap.push F).objs.size=s.heap.objs.size+1:=cJ ..;have qm:∀b∈B,b<s.heap.objs.size:=λb Y=>by
  obtain⟨o,ho,_⟩:=T.obj 0 _ st b Y;exact aK ho
 have IB:=ze3 (u:=C.ho X.prog X.w s.heap.objs.size) I zc qm Y vH (λh=>xw H h _ I.big);have D:H s.heap.objs.size=YP:=I.hok.fresh (aB _);have qU:∀b∈B,b≠s.heap.objs.size:=λb Y=>bq (qm b Y);obtain⟨b1,b2,b3,b4⟩:=ua (ck (s.heap.objs.size+2) scope.names (rX X.env.cells scope.names [])) (s.heap.objs.size+1);generalize l:qR X (X.N++ext) scope (ck (s.heap.objs.size+2) scope.names (rX X.env.cells scope.names [])) (s.heap.objs.size+1) s H B=y at IB b1 b2 b3 b4;have Z:y.prog=X.prog:=by rw[<- l];rfl
 have eW:y.w=X.w:=by rw[<- l];rfl
 have G:y.K=X.K:=by rw[<- l];rfl
 have eA:y.A=X.A:=by rw[<- l];rfl
 have ex:y.xe=λ_ _=>False:=by rw[<- l];rfl
 have ec:y.calm=Y1:=by rw[<- l];exact pQ
 have Dq:y.env={ scope:=relabel scope X.env,locals:=s.heap.objs.size+1,globals:=X.env.globals,cells:=ck (s.heap.objs.size+2) scope.names (rX X.env.cells scope.names []),qual:=X.env.qual,func:=YP,code:=X.env.code,frame:=X.env.frame,builtins:=X.env.builtins }:=by rw[<- l];rfl
 have G7:({ ({ scope,locals:=(s.heap.push F).objs.size,globals:=X.env.globals,cells:=ck ((s.heap.push F).objs.size+1) scope.names (rX X.env.cells scope.names []),qual:=X.env.qual,func:=YP,code:=X.env.code,frame:=X.env.frame,builtins:=X.env.builtins }:Env) with scope:=relabel scope X.env }:Env)=y.env:=by
  rw[Dq,qo]
 show codeAny _ _ (.compStart _ 0 _ _ ({ ({ scope,locals:=(s.heap.push F).objs.size,globals:=X.env.globals,cells:=ck ((s.heap.push F).objs.size+1) scope.names (rX X.env.cells scope.names []),qual:=X.env.qual,func:=YP,code:=X.env.code,frame:=X.env.frame,builtins:=X.env.builtins }:Env) with scope:=relabel scope X.env }:Env)) (RR _ (s.heap.push F).objs.size) _;rw[G7,qo];have Nu:Mv H Xa μ (upd H s.heap.objs.size (C.ho X.prog X.w s.heap.objs.size)) (s.heap.objs.size::Xa) μ:=(Mv.hide D).trans ⟨⟨[],by simp⟩,λb o h _ n2 _=>by rw[pX (λz=>n2 (by simp[z]))];exact h,λ_ m=>.inl m,λ_ m=>.inl m,yo,λ_ t=>t.upd (.inl D)⟩;have c2:oB X.K (upd H s.heap.objs.size (C.ho X.prog X.w s.heap.objs.size)) (s.heap.objs.size::Xa) μ O:=by
  refine⟨Q.len,Q.nd,λa m z=>?_,λa m=>?_,λk a e=>?_⟩
  ·rcases ar.mp z with rfl|z
   ·exact(Q.not_in D).2 m
   ·exact Q.nh a m z
  ·rcases ar.mp m with rfl|m
   ·rw[rG];simp
   ·exact yo a (Q.ht a m)
  ·obtain⟨ds,vs,S,U,h3⟩:=Q.at_ k a e;exact⟨ds,vs,S,by rw[pX (sk U D)];exact U,h3.mv Nu⟩
 have e2:oD X.K (upd H s.heap.objs.size (C.ho X.prog X.w s.heap.objs.size)) (s.heap.objs.size::Xa) μ (qH (σ++aw ext.length YP) (qz (⟨it0,g,ts⟩::cs))) (qH (b_++aw ext.length YP) (qz (⟨it0,g,ts⟩::cs))):=by
  refine⟨by rw[Fm,Fm,aA,aA,e1.len];simp,λi d h=>?_⟩;obtain⟨g1,g2⟩:=Je _ _ _ _ h;have hi:i<σ.length:=by
   by_cases hi:i<σ.length
   ·exact hi
   ·rw[a8 'o',fc] at g1;split at g1<;>cases g1
  rw[aI hi] at g1;obtain⟨v,S,U⟩:=e1.at_ i d g1;exact⟨v,by rw[LH _ _ _ g2,aI (by rw[<- e1.len];exact hi)];exact S,U.mv Nu⟩
 have Oi:∀b∈B,sS y [] (upd H s.heap.objs.size (C.ho X.prog X.w s.heap.objs.size)) b:=λb L=>by
  obtain⟨f0,f1,f2,f3,f4,f5⟩:=zc b L;have S:=IB.ok.exf;refine⟨by rw[pX (qU b L)];exact f0,?_,?_,.inl ?_,?_,?_⟩
  ·exact(S b (by rw[<- l];exact L)).1
  ·rw[<- l];exact λz=>IB.ok.exfs b (by rw[<- l];exact L) (by rw[<- l];exact z)
  ·rw[<- l];exact L
  ·exact(S b (by rw[<- l];exact L)).2
  ·rw[<- l];exact λp hp=>absurd (show p∈([]:List (af×Obj)) from hp) 'd'
 have h_:tn 0 (Ig F s.heap scope.names):=T.keep _ _ _ st λb _ o e=>Vz _ _ _ _ _ e;have T':yc y.prog y.w y.K tg J B it tn:=by rw[Z,eW,G];exact T
 have W_:∀(qv sQ:St)H1 f_ H2 pW,ZB b_ ext.length (qz (⟨it0,g,ts⟩::cs)) s.heap.objs.size H qv H1 f_->(∀j,j∉qz (⟨it0,g,ts⟩::cs)->sQ[j]?=qv[j]?)->Ea s.heap.objs.size H1 f_ H2 pW->ZB b_ ext.length (qz (⟨it0,g,ts⟩::cs)) s.heap.objs.size H sQ H2 pW:=
  λqv sQ H1 f_ H2 pW ⟨z1,z2,Hr,o,z3,z4⟩ k1 x1=>⟨λj hj=>(k1 j hj).trans (z1 j hj),z2,Hr,o,z3.trans x1,z4⟩
 have key:=S0 (X:=y) W (A:=s.heap.objs.size) (Xa:=Xa) (gens:=⟨tg,iter,ifs,0⟩::gs) (scope:=scope) (pos:=pos) (em:=em) (k:=0) (c:=⟨it0,g,ts⟩) (cs:=cs) ex ec rfl (by rw[G];exact b1) b2 W_ (SD W ex ec (sl:=qz (⟨it0,g,ts⟩::cs)) W_ (b4 _ _) b3 (λj m=>aC _ m) 1 rfl) (by
   cases b3 with
   |nil=>exact .inl rfl
   |cons _ _ _ _ _=>exact .inr ⟨_,_,_,rfl⟩) T' [] { s with heap:=Ig F s.heap scope.names } (qH (b_++aw ext.length YP) (qz (⟨it0,g,ts⟩::cs))) (upd H s.heap.objs.size (C.ho X.prog X.w s.heap.objs.size)) μ (qH (σ++aw ext.length YP) (qz (⟨it0,g,ts⟩::cs))) O [] (src.size O)
   (λs'=>Q9 X C Xd b_ H Xa μ s.heap.objs.size (s.heap.objs.size+1) Xu O2 s') h_ Oi (by rw[G];exact sa.mv Nu) ⟨λj hj=>LH _ _ _ hj,D,μ,_,.refl,λa m=>by
    obtain⟨k,e⟩:=List.getElem?_of_mem m;obtain⟨_,vs,_,U,_⟩:=Q.at_ k a e;exact⟨vs,U⟩⟩ ⟨IB,by rw[G];exact e2,by rw[G];exact c2,by rw[G,Z,eW];exact W.g0⟩ ?_
 ·have Gi:=TV (X:=y) W (gens:=⟨tg,iter,ifs,0⟩::gs) (scope:=scope) (pos:=pos) (env:=y.env) rfl T' 0 h_ key;rw[Z,eW,eA] at Gi;exact eL Gi λr s' ⟨f,hr,q⟩=>by subst hr;exact hRR f s' q
 ·rw[hw];intro s' pV H' d_ V x' c' g' l' k';rw[G] at c';rw[G,Z,eW] at g';have xe:Ext H μ H' d_:=⟨x'.pre,λb o h n ht=>x'.kept b o (by rw[pX (sk h D)];exact h) n (sk h D) ht,λb m=>(x'.fresh b m).imp id λz=>by
   by_cases q:b=s.heap.objs.size
   ·rw[q];exact D
   ·rw[pX q] at z;exact z,λb h=>x'.there b (yo b h),λP t=>x'.tab P (t.upd (.inl D))⟩
  have un:Un (rC X.stack) B H H' s.heap s'.heap:=by
   have:=V.base;rw[<- l] at this;exact this
  have os:s'.os=s.os:=by
   have:=V.os;rw[<- l] at this;exact this
  have hok:HOk X.prog X.w H' s'.heap:=by
   have:=V.hok;rw[Z,eW] at this;exact this
  have IX:L2.Inv X Xd b_ H' s':=I.call' os un hok V.bare λb L=>by
   obtain⟨f0,f1,f2,f3,f4,f5⟩:=zc b L;exact⟨f3,f1,f4,f5⟩
  have R:∀b,b<s.heap.objs.size->b≠s.heap.objs.size+1:=λb h=>bq (gn h);refine⟨⟨H',d_,IX,xe,c',D,?_,g'⟩,?_,?_,?_,λx c e=>?_,λp hp=>?_⟩
  ·have:=V.free;rw[Dq] at this;exact this
  ·obtain⟨m,hn,_⟩:=V.loc;rw[Dq] at hn;exact⟨m,hn⟩
  ·exact(R _ I.lt).symm
  ·exact aG I.sz (fU _)
  ·obtain⟨v,z⟩:=I.cell x c e;exact R _ z.lt
  ·exact R _ (aK (I.pin p hp).1)
end
section
variable{X:Cx}{Ex:Nat->Hp->Prop}
def Zh{α:Type}{r:R α}{a:α}{O:Ow}(h:zQ r=.ok a O):r=.ok a O:=by
 cases r with
 |ok _ _=>exact h
 |exc _ _=>cases h
 |bad=>cases h
def zjB{α:Type}{r:R α}{c:Nat}{O:Ow}(h:zQ r=.exc c O):False:=by cases r<;>cases h
def HY(C:xm)(Ex:Nat->Hp->Prop)(K:aj)(P:aJ)(w:aU)(H:Hp)(Xa μ:List af)(r:R (List D))(Q:af->Hp->Prop):Prop:=match r with
 |.ok Xu O'=>∀L H' d_,H L=YP->Ext H μ H' d_->oB K H' (L::Xa) d_ O'->C.G K P w L Xa H' d_ Xu->Q L H'
 |.exc c O'=>∀H' d_,Ext H μ H' d_->oB K H' Xa d_ O'->Ex c H'
 |.bad=>False
def Ext.none{H H':Hp}{μ a:List af}(e:Ext H μ H' a){L:af}(h:H' L=jD):H L=jD:=by
 cases q:H L with
 |none=>rfl
 |some o=>exact absurd h (e.there L (by rw[q];simp))
def Jh{C:xm}(co:B6 C){em:Em}{r a:aS}{i:List aS}{B:List bN}{scope:cf}{pos p9:Pos}{ext:List au}{it0:DI}{g:Tg}{ts:List DT}{cs:List Cl}{d:List (af×Obj)}{l:St}{H:Hp}{s:ag}{Xa μ:List af}{σ:Sg}{O:Ow}
  {use:Option (ae->Sem Unit)} {Q:ae->ag->Prop} (pQ:X.calm=Y1) (hi:tu X Ex r a it0) (F:yu X.env.scope scope (X.N++ext) (qz (⟨it0,g,ts⟩::cs)))
  (ua:∀cells h s' H' o,L2.Inv X d l H' s'->(∀b∈o,sS X d H' b)->(∃P,Ext H μ H' P)->PG (qR X (X.N++ext) scope cells h s' H' o) r (g.rd X.K)/\cu (λe t=>rF (qR X (X.N++ext) scope cells h s' H' o) qD e t) i ts/\oU (qR X (X.N++ext) scope cells h s' H' o) B cs/\∀A Xa k,(⟨r,a,i,0⟩::B:List bN)[k]?=YP->Av (qR X (X.N++ext) scope cells h s' H' o) (ZB l ext.length (qz (⟨it0,g,ts⟩::cs)) A H') C A Xa (C.ex (⟨r,a,i,0⟩::B) scope pos) (⟨r,a,i,0⟩::B) em k [])
  (hs:∀x,cg a X.env x=pure x) (I:L2.Inv X d l H s) (R:oD X.K H Xa μ σ l) (c1:oB X.K H Xa μ O)
  (q:HY C Ex X.K X.prog X.w H Xa μ (Cf ext.length it0 g ts cs em σ O)
   (λ(L:af)H'=>∀s' h,L2.Inv X d l H' s'->(∃m,s'.heap.Ns h m)->H' h=YP->h≠X.env.locals->X.s₀.heap.objs.size<=h->(∀x c,X.env.cells.lookup x=XE c->c≠h)->(∀p∈X.pn++d,p.1≠h)->
    compPost (ax X.prog X.w) X.A X.xe use Q (.ref L) h (.ok .next) s')):
  aq (ax X.prog X.w) X.A (comprehension (C.ex (⟨r,a,i,0⟩::B) scope pos) scope X.env p9 C.new Y2 (eval a X.env) use) Q X.xe s:=by
 have qg:∀y∈scope.names,y.2=.free->∃c,X.env.cells.lookup y.1=XE c:=λy hy hf=>by
  obtain⟨n,k⟩:=y;subst hf;exact I.ok.has n (F.frees _ hy rfl)
 refine wpAny_comprehension_free (co.cl _ _ _) hs (MY qg) F.kind (λx hx hl=>?_) ?_
 ·obtain⟨n,k⟩:=x;subst hl;exact yL F.nd hx
 unfold Cf at q;cases j:it0 σ O with
 |bad=>rw[j] at q;exact ai q
 | exc S O'=>
  rw[j] at q;refine pS (hi.out d s l H (λJ D=>False) I ⟨Xa,μ,σ,O,R,c1,by rw[j];exact q⟩) λv s1 U=>pS U λGj V W=>?_;obtain⟨it,o,tn,J,H2,e,Y,T,ql,Z,z⟩:=W;exact z.elim
 | ok src O2=>
  rw[j] at q;refine pS (hi.out d s l H (λJ D=>∃E,Ext H μ D E/\oB X.K D Xa E O2/\oH X.K J src D Xa E) I ⟨Xa,μ,σ,O,R,c1,by rw[j];exact λJ D E x c sa=>⟨E,x,c,sa⟩⟩) λv s1 U=>pS U λGj V W=>?_;obtain⟨it,o,tn,J,H2,e,Y,T,ql,Z,pW,G,c2,sa⟩:=W;subst e;have p:HY C Ex X.K X.prog X.w H Xa μ (zQ (q0 src (u4 ⟨it0,g,ts⟩ cs em (qH (σ++aw ext.length YP) (qz (⟨it0,g,ts⟩::cs)))) (src.size O2) 0 O2 [])) _:=q;cases M:zQ (q0 src (u4 ⟨it0,g,ts⟩ cs em (qH (σ++aw ext.length YP) (qz (⟨it0,g,ts⟩::cs)))) (src.size O2) 0 O2 []) with
  |bad=>rw[M] at p;exact ai p
  |exc S O'=>exact(zjB M).elim
  | ok Xu O3=>
   rw[M] at p;refine zbm co pQ F (λcells h=>ua cells h _ _ _ Y Z ⟨_,G⟩) Y (R.ext G) c2 T ql Z sa (Zh M) λf s' u=>?_;obtain⟨H',P,I',x',S,nL,nC,gv⟩:=u.inv;have:=p (V.heap.objs.size) H' P (G.none nL) (G.trans x') S gv s' (V.heap.objs.size+1) I' u.ns nC u.loc u.young u.cel u.pns;cases use<;>exact this
def VG(c:oB K H (L::Xa) μ O)(a:L∉Xa)(h:H L=XE (.lst vs))(q:oC K H (L::Xa) μ ds vs):Xe K H Xa μ (.lst ds) (.ref L):=by exact⟨L,vs,rfl,.inl ⟨.inl h,a,λm=>c.nh L m 'd'⟩,q.mv .unhide⟩
mutual
theorem Xe.swap:∀{d:D}{v:V},Xe K H (L::Xa) μ d v->Xe K H Xa (μ++[L]) d v
 |.non,_,h=>h
 |.bl _,_,h=>h
 |.int _,_,h=>h
 |.str _,_,h=>h
 | .lst ds,v,h=>by
  unfold Xe at h ⊢;obtain⟨a,c,r,l,q⟩:=h;refine⟨a,c,r,l.imp (λz=>⟨z.1,λm=>z.2.1 (al _ m),λm=>?_⟩) id,oC.swap q⟩;rcases aQ.mp m with m|m
  ·exact z.2.2 m
  ·exact z.2.1 (by simp at m;simp[m])
 | .tup ds,v,h=>by
  unfold Xe at h ⊢;obtain⟨a,c,r,l,q⟩:=h;refine⟨a,c,r,l.imp (λz=>⟨z.1,λm=>z.2.1 (al _ m),λm=>?_⟩) id,oC.swap q⟩;rcases aQ.mp m with m|m
  ·exact z.2.2 m
  ·exact z.2.1 (by simp at m;simp[m])
 | .own k,v,h=>by
  unfold Xe at h ⊢;obtain⟨a,r,q⟩:=h;exact⟨a,r,by rw[aI (ak.mp q).1];exact q⟩
 | .dct,v,h=>by
  unfold Xe at h ⊢;obtain⟨a,r,q,b,e⟩:=h;refine⟨a,r,q,λm=>b (al _ m),λm=>?_⟩;rcases aQ.mp m with m|m
  ·exact e m
  ·exact b (by simp at m;simp[m])
 | .exn C,v,h=>by
  unfold Xe at h ⊢;obtain⟨a,f,r,g,q,b,e⟩:=h;refine⟨a,f,r,g,q,λm=>b (al _ m),λm=>?_⟩;rcases aQ.mp m with m|m
  ·exact e m
  ·exact b (by simp at m;simp[m])
 | .tab P,v,h=>by
  unfold Xe at h ⊢;exact h
 | .map ks ds,v,h=>by
  unfold Xe at h ⊢;obtain⟨a,c,r,q,b,e,i,d⟩:=h;refine⟨a,c,r,q,λm=>b (al _ m),λm=>?_,i,oC.swap d⟩;rcases aQ.mp m with m|m
  ·exact e m
  ·exact b (by simp at m;simp[m])
 |.adr _,_,h=>h
theorem oC.swap:∀{ds:List D}{vs:List V},oC K H (L::Xa) μ ds vs->oC K H Xa (μ++[L]) ds vs
 |[],_,h=>h
 | d::ds,vs,h=>by
  unfold oC at h ⊢;obtain⟨v,r,a,b,c⟩:=h;exact⟨v,r,a,Xe.swap b,oC.swap c⟩
end
def oB.swap(c:oB K H (L::Xa) μ O)(f:L∉Xa)(h:H L=XE (.lst vs))(q:oC K H (L::Xa) μ ds vs):oB K H Xa (μ++[L]) (O++[ds]):=by
 have g:L∉μ:=λm=>c.nh L m 'd';refine⟨by simp[c.len],?_,λa m=>?_,λa m=>c.ht a (al _ m),λk a e=>?_⟩
 ·rw[gm];refine⟨c.nd,by simp,λa i b j=>?_⟩;have:b=L:=⇑j
  subst this;rintro rfl;exact g i
 ·rcases aQ.mp m with m|m
  ·exact λz=>c.nh a m (al _ z)
  ·have:a=L:=⇑m
   subst this;exact f
 ·by_cases d:k<μ.length
  ·rw[aI d] at e;obtain⟨l,n,o,p,r⟩:=c.at_ k a e;exact⟨l,n,by rw[aI (by rw[<- c.len];exact d)];exact o,p,r.swap⟩
  ·rw[a8 'o'] at e;have s:k-μ.length=0:=by
    have:=(ak.mp e).1;simp at this;lia
   rw[s] at e;simp at e;subst e;refine⟨ds,vs,?_,h,q.swap⟩;have:k=O.length:=by have:=c.len;lia
   subst this;simp
def Ext.grow(e:Ext H μ H' d_)(h:H L=jD):Ext H μ H' (d_++[L]):=by
 obtain⟨a,rfl⟩:=e.pre;refine⟨⟨a++[L],by simp⟩,e.kept,λb m=>?_,e.there,e.tab⟩;rcases aQ.mp m with m|m
 ·exact e.fresh b m
 ·have:b=L:=⇑m
  subst this;exact .inr h
def yd(o:Bool)(r:R (List D)):R D:=r.bnd λXu O1=>if o=Y1 then .ok (.own O1.length) (O1++[Xu]) else .ok (.lst Xu) O1
def Tj(f:oB K H Xa μ O)(q:qW Ex K H Xa μ (yd o r) Q)(h:∀L H',Q (.ref L) H'->Q1 L H'):HY (B3 elt) Ex K P w H Xa μ r Q1:=by
 cases r with
 |bad=>exact q
 |exc c' O'=>exact q
 | ok Xu O'=>
  intro L H' g a x c ⟨i,b,d⟩;have e:L∉Xa:=λm=>f.ht L m a;cases o with
  |false=>exact h L H' (post.ok (q) x c.unhide (VG c e b d))
  |true=>exact h L H' (post.ok (q) (x.grow a) (c.swap e b d) (Jy c.len))
def zc4(k:oB K H Xa μ O)(b:oD K H Xa μ σ b_)(q:oG Ex K H Xa μ ((yd o r).bnS λd O1=>.nx (σ.set i (XE d)) O1) E)(h:∀L H',E.nx (b_.set i (XE (.ref L))) H'->Q1 L H'):
  HY (B3 elt) Ex K P w H Xa μ r Q1:=by
 cases r with
 |bad=>exact q
 |exc c' O'=>exact q
 | ok Xu O'=>
  intro L H' e a x c ⟨l,f,g⟩;have j:L∉Xa:=λm=>k.ht L m a;cases o with
  | false=>
   exact h L H' (q _ H' e x ((b.ext x).set (VG c j f g) i) c.unhide)
  | true=>
   exact h L H' (q _ H' (e++[L]) (x.grow a) ((b.ext (x.grow a)).set (Jy c.len) i) (c.swap j f g))
def KO{d f a:aS}{b:List aS}{h:List bN}{scope:cf}{pos:Pos}{ext:List au}{g:Tg}{ts:List DT}{cs:List Cl}{te:DE}{Z:af->Hp->St->Hp->List af->Prop}
  (i:∀cells C s H c,PG (qR X (X.N++ext) scope cells C s H c) f (g.rd X.K)/\cu (λe t=>rF (qR X (X.N++ext) scope cells C s H c) qD e t) b ts/\oU (qR X (X.N++ext) scope cells C s H c) h cs/\PD (qR X (X.N++ext) scope cells C s H c) qD d te) (cells Cn s H c):
  PG (qR X (X.N++ext) scope cells Cn s H c) f (g.rd X.K)/\cu (λe t=>rF (qR X (X.N++ext) scope cells Cn s H c) qD e t) b ts/\oU (qR X (X.N++ext) scope cells Cn s H c) h cs/\∀A Xa k,(⟨f,a,b,0⟩::h:List bN)[k]?=YP->Av (qR X (X.N++ext) scope cells Cn s H c) (Z A H) (B3 d) A Xa ((B3 d).ex (⟨f,a,b,0⟩::h) scope pos) (⟨f,a,b,0⟩::h) (A2 te) k []:=
 let ⟨h1,h2,h3,h4⟩:=i cells Cn s H c
 ⟨h1,h2,h3,λ_ _ _ j=>zeA rfl h4.z j⟩
def qE(o:Bool)(ext:Nat)(it0:DI)(g:Tg)(ts:List DT)(cs:List Cl)(te:DE):DE:=λσ O=>yd o (Cb ext it0 g ts cs te σ O)
def zjr(o:Bool)(ext:List au)(d:X.calm=Y1)(f:tu X Ex tg iter it0)(h:yu X.env.scope scope (X.N++ext) (qz (⟨it0,g,ts⟩::cs)))
  (i:∀cells C s H a,PG (qR X (X.N++ext) scope cells C s H a) tg (g.rd X.K)/\cu (λe t=>rF (qR X (X.N++ext) scope cells C s H a) qD e t) ifs ts/\oU (qR X (X.N++ext) scope cells C s H a) gs cs/\PD (qR X (X.N++ext) scope cells C s H a) qD elt te)
  (j:∀x,cg iter X.env x=pure x:=by intro _;rfl):PD X Ex (.ListComp elt (⟨tg,iter,ifs,0⟩::gs) scope pos) (qE o ext.length it0 g ts cs te):=by refine⟨?_⟩;rintro b s F H Q I ⟨k,G,J,O,l,c,q⟩;unfold qE at q;rw[<- MA] at q;refine Jh (Mc elt) d f h (λcells n s H a _ _ _=>KO i cells n s H a) j I l c (Tj c q λL p r M C u v w y z A B=>?_);obtain⟨m,D⟩:=v;exact⟨m,D,λP E=>⟨.ref L,p,Inv.bare u E w y z A B,rfl,r⟩⟩
def z8L(o:Bool)(ext:List au)(r:X.calm=Y1)(u:X.N.Nodup)(w:X.N[i]?=XE y)(f:X.env.scope.names.lookup y=XE .local)
  (A:tu X Ex tg iter it0) (B:yu X.env.scope scope (X.N++ext) (qz (⟨it0,g,ts⟩::cs)))
  (D:∀cells C s H b,PG (qR X (X.N++ext) scope cells C s H b) tg (g.rd X.K)/\cu (λe t=>rF (qR X (X.N++ext) scope cells C s H b) qD e t) ifs ts/\oU (qR X (X.N++ext) scope cells C s H b) gs cs/\PD (qR X (X.N++ext) scope cells C s H b) qD elt te)
  (F:swapsWith (.ListComp elt (⟨tg,iter,ifs,0⟩::gs) scope pos) (XE (.Name y py)) tL.line X.env=pure Y1)
  (G:∀x,cg iter X.env x=pure x:=by intro _;rfl):uA X Ex (.Assign [.Name y py] (.ListComp elt (⟨tg,iter,ifs,0⟩::gs) scope pos) tL) (p_ i (qE o ext.length it0 g ts cs te)):=by
 refine⟨?_⟩;rintro h s b_ H E I ⟨c,J,j,O,k,l,q⟩;rw[lz _ _ _ _ F];refine aa (eZ (aa ?_));have q:oG Ex X.K H c J ((yd o (Cb ext.length it0 g ts cs te j O)).bnS λd M=>.nx (j.set i (XE d)) M) E:=q;rw[<- MA] at q;refine aa (ci (Jh (Mc elt) r A B (λcells P s H b _ _ _=>KO D cells P s H b) G I k l (zc4 l k q λL Q R S C T U V n W p Y=>?_)) (λ_ S Z=>am (am Z)) λ_ _ e=>e);obtain⟨m,hn⟩:=U;refine j3 (Mt (v:=.ref L) T u w (.inl f) rfl (λsM OZ vn=>?_) (.inr f));obtain⟨a,CQ,ha⟩:=vn;have OC:C≠a:=by
  rcases ha with z|z
  ·rw[z];exact n
  ·exact λe=>p y a z e.symm
 refine⟨m,hn.sameBut CQ OC,λh' CS=>?_⟩;exact⟨_,Q,Inv.bare OZ CS V n W p Y,R⟩
end
noncomputable def qe{α β:Type}(f:α->Option β):List α->Option (List β)
 |[]=>XE []
 | x::xs=>match f x,qe f xs with
  |some p,XE ps=>XE (p::ps)
  |_,_=>YP
def zB(cs:n_):Option ee:=if cs.all (· < 1114112)=Y1 then XE (.str ⟨cs.toArray⟩) else YP
def qJ(O:Ow):Nat->D->Option ee
 | 0,d=>match d with
  |.non=>XE .none
  |.bl b=>XE (.bool b)
  |.int i=>XE (.int i)
  |.str cs=>zB cs
  |_=>YP
 | n+1,d=>match d with
  |.non=>XE .none
  |.bl b=>XE (.bool b)
  |.int i=>XE (.int i)
  |.str cs=>zB cs
  |.lst ds=>(qe (qJ O n) ds).map .list
  |.tup ds=>(qe (qJ O n) ds).map .tuple
  | .own k=>match O[k]? with
   |some ds=>(qe (qJ O n) ds).map .list
   |none=>YP
  |.dct=>YP
  |.exn _=>YP
  |.tab _=>YP
  |.map _ _=>YP
  |.adr _=>YP
section
variable{X:Cx}{Xd:List (af×Obj)}{b_:St}{H:Hp}{s:ag}{Xa μ:List af}{O:Ow}
theorem JE(I:L2.Inv X Xd b_ H s)(f:∀(d:D)(v:V)(u:ae)(p:ee),Xe X.K H Xa μ d v->RelV v u->qJ O n d=XE p->∃b,Reads s.heap u p b/\p.canLay0=Y1/\p.depth<=n):
  ∀(ds:List D)(vs:List V)(c:List ae)(a:List ee),oC X.K H Xa μ ds vs->oE vs c->qe (qJ O n) ds=XE a->∃b,ReadsAll s.heap c a b/\mK a=Y1/\nK a<=n
 | [],vs,c,a,h,r,e=>by
  unfold oC at h;subst h;cases r;cases e;exact⟨[],.nil,rfl,bX _⟩
 | d::ds,vs,c,a,h,r,e=>by
  obtain⟨v,t,rfl,g,i⟩:=h;cases r with
  | cons r1 r2=>
   unfold qe at e;split at e
   ·rename_i p j k l;cases e;obtain⟨b,m,o,q⟩:=f d v _ p g r1 k;obtain⟨w,x,y,z⟩:=JE I f ds t _ j i r2 l;refine⟨b++w,.cons m x,?_,?_⟩
    ·unfold mK;rw[o,y];rfl
    ·unfold nK;exact Nat.max_le.mpr ⟨q,z⟩
   ·cases e
def Vv(e:zB cs=XE p):∃a,Reads s.heap (.str ⟨cs.toArray⟩ t) p a/\p.canLay0=Y1/\p.depth<=n:=by
 unfold zB at e;split at e
 ·rename_i b;cases e;exact⟨[],.str _ _,by unfold ju PyData.strOk;simpa using b,bX _⟩
 ·cases e
def Bx(I:L2.Inv X Xd b_ H s)(c:oB X.K H Xa μ O):∀(n:Nat)(d:D)(v:V)(u:ae)(p:ee),Xe X.K H Xa μ d v->RelV v u->qJ O n d=XE p->∃B,Reads s.heap u p B/\p.canLay0=Y1/\p.depth<=n:=by
 intro n
 induction n with
 | zero=>
  intro d v u p h r e;cases d with
  |non=>unfold Xe at h;subst h;cases r;cases e;exact⟨[],.none,rfl,bX _⟩
  |bl b=>unfold Xe at h;subst h;cases r;cases e;exact⟨[],.bool _,rfl,bX _⟩
  |int b=>unfold Xe at h;subst h;obtain⟨t,rfl⟩:=r;cases e;exact⟨[],.int _ _,rfl,bX _⟩
  | str cs=>
   unfold Xe at h;subst h;obtain⟨t,rfl⟩:=r;exact Vv (e)
  |_=>cases e
 | succ n ih=>
  intro d v u p h r e;cases d with
  |non=>unfold Xe at h;subst h;cases r;cases e;exact⟨[],.none,rfl,bX _⟩
  |bl b=>unfold Xe at h;subst h;cases r;cases e;exact⟨[],.bool _,rfl,bX _⟩
  |int b=>unfold Xe at h;subst h;obtain⟨t,rfl⟩:=r;cases e;exact⟨[],.int _ _,rfl,bX _⟩
  | str cs=>
   unfold Xe at h;subst h;obtain⟨t,rfl⟩:=r;exact Vv (e)
  | lst f=>
   obtain⟨a,i,rfl,l,q⟩:=h;cases r;have e:(qe (qJ O n) f).map eE=XE p:=e;cases g:qe (qJ O n) f with
   |none=>rw[g] at e;cases e
   | some ps=>
    rw[g] at e;cases e;obtain⟨j,m,⟨o,k,w,x,F,y⟩,C⟩:=I.list l.sq;obtain⟨B,z,A,E⟩:=JE I ih f i j ps q m g;exact⟨_,.list w x y ⇑z,by unfold ju;exact A,by unfold mD;lia⟩
  | tup f=>
   obtain⟨a,i,rfl,l,q⟩:=h;cases r;have e:(qe (qJ O n) f).map io=XE p:=e;cases g:qe (qJ O n) f with
   |none=>rw[g] at e;cases e
   | some ps=>
    rw[g] at e;cases e;obtain⟨j,m,⟨o,w,x,k,y⟩,C⟩:=I.tuple l.sq;obtain⟨B,z,A,E⟩:=JE I ih f i j ps q m g;exact⟨_,.tuple w x y ⇑z,by unfold ju;exact A,by unfold mD;lia⟩
  | own k=>
   obtain⟨a,rfl,G⟩:=h;cases r;obtain⟨f,i,J,L,M⟩:=c.at_ k a G;have e:(match O[k]? with|some f=>(qe (qJ O n) f).map eE|none=>YP)=XE p:=e;rw[J] at e;cases g:qe (qJ O n) f with
   |none=>simp only[g] at e;cases e
   | some ps=>
    simp only[g] at e;cases e;obtain⟨j,m,⟨o,N,w,x,F,y⟩,C⟩:=I.list (.of L);obtain⟨B,z,A,E⟩:=JE I ih f i j ps M m g;exact⟨_,.list w x y ⇑z,by unfold ju;exact A,by unfold mD;lia⟩
  |dct=>cases e
  |exn _=>cases e
  |tab _=>cases e
  |map _ _=>cases e
  |adr _=>cases e
end
def py(O:Ow)(d:D):Option ee:=qJ O 8 d
def AL(K:aj)(f:ee->ee->Option Bool):R2:=λv w H Q=>∃Xa μ O x y a b k,oB K H Xa μ O/\Xe K H Xa μ x v/\Xe K H Xa μ y w/\py O x=XE a/\py O y=XE b/\f a b=XE k/\Q (.bl k) H
def pU(f:ee->ee->Option Bool):Ow->D->D->R D:=λO x y=>match py O x,py O y with
 | some a,XE b=>match f a b with
  |some k=>.ok (.bl k) O
  |none=>.bad
 |_,_=>.bad
section
variable{X:Cx}{Ex:Nat->Hp->Prop}
def Bl:sF X Ex (AL X.K f) (pU f):=by
 intro H d e O x y v w Q c g h q;unfold pU at q;split at q
 ·rename_i a b i j;split at q
  ·rename_i k l;exact⟨d,e,O,x,y,a,b,k,c,g,h,i,j,l,post.here q c uO⟩
  ·exact ai q
 ·exact ai q
def rV:ee->ee->Option Bool:=λa b=>XE (bj a b)
def rB:ee->ee->Option Bool:=λa b=>XE (!PyData.eqv a b)
def BE:ee->ee->Option Bool:=λa b=>match b with
 |.list xs=>XE (xs.any λy=>bj y a)
 |.tuple xs=>XE (xs.any λy=>bj y a)
 |_=>YP
def DF:ee->ee->Option Bool:=λa b=>match b with
 |.list xs=>XE (!xs.any λy=>bj y a)
 |.tuple xs=>XE (!xs.any λy=>bj y a)
 |_=>YP
def Jc(a:p.canLay0=Y1)(b:p.depth<=8):ou p=Y1:=by unfold ou;rw[a,decide_eq_true (show p.depth<=64 by lia)];rfl
def RZ(e:X.A.units+64<cLine):qI X (cy .Eq) (AL X.K rV):=by intro d s E H x y v u Q I f g h;obtain⟨i,F,O,j,l,a,b,k,c,m,n,o,p,r,q⟩:=h;obtain⟨G,t,w,z⟩:=Bx I c 8 j x v a m f o;obtain⟨J,B,C,D⟩:=Bx I c 8 l y u b n g p;cases r;exact PyProof.Rows.eq_dataH t B (Jc w z) (Jc C D) e ⟨.bl _,H,I,rfl,q⟩
def I_(e:X.A.units+64<cLine):qI X (cy .NotEq) (AL X.K rB):=by intro d s E H x y v u Q I f g h;obtain⟨i,F,O,j,l,a,b,k,c,m,n,o,p,r,q⟩:=h;obtain⟨G,t,w,z⟩:=Bx I c 8 j x v a m f o;obtain⟨J,B,C,D⟩:=Bx I c 8 l y u b n g p;cases r;exact PyProof.Rows.ne_dataH t B (Jc w z) (Jc C D) e ⟨.bl _,H,I,rfl,q⟩
def Ie{A:aX}{n m:Nat}(h:m<=8)(a:A.units+64<cLine):A.units+1+min n m<cLine:=by lia
def zjs(e:X.A.units+64<cLine):qI X (cy .In) (AL X.K BE):=by
 intro f s D H x y v u Q I n o h;obtain⟨p,E,O,r,t,a,b,k,c,w,z,B,C,d,q⟩:=h;obtain⟨F,g,i,j⟩:=Bx I c 8 r x v a w n B;obtain⟨G,l,m,J⟩:=Bx I c 8 t y u b z o C;cases b with
 |list xs=>cases d;exact SeqAt.in_list_reads l g m i (Ie j e) ⟨.bl _,H,I,rfl,q⟩
 |tuple xs=>cases d;exact SeqAt.in_tuple_reads l g m i (Ie j e) ⟨.bl _,H,I,rfl,q⟩
 |_=>cases d
def zfJ(e:X.A.units+64<cLine):qI X (cy .NotIn) (AL X.K DF):=by
 intro f s D H x y v u Q I n o h;obtain⟨p,E,O,r,t,a,b,k,c,w,z,B,C,d,q⟩:=h;obtain⟨F,g,i,j⟩:=Bx I c 8 r x v a w n B;obtain⟨G,l,m,J⟩:=Bx I c 8 t y u b z o C;cases b with
 |list xs=>cases d;exact SeqAt.notIn_list_reads l g m i (Ie j e) ⟨.bl _,H,I,rfl,q⟩
 |tuple xs=>cases d;exact SeqAt.notIn_tuple_reads l g m i (Ie j e) ⟨.bl _,H,I,rfl,q⟩
 |_=>cases d
end
end DL
namespace DL
open PySem L2
section
variable{e:aS}
noncomputable def r_(O:Ow):D->Option (List D)
 |.lst ds=>XE ds
 |.own k=>O[k]?
 |_=>YP
def BC:D->Option (List D)
 |.tup ds=>XE ds
 |_=>YP
def xq(a:oB K H Xa μ O)(h:Xe K H Xa μ d v)(e:r_ O d=XE ds):∃p vs,v=.ref p/\qY K H p vs/\oC K H Xa μ ds vs:=by
 cases d with
 | lst xs=>
  obtain⟨p,vs,rfl,l,q⟩:=h;cases e;exact⟨p,vs,rfl,l.sq,q⟩
 | own k=>
  obtain⟨p,rfl,b⟩:=h;obtain⟨i,vs,c,f,g⟩:=a.at_ k p b;have e:O[k]?=XE ds:=e;rw[c] at e;cases e;exact⟨p,vs,rfl,.of f,g⟩
 |_=>cases e
def Bm(h:Xe K H Xa μ d v)(e:BC d=XE ds):∃p vs,v=.ref p/\rW K H p vs/\oC K H Xa μ ds vs:=by
 cases d with
 | tup xs=>
  obtain⟨p,vs,rfl,l,q⟩:=h;cases e;exact⟨p,vs,rfl,l.sq,q⟩
 |_=>cases e
def zoF:Ow->D->D->R D:=λO x y=>match x,y with
 |.str s,.str t=>if s.length+t.length<=4000000 then .ok (.str (s++t)) O else .bad
 |_,_=>.bad
end
def TK(h:oC K H Xa μ ds vs)(e:atI ds i=XE d):∃v,atI vs i=XE v/\Xe K H Xa μ d v:=by
 unfold atI at e ⊢;rw[<- h.length];cases q:ixN ds.length i with
 |none=>rw[q] at e;cases e
 |some j=>rw[q] at e;exact h.get e
def qi:Ow->D->D->R D:=λO x y=>match y with
 | .int i=>match r_ O x with
  | some ds=>match atI ds i with
   |some d=>.ok d O
   |none=>.bad
  | none=>match BC x with
   | some ds=>match atI ds i with
    |some d=>.ok d O
    |none=>.bad
   | none=>match x with
    | .str cs=>if cs.length<=4000000 then match atI cs i with
      |some ch=>.ok (.str [ch]) O
      |none=>.bad
     else .bad
    |_=>.bad
 |_=>.bad
section
variable{X:Cx}{Ex:Nat->Hp->Prop}{pos:Pos}{a b c e:aS}{ta tb:DE}
def Z4:sF X Ex (Ws X.K) qi:=by
 intro H o A O x y v w Q c g n q;unfold qi at q;split at q
 ·rename_i i;unfold Xe at n;subst n;split at q
  ·rename_i r e;obtain⟨p,h,rfl,j,k⟩:=xq c g e;split at q
   ·rename_i d f;obtain⟨z,l,m⟩:=TK k f;exact .inl ⟨p,h,i,z,rfl,rfl,j,l,post.here q c m⟩
   ·exact ai q
  ·split at q
   ·rename_i r e;obtain⟨p,h,rfl,j,k⟩:=Bm g e;split at q
    ·rename_i d f;obtain⟨z,l,m⟩:=TK k f;exact .inr (.inl ⟨p,h,i,z,rfl,rfl,j,l,post.here q c m⟩)
    ·exact ai q
   ·split at q
    ·rename_i s _ _;unfold Xe at g;subst g;obtain⟨t,q⟩:=post.ite q;split at q
     ·rename_i u f;refine .inr (.inr ⟨_,i,u,rfl,rfl,?_,?_,post.here q c L3⟩)
      ·show s.toArray.size<=_;rw[aP];exact zN t
      ·simpa using f
     ·exact ai q
    ·exact ai q
 ·exact ai q
def P4(d:PD X Ex a ta)(f:PD X Ex b tb)(g:Sh b):PD X Ex (.Subscript a b pos) (g_ qi ta tb):=rS (YS ZD d.out f.out g) (IE Z4)
def pP(f:Ow->List D->R D)(t:DA):DE:=λσ O=>(t σ O).bnd λxs O1=>f O1 xs
def vg(X:Cx)(Ex:Nat->Hp->Prop)(r:List V->Hp->VK->Prop)(f:Ow->List D->R D):Prop:=∀(H:Hp)(Xa μ:List af)(O:Ow)(xs:List D)(vs:List V)(Q:VK),oB X.K H Xa μ O->oC X.K H Xa μ xs vs->qW Ex X.K H Xa μ (f O xs) Q->r vs H Q
def Rv(h:vg X Ex r f)(Xa μ:List af)(σ:Sg)(O:Ow)(g:St)(H:Hp)(Q:VK)(i:oD X.K H Xa μ σ g)(j:oB X.K H Xa μ O)(q:qW Ex X.K H Xa μ (pP f t σ O) Q):JV r (uS Ex X.K t) g H Q:=
 uS.go i j q λk l m n o s x c d p=>h n Xa o l k m Q c d p
def zfx{x:au}{id:String}{p:Pos}{d:List aS}{r:List V->Hp->VK->Prop}{f:Ow->List D->R D}{t:DA}(g:oO X (.builtin id) r)(h:vg X Ex r f)(i:Gl X x)(j:X.mg x=YP)(k:bo x=XE (.builtin id))(l:tw X Ex (e::d) t)
  (m:x ≠ "__name__":=by decide) (n:rH x:=by decide) (o:aF (e::d) X.env=(Y2,eval e X.env)::aF d X.env:=by rfl) (q:(backTo pos (aF d X.env)).any (·.1)=Y2:=by rfl):
  PD X Ex (.Call (.Name x p) (e::d) [] pos) (pP f t):=rS (Fx g i j k l.out m n o q) (Rv h)
def Ji(d:oO X (.type T) r)(h:vg X Ex r f)(g:Gl X x)(i:X.mg x=YP)(j:bo x=XE (.type T))(k:tw X Ex (e::es) t)
  (l:x ≠ "__name__":=by decide) (m:rH x:=by decide) (n:aF (e::es) X.env=(Y2,eval e X.env)::aF es X.env:=by rfl) (o:(backTo pos (aF es X.env)).any (·.1)=Y2:=by rfl):
  PD X Ex (.Call (.Name x p) (e::es) [] pos) (pP f t):=rS (UQ d g i j k.out l m n o) (Rv h)
def qu:Ow->List D->R D:=λO xs=>match xs with
 | [x]=>match r_ O x with
  |some ds=>.ok (.int ds.length) O
  | none=>match BC x with
   |some ds=>.ok (.int ds.length) O
   | none=>match x with
    |.str cs=>if cs.length<=4000000 then .ok (.int cs.length) O else .bad
    |_=>.bad
 |_=>.bad
def QS:vg X Ex (λxs H Q=>∃x n,xs=[x]/\Pa X.K x H n/\Q (.int n) H) qu:=by
 intro H l o O xs r Q c d q;unfold qu at q;split at q
 ·rename_i x;obtain⟨v,rfl,f⟩:=uE d;split at q
  ·rename_i h e;obtain⟨p,i,rfl,j,k⟩:=xq c f e;exact⟨_,h.length,rfl,.inl ⟨i,j,k.length⟩,post.here q c sV⟩
  ·split at q
   ·rename_i h e;obtain⟨p,i,rfl,j,k⟩:=Bm f e;exact⟨_,h.length,rfl,.inr ⟨i,j,k.length⟩,post.here q c sV⟩
   ·split at q
    ·rename_i g _ _;unfold Xe at f;subst f;obtain⟨m,q⟩:=post.ite q;refine⟨_,g.length,rfl,⟨?_,?_⟩,post.here q c sV⟩
     ·show g.toArray.size<=_;rw[aP];exact zN m
     ·show g.length=g.toArray.size;rw[aP]
    ·exact ai q
 ·exact ai q
noncomputable def K4:Ow->List D->R D:=λO xs=>match xs with
 |[.int i]=>.ok (.int i) O
 |[.bl k]=>.ok (.int (if k then 1 else 0)) O
 |_=>.bad
def zkd:vg X Ex (λxs H Q=>(∃i,xs=[.int i]/\Q (.int i) H) \/ ∃k,xs=[.bl k]/\Q (.int (if k then 1 else 0)) H) K4:=by
 intro H g h O xs j Q c d q;unfold K4 at q;split at q
 ·obtain⟨v,rfl,f⟩:=uE d;unfold Xe at f;subst f;exact .inl ⟨_,rfl,post.here q c sV⟩
 ·obtain⟨v,rfl,f⟩:=uE d;unfold Xe at f;subst f;exact .inr ⟨_,rfl,post.here q c sV⟩
 ·exact ai q
def yk:Ow->List D->R D:=λO xs=>match xs with
 | [x]=>match r_ O x with
  |some ds=>.ok (.tup ds) O
  | none=>match BC x with
   |some ds=>.ok (.tup ds) O
   |none=>.bad
 |_=>.bad
def Ud:vg X Ex (λxs H Q=>∃p f,xs=[.ref p]/\((qY X.K H p f/\∀l,H l=YP->Q (.ref l) (upd H l (.tup f)))\/(rW X.K H p f/\Q (.ref p) H))) yk:=by
 intro H m o O xs r Q c d q;unfold yk at q;split at q
 ·rename_i x;obtain⟨v,rfl,g⟩:=uE d;split at q
  ·rename_i n e;obtain⟨p,h,rfl,i,k⟩:=xq c g e;exact⟨p,h,rfl,.inl ⟨i,λl j=>post.ok q (.laid j) (c.laid j) (Xe.newT c j k)⟩⟩
  ·split at q
   ·rename_i n e;obtain⟨p,h,rfl,i,k⟩:=Bm g e;refine⟨p,h,rfl,.inr ⟨i,post.here q c ?_⟩⟩;cases x with
    |tup f=>cases e;exact g
    |_=>cases e
   ·exact ai q
 ·exact ai q
def D0:Ow->List D->R D:=λO xs=>match xs with
 |[.int i,.int j]=>.ok (.int (if j>i then j else i)) O
 |_=>.bad
def D3:Ow->List D->R D:=λO xs=>match xs with
 |[.int i,.int j]=>.ok (.int (if j<i then j else i)) O
 |_=>.bad
def zhH:vg X Ex (λxs H Q=>∃i j,xs=[.int i,.int j]/\Q (.int (if j>i then j else i)) H) D0:=by
 intro H h k O xs l Q c d q;unfold D0 at q;split at q
 ·obtain⟨v,w,rfl,f,g⟩:=Ap d;unfold Xe at f g;subst f;subst g;exact⟨_,_,rfl,post.here q c sV⟩
 ·exact ai q
def ziN:vg X Ex (λxs H Q=>∃i j,xs=[.int i,.int j]/\Q (.int (if j<i then j else i)) H) D3:=by
 intro H h k O xs l Q c d q;unfold D3 at q;split at q
 ·obtain⟨v,w,rfl,f,g⟩:=Ap d;unfold Xe at f g;subst f;subst g;exact⟨_,_,rfl,post.here q c sV⟩
 ·exact ai q
end
abbrev pY:=List D->Ow->R D
noncomputable def Hn(K:aj)(Ec:XK->Nat->Hp->Prop)(n:Nat)(F:pY):Sp:=λvs H Q E=>vs.length=n/\∃Xa μ ds O,oC K H Xa μ ds vs/\oB K H Xa μ O/\qW (Ec E) K H Xa μ (F ds O) Q
abbrev KI:XK->Nat->Hp->Prop:=λ_ _ _=>False
section
variable{X:Cx}{CX:xh}{k:Nat}{f:af}{fd:dL}{ps:List au}{E:XK}{Ec:XK->Nat->Hp->Prop}{x:au}{p pos:Pos}{e:aS}{es:List aS}{t:DA}{F:pY}{n:Nat}
noncomputable def o_(n:Nat)(F:pY)(t:DA):DE:=λσ O=>(t σ O).bnd λds O1=>if ds.length=n then F ds O1 else .bad
def P5(G:oP X.prog X.w X.K X.mg X.base CX k f fd ps (Hn X.K Ec n F))(d:oF k X.A)(g:Gl X x)(h:X.mg x=XE (.ref f))(i:cV X.K (.ref f)=Y1)(j:Binds X.K fd ps [])(l:Bn CX X E)(m:tw X (Ec E) (e::es) t)
  (o:rH x:=by decide) (r:aF (e::es) X.env=(Y2,eval e X.env)::aF es X.env:=by rfl) (s:(backTo pos (aF es X.env)).any (·.1)=Y2:=by rfl):
  PD X (Ec E) (.Call (.Name x p) (e::es) [] pos) (o_ n F t):=
 rS (LU G d g h i j .nil l m.out o r s) λa I J O L H Q u v q=>uS.go u v q λy z M N B P R C c b=>by
  obtain⟨D,b⟩:=post.ite b;refine⟨by rw[bP,<- c.length];exact D,a,B,y,z,?_,C,b⟩;rw[bP];exact c
end
noncomputable def fin(r:RS):R D:=match r with
 |.nx _ O=>.ok .non O
 |.rt d O=>.ok d O
 |.exc c O=>.exc c O
 |_=>.bad
def qL(n:Nat)(t:DS):pY:=λds O=>fin (t (ds.map XE++aw (n-ds.length) YP) O)
def FO(h:oC K H Xa μ ds vs)(N:List au):oD K H Xa μ (ds.map XE++aw (N.length-ds.length) YP) (L2.start N vs):=by
 unfold L2.start;have b:=h.length;refine⟨by simp[b],λi d e=>?_⟩;have a:i<ds.length:=by
  by_cases a:i<ds.length
  ·exact a
  ·rw[a8 ⇑a,fc] at e;split at e<;>cases e
 rw[aI ⇑a,bC] at e;cases q:ds[i]? with
 |none=>rw[q] at e;cases e
 | some d'=>
  rw[q] at e;cases e;obtain⟨v,c,f⟩:=h.get q;exact⟨v,by rw[aI (by simp;lia),bC,c];rfl,f⟩
abbrev EV(P:aJ)(w:aU)(K:aj)(mg:au->Option ae)(base:aR)(N:List au)(qual:au)(scope:cf)(f:af)(k_:ae)(A:aX)(outer:List Env)(s:ag)(H:Hp)(E:XK):Cx:=
 (zy (λ_ _ _ _ _ _=>False) P w K mg base N qual scope f k_ A outer s H E).nox
def Y_{P:aJ}{w:aU}{K:aj}{u:au->Option ae}{base:aR}{k:Nat}{f:af}{name a:au}{g:eG}{body:List cT}{scope:cf}{y z i B j ct F:ae}{C G:Option af}{I:Array (Option ae)}{N o:List au}{t:DS}
  (J:K.lookup f=XE ⟨F,G,.func (bi name a g body scope y z i B C j ct),I⟩) (L:cX K j a=Y1) (S:rO N o scope)
  (M:∀(A:aX)(b:List Env)(s:ag)(H:Hp)(E:XK),oF k (A.deeper (aV a scope s.heap.objs.size f j))->r8 (EV P w K u base N a scope f j A b s H E) qD body t):
  oP P w K u base (λ_ _ _ _ _ _=>False) (k+1) f (bi name a g body scope y z i B C j ct) o (Hn K KI o.length (qL N.length t)):=by
 refine rq J L S (λR H Q E h=>h.1) λA b s H R Q E T h=>?_;obtain⟨W,p,U,D,O,d,c,q⟩:=h;refine⟨_,(M A b s H E T).out.nox,p,U,_,O,FO d N,c,?_⟩;unfold qL at q;generalize t (D.map XE++aw (N.length-D.length) YP) O=r at q;cases r with
 |nx σ O'=>exact λX l m x e n=>q .non l m x n AB
 |rt d' O'=>exact λv l m x n r=>q v l m x n r
 |bk σ O'=>exact ai q
 |ct σ O'=>exact ai q
 |exc n O'=>exact λl m x V=>q l m x V
 |bad=>exact ai q
noncomputable def sY:D->String
 |.non => "NoneType"
 |.bl _ => "bool"
 |.int _ => "int"
 |.str _ => "str"
 |.lst _ => "list"
 |.own _ => "list"
 |.tup _ => "tuple"
 |.dct => "dict"
 |.exn _ => "exception"
 |.tab _ => "bool"
 |.map _ _ => "dict"
 |.adr _ => "function"
def uY(t c:String):Bool:=t==c||(t == "bool" && c == "int")
section
variable{X:Cx}{Ex:Nat->Hp->Prop}{pos:Pos}{a b c e:aS}{ta te:DE}{Xd:List (af×Obj)}{b_:St}{H:Hp}{s:ag}{Xa μ:List af}{O:Ow}
def yi:List String:=["NoneType", "bool", "int", "str", "list", "tuple", "dict"]
def zG(K:aj){t c:String}(d:t∈yi)(f:c∈["int", "bool", "str", "list", "tuple", "dict"]):a7 K (.type t) (.type c)=XE (uY t c):=by simp only[yi,ar,bU,or_false] at d f;rcases d with rfl|rfl|rfl|rfl|rfl|rfl|rfl<;>rcases f with rfl|rfl|rfl|rfl|rfl|rfl<;>first|rfl|decide
def VB{v:V}{u:ae}{d:D}(I:L2.Inv X Xd b_ H s)(F:oB X.K H Xa μ O)(h:Xe X.K H Xa μ d v)(r:RelV v u)(G:(sY d == "function")=Y2):∃(T:ae)(A:aR->Prop),PySem.W.KitX X.K u T A/\A s.heap/\u ≠ .builtin "__main__.__loader__#opaque"/\∀c∈(["int", "bool", "str", "list", "tuple", "dict"]:List String),a7 X.K T (.type c)=XE (uY (sY d) c):=by
 cases d with
 |non=>unfold Xe at h;subst h;cases r;exact⟨.type "NoneType",_,mL,eQ,(λz=>nomatch z),λc f=>zG X.K (by simp[yi]) f⟩
 |bl _=>unfold Xe at h;subst h;cases r;exact⟨.type "bool",_,mM,eQ,(λz=>nomatch z),λc f=>zG X.K (by simp[yi]) f⟩
 |int _=>unfold Xe at h;subst h;obtain⟨t,rfl⟩:=r;exact⟨.type "int",_,PySem.W.kitx_int,eQ,(λz=>nomatch z),λc f=>zG X.K (by simp[yi]) f⟩
 |str _=>unfold Xe at h;subst h;obtain⟨t,rfl⟩:=r;exact⟨.type "str",_,PySem.W.kitx_str,eQ,(λz=>nomatch z),λc f=>zG X.K (by simp[yi]) f⟩
 | lst x=>
  obtain⟨p,m,rfl,l,q⟩:=h;cases r;obtain⟨B,E,⟨o,n,j,i,_⟩,_⟩:=I.list l.sq;exact⟨.type "list",_,mO,⟨o,j,i⟩,(λz=>nomatch z),λc f=>zG X.K (by simp[yi]) f⟩
 | own k=>
  obtain⟨p,rfl,J⟩:=h;cases r;obtain⟨x,m,_,i,_⟩:=F.at_ k p J;obtain⟨B,E,⟨o,n,j,i,_⟩,_⟩:=I.list (.of i);exact⟨.type "list",_,mO,⟨o,j,i⟩,(λz=>nomatch z),λc f=>zG X.K (by simp[yi]) f⟩
 | tup x=>
  obtain⟨p,m,rfl,l,q⟩:=h;cases r;obtain⟨B,E,⟨o,j,i,_⟩,_⟩:=I.tuple l.sq;exact⟨.type "tuple",_,PySem.W.kitx_tuple,⟨o,j,i⟩,(λz=>nomatch z),λc f=>zG X.K (by simp[yi]) f⟩
 | dct=>
  obtain⟨p,rfl,w,_⟩:=h;cases r;obtain⟨_,_,m,_,o,L,M,j,i,_⟩:=Rd.ok w I.hok;exact⟨.type "dict",_,mP,⟨o,j,i.1⟩,(λz=>nomatch z),λc f=>zG X.K (by simp[yi]) f⟩
 |tab _=>unfold Xe at h;obtain⟨rfl,_⟩:=h;cases r;exact⟨.type "bool",_,mM,eQ,(λz=>nomatch z),λc f=>zG X.K (by simp[yi]) f⟩
 | map ks x=>
  obtain⟨p,m,rfl,w,_⟩:=h;cases r;obtain⟨_,_,m,_,o,L,M,j,i,_⟩:=Rd.ok (.inr w) I.hok;exact⟨.type "dict",_,mP,⟨o,j,i.1⟩,(λz=>nomatch z),λc f=>zG X.K (by simp[yi]) f⟩
 |adr _=>cases G
 | exn C=>
  obtain⟨p,N,rfl,⟨k,g⟩,w,_⟩:=h;cases r;obtain⟨y,_⟩:=Rd.ok w I.hok;refine⟨_,_,QR k,g _ y,(λz=>nomatch z),λc f=>?_⟩;rw[k.kit c f];simp at f;rcases f with rfl|rfl|rfl|rfl|rfl|rfl<;>rfl
def EF:List String:=["int", "bool", "str", "list", "tuple", "dict"]
def zdP:oO X (.builtin "isinstance") (λxs H Q=>∃x C Xa μ O d,xs=[x,.ty C]/\C∈EF/\oB X.K H Xa μ O/\Xe X.K H Xa μ d x/\(sY d == "function")=Y2/\Q (.bl (uY (sY d) C)) H):=by intro Xd s t H xs v Q I r h;obtain⟨x,C,Xa,μ,O,d,rfl,f,g,i,j,q⟩:=h;obtain⟨u,w,rfl,k,l⟩:=Aq r;cases l;obtain⟨T,y,Z,p,m,n⟩:=VB I g i k j;exact wT I (kU Z I.kIn p (n _ f) m λo z=>⟨.bl _,H,I.tok o,rfl,q⟩)
def r9(C:String)(t:DE):DE:=λσ O=>(t σ O).bnd λd O1=>if (sY d == "function")=Y1 then .bad else .ok (.bl (uY (sY d) C)) O1
def Iv(i:PD X Ex a ta)(j:n∈EF)(k:Gl X "isinstance")(l:X.mg "isinstance" = YP)(m:bo "isinstance" = XE (.builtin "isinstance"))(o:Gl X C)(t:X.mg C=YP)(u:bo C=XE (.type n))(w:C ≠ "__name__":=by decide)
  (y:rH C:=by decide) (g:aF [a,.Name C p'] X.env=(Y2,eval a X.env)::aF [.Name C p'] X.env:=by rfl) (z:aF [.Name C p'] X.env=[(Y2,eval (.Name C p') X.env)]:=by rfl) (A:(backTo pos (aF [.Name C p'] X.env)).any (·.1)=Y2:=by rfl):
  PD X Ex (.Call (.Name "isinstance" p) [a,.Name C p'] [] pos) (r9 n ta):=
 rS (Fx (zdP) k l m (yn i.out (yn (IV (v:=.ty n) o t u rfl w y) B9 z) g) 's' 's' g A) λXa μ I O b_ H Q B D q=>rd.go B D q λd E v J F K x h r f=>by
  obtain⟨G,f⟩:=post.iteN f;exact⟨v,n,Xa,F,E,d,rfl,j,h,r,G,post.here f h uO⟩
noncomputable def yC(to:DE)(t:DA):DE:=λσ O=>(to σ O).bnd λx O1=>match x with
 | .own k=>(t σ O1).bnd λys O2=>match ys,O2[k]? with
  |[y],XE ds=>if ds.length<4000000 then .ok .non (O2.set k (ds++[y])) else .bad
  |_,_=>.bad
 |_=>.bad
def zdt(n:PD X Ex o to)(u:tw X Ex (e::es) t)(z:attributeBase o "append" X.env (eval o X.env)=eval o X.env:=by rfl)
  (B:((backTo p9 (aF (e::es) X.env)).all (λx=>!x.1)&&(backToKw p9 (keywordEach [] X.env)).all (λx=>x.1.isSome)&&decide ((e::es).length+([]:List gC).length+(if ([]:List gC).isEmpty then 0 else 1)<30))=Y1:=by rfl)
  (C:(apos.endLine==p9.line)=Y1:=by rfl) (D:aF (e::es) X.env=(Y2,eval e X.env)::aF es X.env:=by rfl) (E:(backTo p9 (aF es X.env)).any (·.1)=Y2:=by rfl):
  PD X Ex (.Call (.Attribute o "append" apos) (e::es) [] p9) (yC to t):=
 rS (Lc kN lu PySem.F.type_list_append UK n.out u.out z B C D E) λXa μ σ O b_ H Q G I q=>rd.go G I q λd O1 v H1 f_ J x h r p=>by
  cases d with
  | own k=>
   have K:=r;obtain⟨A,rfl,L⟩:=r;obtain⟨ds,M,h1,N,h3⟩:=h.at_ k A L;refine⟨.inl ⟨rfl,M,.of N⟩,uS.go J h p λys O2 ws H2 P e3 R i S f=>?_⟩;split at f
   ·rename_i y Dm T;obtain⟨U,f⟩:=post.ite f;obtain⟨w,rfl,V⟩:=uE S;have g:P[k]?=XE A:=by
     have:=K.ext R;obtain⟨A',W,Y⟩:=this;cases W;exact Y
    obtain⟨G8,Z,j,l,m⟩:=i.at_ k A g;rw[T] at j;cases j;refine⟨A,Z,w,rfl,rfl,l,a9 (by rw[<- m.length];exact U) 's',?_⟩;exact post.ok f (.put (aO g) ⟨_,l⟩) (i.put g (m.append (.cons V .nil))) AB
   ·exact ai f
  |_=>exact ai p
def Ak(te to ti:DE):DS:=λσ O=>(te σ O).bnS λy O1=>(to σ O1).bnS λx O2=>(ti σ O2).bnS λi O3=>match x,i with
 | .own k,.int i=>match O3[k]? with
  | some ds=>match ixN ds.length i with
   |some j=>.nx σ (O3.set k (ds.set j y))
   |none=>.bad
  |none=>.bad
 |_,_=>.bad
def zhE(t:PD X Ex e te)(z:PD X Ex o to)(B:PD X Ex i ti)(C:∀v,assign (.Subscript o i pos) X.env v=(do
   let ov <- holding [v] (eval o X.env);let iv <- holding [v,ov] (eval i X.env)
   standAt pos
   holding [v,ov,iv] (setItem ov iv v)
   release [v,ov,iv] []):=by intro _;rfl)(D:fJ [.Subscript o i pos] e tL.line X.env=pure Y2:=by rfl)(F:fK [.Subscript o i pos] e X.env=pure YP:=by rfl)
  (G:(gK [.Subscript o i pos] X.env).map (·.2)=[assign (.Subscript o i pos) X.env]:=by rfl):uA X Ex (.Assign [.Subscript o i pos] e tL) (Ak te to ti):=
 yK (LD t.out (zke z.out B.out zeF C) D F G) λXa μ σ O E b_ H I J q=>rd.goS I J q λy O1 v H1 f_ K x1 L M N=>rd.goS K L N λx O2 u H2 pW P Q R S T=>rd.goS P R T λii O3 w H3 U V l n W d=>by
  split at d
  ·rename_i k j;split at d
   ·rename_i ds Y;split at d
    ·rename_i m Z;have g:=S.ext l;obtain⟨A,rfl,f⟩:=g;subst W;obtain⟨G8,BA,p,h,r⟩:=n.at_ k A f;rw[Y] at p;cases p;refine⟨A,BA,j,m,rfl,rfl,h,by rw[<- r.length];exact Z,?_⟩;exact d b_ _ U (.put (aO f) ⟨_,h⟩) (V.ext (.put (aO f) ⟨_,h⟩)) (n.put f (r.set ((M.ext Q).ext l) m))
    ·exact ai d
   ·exact ai d
  ·exact ai d
def yt:List D->Option (List Bool)
 |[]=>XE []
 |.bl b::r=>(yt r).map (b :: ·)
 |_=>YP
theorem Ll:∀{ds:List D}{vs:List V}{bs:List Bool},oC K H Xa μ ds vs->yt ds=XE bs->vs=bs.map V.bl
 |[],vs,bs,h,e=>by unfold oC at h;subst h;cases e;rfl
 | d::ds,vs,bs,h,e=>by
  obtain⟨v,r,rfl,f,g⟩:=h;cases d with
  | bl b=>
   unfold yt at e;cases q:yt ds with
   |none=>rw[q] at e;cases e
   | some cs=>
    rw[q] at e;cases e;unfold Xe at f;subst f;rw[Ll g q];rfl
  |_=>cases e
def BR:Ow->List D->R D:=λO xs=>match xs with
 | [x]=>match r_ O x with
  | some ds=>match yt ds with
   |some bs=>.ok (.bl (bs.all id)) O
   |none=>.bad
  |none=>.bad
 |_=>.bad
def Dz:Ow->List D->R D:=λO xs=>match xs with
 | [x]=>match r_ O x with
  | some ds=>match yt ds with
   |some bs=>.ok (.bl (bs.any id)) O
   |none=>.bad
  |none=>.bad
 |_=>.bad
def Zi:vg X Ex (λxs H Q=>∃(p:af)(bs:List Bool),xs=[.ref p]/\qY X.K H p (bs.map V.bl)/\Q (.bl (bs.all id)) H) BR:=by
 intro H Xa μ O xs j Q c d q;unfold BR at q;split at q
 ·rename_i x;obtain⟨v,rfl,f⟩:=uE d;split at q
  ·rename_i k e;obtain⟨p,l,rfl,g,h⟩:=xq c f e;split at q
   ·rename_i bs i;refine⟨p,bs,rfl,?_,post.here q c uO⟩;rw[<- Ll h i];exact g
   ·exact ai q
  ·exact ai q
 ·exact ai q
def zkI:vg X Ex (λxs H Q=>∃(p:af)(bs:List Bool),xs=[.ref p]/\qY X.K H p (bs.map V.bl)/\Q (.bl (bs.any id)) H) Dz:=by
 intro H Xa μ O xs j Q c d q;unfold Dz at q;split at q
 ·rename_i x;obtain⟨v,rfl,f⟩:=uE d;split at q
  ·rename_i k e;obtain⟨p,l,rfl,g,h⟩:=xq c f e;split at q
   ·rename_i bs i;refine⟨p,bs,rfl,?_,post.here q c uO⟩;rw[<- Ll h i];exact g
   ·exact ai q
  ·exact ai q
 ·exact ai q
def zdh(bs:List Bool):(aW bs.length).all (λi=>bs.getD i Y1)=bs.all id:=by
 rw[dZ,ay,ay];constructor
 ·intro h b f;obtain⟨i,d,e⟩:=cE.mp f;have:=h i ⇑d;rw[aH,ao d,e] at this;exact this
 ·intro h i d;have d:i<bs.length:=⇑d
  rw[aH,ao d];exact h _ (bO d)
def zdj(bs:List Bool):(aW bs.length).any (λi=>bs.getD i Y1)=bs.any id:=by
 rw[dZ,cC,cC];constructor
 ·rintro⟨i,d,h⟩;have d:i<bs.length:=⇑d
  rw[aH,ao d] at h;exact⟨_,bO d,h⟩
 ·rintro⟨b,f,h⟩;obtain⟨i,d,e⟩:=cE.mp f;exact⟨i,by simpa using d,by rw[aH,ao d,e];exact h⟩
def RT{bs:List Bool}{d:List ae}(r:oE (bs.map V.bl) d){i:Nat}{v:ae}(h:d.toArray[i]?=XE v):v=.bool (bs.getD i Y1):=by
 have h:d[i]?=XE v:=⇑h
 have f:i<bs.length:=by
  have:=r.length;have:=(ak.mp h).1;simp at *;lia
 obtain⟨u,g,j⟩:=r.get (by rw[bC,ao f];rfl);rw[h] at g;cases g;cases j;rw[aH,ao f];rfl
def zdb(j:X.calm=Y1):oO X (.builtin "all") (λxs H Q=>∃(p:af)(bs:List Bool),xs=[.ref p]/\qY X.K H p (bs.map V.bl)/\Q (.bl (bs.all id)) H):=by
 intro Xd s z H xs B Q I r h;obtain⟨p,bs,rfl,k,q⟩:=h;obtain⟨u,rfl,l⟩:=vC r;cases l;obtain⟨d,g,f,C⟩:=I.list k;have m:d.toArray.size=bs.length:=by have:=g.length;simp at *;lia
 have t:p≠s.heap.objs.size:=by obtain⟨o,n,e,_⟩:=f;exact bq (aK e)
 refine wT I (call_all_walk (eV f.isList ?_));refine⟨s.heap.objs.size,_,_,d.toArray.size,_,_,λi=>bs.getD i Y1,rfl,j7 (show X.A.in1.handled=YP from I.ok.hd j) _ p t d.toArray,⟨⟨_,aM _ rfl,rfl,rfl⟩,f.isList.push _⟩,λi v D E F w x=>?_,λG J y L=>?_⟩
 ·rw[RT g w];exact cQ x
 ·rw[m,zdh];exact⟨.bl _,H,I.kept λb o e=>y b o (by simpa using bq (aK e)) (ah _ e),rfl,q⟩
def zea(j:X.calm=Y1):oO X (.builtin "any") (λxs H Q=>∃(p:af)(bs:List Bool),xs=[.ref p]/\qY X.K H p (bs.map V.bl)/\Q (.bl (bs.any id)) H):=by
 intro Xd s z H xs B Q I r h;obtain⟨p,bs,rfl,k,q⟩:=h;obtain⟨u,rfl,l⟩:=vC r;cases l;obtain⟨d,g,f,C⟩:=I.list k;have m:d.toArray.size=bs.length:=by have:=g.length;simp at *;lia
 have t:p≠s.heap.objs.size:=by obtain⟨o,n,e,_⟩:=f;exact bq (aK e)
 refine wT I (call_any_walk (eV f.isList ?_));refine⟨s.heap.objs.size,_,_,d.toArray.size,_,_,λi=>bs.getD i Y1,rfl,j7 (show X.A.in1.handled=YP from I.ok.hd j) _ p t d.toArray,⟨⟨_,aM _ rfl,rfl,rfl⟩,f.isList.push _⟩,λi v D E F w x=>?_,λG J y L=>?_⟩
 ·rw[RT g w];exact cQ x
 ·rw[m,zdj];exact⟨.bl _,H,I.kept λb o e=>y b o (by simpa using bq (aK e)) (ah _ e),rfl,q⟩
end
section
variable{X:Cx}{Ex:Nat->Hp->Prop}{pos:Pos}{a b c e o:aS}{ta tb te to:DE}{Xd:List (af×Obj)}{b_:St}{H:Hp}{s:ag}{Xa μ:List af}{O:Ow}
def Qj(K:aj):R2:=λx y H Q=>∃l b xs zs,x=.ref l/\y=.ref b/\qY K H l xs/\qY K H b zs/\xs.length+zs.length<=J8/\∀p,H p=YP->Q (.ref p) (upd H p (.lst (xs++zs)))
def zjz:qI X (dU .Add) (Qj X.K):=by
 intro Xd s P H x y v u Q I m n h;obtain⟨l,b,R,S,rfl,rfl,p,r,T,q⟩:=h;cases m;cases n;obtain⟨d,g,t,U⟩:=I.list p;obtain⟨f,i,w,V⟩:=I.list r;obtain⟨⟨W,Y,Z,z⟩,A,j,B,C,D⟩:=t;obtain⟨⟨c2,d2,t2,E⟩,G,k,J,L,M⟩:=w;subst B C D J L M;have N:d.toArray++f.toArray=(d++f).toArray:=by simp
 have l1:=g.length;have l2:=i.length;refine jJ ⟨_,j,rfl⟩ ⟨_,k,rfl⟩ PySem.noFill_list_add PySem.seq_list_add PySem.F.slot_list_add PySem.F.entry_list_add (PySem.F.args_list_add_2 _ _)
  (PyProof.Rows.list_addW l b d.toArray f.toArray A G YP YP z E (by simp;lia)) ⟨j,k,?_⟩
 rw[N];exact⟨.ref _,_,I.lnew (g.append i) (by rw[aA];lia),rfl,q _ I.fresh⟩
def rD:Ow->D->D->R D:=λO x y=>match x,y with
 |.int i,.int j=>.ok (.int (i+j)) O
 |.str p,.str q=>if p.length+q.length<=4000000 then .ok (.str (p++q)) O else .bad
 |.tup xs,.tup ys=>if xs≠[]/\xs.length+ys.length<=4000000 then .ok (.tup (xs++ys)) O else .bad
 | x,y=>match r_ O x,r_ O y with
  |some xs,XE ys=>if xs.length+ys.length<=4000000 then .ok (.lst (xs++ys)) O else .bad
  |_,_=>.bad
def K9(K:aj):R2:=λx y H Q=>(∃i j,x=.int i/\y=.int j/\Q (.int (i+j)) H)\/(∃i j,x=.str i/\y=.str j/\i.length+j.length<=J8/\Q (.str (i++j)) H)\/Qc K x y H Q\/Qj K x y H Q
def SA:qI X (dU .Add) (K9 X.K):=qI.or ZQ (qI.or zaW (qI.or zjC zjz))
def R9:sF X Ex (K9 X.K) rD:=by
 intro H Xa μ O x y v w Q c d g q;unfold rD at q;split at q
 ·unfold Xe at d g;subst d;subst g;exact .inl ⟨_,_,rfl,rfl,post.here q c sV⟩
 ·rename_i p j;unfold Xe at d g;subst d;subst g;obtain⟨k,q⟩:=post.ite q;refine .inr (.inl ⟨_,_,rfl,rfl,?_,?_⟩)
  ·show p.toArray.size+j.toArray.size<=_;simp;exact zN k
  ·have e:((⟨p.toArray⟩:au)++(⟨j.toArray⟩:au))=⟨(p++j).toArray⟩:=by
    show(⟨p.toArray++j.toArray⟩:au)=_;simp
   rw[e];exact post.here q c L3
 ·rename_i B C;have D:=d;obtain⟨p,m,rfl,z,h⟩:=d;obtain⟨n,r,rfl,A,i⟩:=g;obtain⟨⟨E,k⟩,q⟩:=post.ite q;have t:=h.length;have u:=i.length;refine .inr (.inr (.inl ⟨p,n,m,r,rfl,rfl,z.sq,A.sq,?_,zN 'o',?_,?_⟩))
  ·rintro rfl;exact E (cU.mp t)
  ·rintro rfl;have:=cU.mp u;subst this;rw[bP] at q;exact post.here q c D
  ·intro _ l f;exact post.ok q (.laid f) (c.laid f) (Xe.newT c f (h.append i))
 ·split at q
  ·rename_i B C t u;obtain⟨p,m,rfl,F,h⟩:=xq c d t;obtain⟨n,r,rfl,G,i⟩:=xq c g u;obtain⟨k,q⟩:=post.ite q;have z:=h.length;have A:=i.length;exact .inr (.inr (.inr ⟨p,n,m,r,rfl,rfl,F,G,zN 'o',λl f=>post.ok q (.laid f) (c.laid f) (Xe.newL c f (h.append i))⟩))
  ·exact ai q
def Rn(d:PD X Ex a ta)(f:PD X Ex b tb):PD X Ex (.BinOp a .Add b pos) (g_ rD ta tb):=HW SA R9 d f
noncomputable def O_(i:Int):n_:=((toString i:au)).cps.toList
def Ii:Ow->List D->R D:=λO xs=>match xs with
 |[.int i]=>if i.natAbs<2 ^ 64 then .ok (.str (O_ i)) O else .bad
 |_=>.bad
def zbt(h:n<2 ^ 64):n.log2<1920:=by
 by_cases d:n=0
 ·subst d;decide
 ·have:=(Nat.log2_lt d).mpr h;lia
def RW(x:au):(⟨x.cps.toList.toArray⟩:au)=x:=by cases x;simp
def zja:vg X Ex (λxs H Q=>∃i,xs=[.int i]/\i.natAbs.log2<1920/\Q (.str (toString i)) H) Ii:=by
 intro H Xa μ O xs h Q c d q;unfold Ii at q;split at q
 ·rename_i i;obtain⟨v,rfl,f⟩:=uE d;unfold Xe at f;subst f;obtain⟨g,q⟩:=post.ite q;refine⟨i,rfl,zbt g,post.here q c ?_⟩;unfold Xe O_;rw[RW]
 ·exact ai q
def Wr(g:au->au->Option V):V->List V->Hp->VK->Prop:=λx xs H Q=>∃i j v,x=.str i/\xs=[.str j]/\g i j=XE v/\Q v H
def Pk(i j:au):Option V:=XE (.int (b9 i j 0 i.length (i.length+1)).length)
def zfp:OV X "str.count" (Wr Pk):=by intro Xd s k H x l v m Q I d f h;obtain⟨i,j,w,rfl,rfl,g,q⟩:=h;obtain⟨t,rfl⟩:=d;obtain⟨u,rfl,n,rfl⟩:=vC f;cases g;exact SC.count ⟨.int _,H,I.tok _,⟨_,rfl⟩,q⟩
def HP(i j:n_):Option D:=XE (.int (b9 ⟨i.toArray⟩ ⟨j.toArray⟩ 0 i.length (i.length+1)).length)
noncomputable def Kz(g:n_->n_->Option D)(to:DE)(t:DA):DE:=λσ O=>(to σ O).bnd λx O1=>match x with
 | .str i=>(t σ O1).bnd λys O2=>match ys with
  | [.str j]=>match g i j with
   |some d=>.ok d O2
   |none=>.bad
  |_=>.bad
 |_=>.bad
def Yv{t:DA}{h:List aS}{f k:Pos}{name:au}{id:String}{u:au->au->Option V}{g:n_->n_->Option D}(l:Slot "str" name id)(z:typeOf (.builtin id)=pure (.type "method_descriptor"))(A:OV X id (Wr u))
  (n:∀i j d,g i j=XE d->∃v,u ⟨i.toArray⟩ ⟨j.toArray⟩=XE v/\∀K H Xa μ,Xe K H Xa μ d v) (B:PD X Ex o to) (C:tw X Ex (e::h) t) (E:attributeBase o name X.env (eval o X.env)=eval o X.env:=by rfl)
  (G:((backTo k (aF (e::h) X.env)).all (λx=>!x.1)&&(backToKw k (keywordEach [] X.env)).all (λx=>x.1.isSome)&&decide ((e::h).length+([]:List gC).length+(if ([]:List gC).isEmpty then 0 else 1)<30))=Y1:=by rfl)
  (I:(f.endLine==k.line)=Y1:=by rfl) (J:aF (e::h) X.env=(Y2,eval e X.env)::aF h X.env:=by rfl) (L:(backTo k (aF h X.env)).any (·.1)=Y2:=by rfl):
  PD X Ex (.Call (.Attribute o name f) (e::h) [] k) (Kz g to t):=
 rS (Lc PySem.F.plainAttrs_str l z A B.out C.out E G I J L) λXa μ Z O b_ H Q M N q=>rd.go M N q λd O1 v H1 f_ P x R r p=>by
  cases d with
  | str i=>
   subst r;refine⟨rfl,uS.go P R p λys O2 ws H2 pW e3 x3 S T m=>?_⟩;split at m
   ·rename_i j;obtain⟨w,rfl,y⟩:=uE T;unfold Xe at y;subst y;split at m
    ·rename_i d U;obtain⟨v,W,Y⟩:=n _ _ _ U;exact⟨_,_,v,rfl,rfl,W,post.here m S (Y _ _ _ _)⟩
    ·exact ai m
   ·exact ai m
  |_=>exact ai p
def Zq:∀i j d,HP i j=XE d->∃v,Pk ⟨i.toArray⟩ ⟨j.toArray⟩=XE v/\∀K H Xa μ,Xe K H Xa μ d v:=λi j d h=>by
 cases h;have e:(⟨i.toArray⟩:au).length=i.length:=by show i.toArray.size=_;simp
 exact⟨_,rfl,λ_ _ _ _=>by unfold Xe;rw[e]⟩
def Qb:List D->Option (List au)
 |[]=>XE []
 |.str cs::r=>(Qb r).map (⟨cs.toArray⟩ :: ·)
 |_=>YP
def zb3:∀{d:List au}{f:List ae},oE (d.map V.str) f->lL f d:=by
 intro d
 induction d with
 |nil=>intro f r;rw[il] at r;cases r;exact .nil
 | cons y d ih=>
  intro f r;cases r with
  | cons r1 r2=>
   obtain⟨t,e⟩:=r1;subst e;exact .cons y t (ih r2)
def zoy(to:DE)(t:DA):DE:=λσ O=>(to σ O).bnd λx O1=>match x with
 | .str i=>(t σ O1).bnd λys O2=>match ys with
  | [z]=>match (match r_ O2 z with|some ds=>XE ds|none=>BC z) with
   | some ds=>match Qb ds with
    |some zs=>if i.length<=16/\(zs.map (·.length)).sum+zs.length<=1048576 then .ok (.str (Txt.join ⟨i.toArray⟩ zs).cps.toList) O2 else .bad
    |none=>.bad
   |none=>.bad
  |_=>.bad
 |_=>.bad
abbrev DO:=Sg->Ow->R (Option Int)
noncomputable def F1(Ex:Nat->Hp->Prop)(K:aj)(t:DO):TO:=λb_ H Q=>∃Xa μ σ O,oD K H Xa μ σ b_/\oB K H Xa μ O/\post Ex K (λ_ _(d v:Option Int)=>d=v) H Xa μ (t σ O) Q
structure Ds(X:Cx)(Ex:Nat->Hp->Prop)(e:Option aS)(t:DO):Prop where
 out:PO X e (F1 Ex X.K t)
def H8:DO:=λ_ O=>.ok YP O
def K8(t:DE):DO:=λσ O=>(t σ O).bnd λd O1=>match d with
 |.int i=>.ok (XE i) O1
 |_=>.bad
def PO.imp{e:Option aS}{t t':TO}(h:PO X e t)(f:∀σ H Q,t' σ H Q->t σ H Q):PO X e t':=λXd s σ H Q I q=>h Xd s σ H Q I (f σ H Q q)
def zfq:Ds X Ex YP H8:=Ds.mk <| PO.imp zhG λb_ H Q ⟨Xa,μ,f,O,g,d,q⟩=>post.here q d rfl
def Ui(h:PD X Ex e te):Ds X Ex (XE e) (K8 te):=Ds.mk <| PO.imp (ziI h.out) λb_ H Q ⟨Xa,μ,k,O,f,g,q⟩=>rd.go f g q λd l v m n t x j r p=>by
 cases d with
 |int i=>unfold Xe at r;subst r;exact⟨i,rfl,post.here p j rfl⟩
 |_=>exact ai p
def F1.go{i j:Type}{l:Hp->List af->i->j->Prop}{t:DO}{Xa μ:List af}{σ:Sg}{O:Ow}{b_:St}{H:Hp}{Q1:Option Int->Hp->Prop}{k:Option Int->Ow->R i}{Q:j->Hp->Prop}(m:oD X.K H Xa μ σ b_)(n:oB X.K H Xa μ O)
  (q:post Ex X.K l H Xa μ ((t σ O).bnd k) Q)
  (f:∀v O1 g h,oD X.K g Xa h σ b_->Ext H μ g h->oB X.K g Xa h O1->post Ex X.K l g Xa h (k v O1) Q->Q1 v g):F1 Ex X.K t b_ H Q1:=
 ⟨Xa,μ,σ,O,m,n,post.bnd q λd O1 v g h x c r p=>by
  subst r;exact f d O1 g h (m.ext x) x c p⟩
def XM:V->Option Int->Option Int->Hp->VK->Prop:=λx lo hi H Q=>∃i,x=.str i/\i.length<=J8/\Q (.str (Txt.slice i lo hi)) H
def zb7{h:aR}{sl:af}{m n:ae}{lo p:Option Int}(r:h.IsSliceOf sl m n .none)(v:jf m lo)(q:jf n p):∃l u:Option (Int×Tok),h.IsSlice sl l u YP/\l.map (·.1)=lo/\u.map (·.1)=p:=by
 obtain⟨d,g,f,k⟩:=r;cases v with
 | none=>
  cases q with
  |none=>exact⟨YP,YP,⟨d,g,f,k⟩,rfl,rfl⟩
  |int j t=>exact⟨YP,XE (j,t),⟨d,g,f,k⟩,rfl,rfl⟩
 | int i t=>
  cases q with
  |none=>exact⟨XE (i,t),YP,⟨d,g,f,k⟩,rfl,rfl⟩
  |int j t'=>exact⟨XE (i,t),XE (j,t'),⟨d,g,f,k⟩,rfl,rfl⟩
def ZU:zZ X XM:=by intro Xd s p H x v r w y z A Q I d f g j h;obtain⟨i,rfl,m,q⟩:=h;obtain⟨t,rfl⟩:=d;obtain⟨l,u,n,rfl,rfl⟩:=zb7 f g j;refine⟨"str",_,PySem.F.slot_str_getitem.lookup,typeIs_str s i t,?_⟩;exact wT I (wpAny_getItem_str_slice n rfl (post_val_or_str ⟨aG (Txt.slice_le i _ _) m,λB k C=>⟨.str _,H,I.tok k,⟨_,rfl⟩,q⟩⟩))
def HG(xs:List D)(lo hi:Option Int):List D:=(xs.drop (HT.sIx xs.length 0 lo)).take (HT.sIx xs.length xs.length hi-HT.sIx xs.length 0 lo)
def Xl(O:Ow)(x:D)(lo hi:Option Int):R D:=match x with
 |.str i=>if i.length<=4000000 then .ok (.str (Txt.slice ⟨i.toArray⟩ lo hi).cps.toList) O else .bad
 |.tup ds=>if HT.sIx ds.length 0 lo=0/\HT.sIx ds.length ds.length hi=ds.length then .bad else .ok (.tup (HG ds lo hi)) O
 | x=>match r_ O x with
  |some ds=>.ok (.lst (HG ds lo hi)) O
  |none=>.bad
def Ky(te:DE)(tl th:DO):DE:=λσ O=>(te σ O).bnd λx O1=>(tl σ O1).bnd λlo O2=>(th σ O2).bnd λhi O3=>Xl O3 x lo hi
def TH{K:aj}{ds:List D}{vs:List V}(h:oC K H Xa μ ds vs)(lo d:Option Int):oC K H Xa μ (HG ds lo d) (DD vs lo d):=by unfold HG DD;rw[h.length];exact oC.take _ (oC.drop _ h)
def Y9{lo y:Option aS}{z A:DO}{B:Pos}(C:PD X Ex e te)(m:Ds X Ex lo z)(D:Ds X Ex y A):PD X Ex (.Subscript e (.Slice lo y YP B) pos) (Ky te z A):=
 rS (zfl (zZ.or ZU (zZ.or zkV zhB)) C.out m.out D.out) λXa μ V O b_ H Q E F q=>rd.go E F q λd W v Y Z G x I r p=>F1.go G I p λl O2 H2 pW J K L M=>F1.go J L M λu O3 H3 BP e4 N h f=>by
  have j:=(r.ext K).ext N;unfold Xl at f;split at f
  ·rename_i i;unfold Xe at j;subst j;obtain⟨m.out,f⟩:=post.ite f;refine .inl ⟨_,rfl,?_,post.here f h ?_⟩
   ·show i.toArray.size<=_;rw[aP];exact zN m.out
   ·unfold Xe;rw[RW]
  ·rename_i P;obtain⟨n,t,rfl,R,k⟩:=j;split at f
   ·exact ai f
   ·rename_i S;refine .inr (.inl ⟨n,t,rfl,R.sq,by rw[<- k.length];exact S,λT g=>post.ok f (.laid g) (h.laid g) (Xe.newT h g (TH k l u))⟩)
  ·split at f
   ·rename_i P w;obtain⟨n,t,rfl,U,k⟩:=xq h j w;exact .inr (.inr ⟨n,t,rfl,U,λT g=>post.ok f (.laid g) (h.laid g) (Xe.newL h g (TH k l u))⟩)
   ·exact ai f
def HL:Ow->D->D->R D:=λO x y=>match x,y with
 |.str i,.str j=>.ok (.bl (!(b9 ⟨j.toArray⟩ ⟨i.toArray⟩ 0 j.length 1).isEmpty)) O
 |_,_=>.bad
def zjF:sF X Ex (λx y H Q=>∃i j,x=.str i/\y=.str j/\Q (.bl (!(b9 j i 0 j.length 1).isEmpty)) H) HL:=by
 intro H Xa μ O x y v w Q c d f q;unfold HL at q;split at q
 ·rename_i i j;unfold Xe at d f;subst d;subst f;refine⟨_,_,rfl,rfl,post.here q c ?_⟩;have e:(⟨j.toArray⟩:au).length=j.length:=by show j.toArray.size=_;simp
  rw[e];exact uO
 ·exact ai q
def zi3{i j:Nat}{x y:au}{t:DA}{f g h:Pos}{kt k2 CA}(l:X.calm=Y1)(m:X.N.Nodup)(n:X.N[i]?=XE x)(u:X.N[j]?=XE y)(z:i≠j)(A:X.env.scope.names.lookup x=XE .local)(B:X.env.scope.names.lookup y=XE .local)(C:tw X Ex [a,b] t)
  (D:fK [.Tuple [.Name x f,.Name y g] kt h] (.Tuple [a,b] k2 CA) X.env=pure (XE [x,y]))
  (F:fJ [.Tuple [.Name x f,.Name y g] kt h] (.Tuple [a,b] k2 CA) pos.line X.env=pure Y2:=by rfl):
  uA X Ex (.Assign [.Tuple [.Name x f,.Name y g] kt h] (.Tuple [a,b] k2 CA) pos) (HB i j t):=
 yK (YU l m n u z A B C.out D F) λXa μ G O E b_ H k I q=>⟨Xa,μ,G,O,k,I,oG.bnS q λd R S J K L M r p=>by
  split at p
  ·obtain⟨v,w,rfl,P,Q⟩:=Ap r;exact⟨v,w,rfl,p _ J K .refl (((k.ext L).set P i).set Q j) M⟩
  ·exact ai p⟩
end
def qw(K:aj)(mg:au->Option ae)(x:au)(st:cT):Prop:=∃f fd,mg x=XE (.ref f)/\L2.Fun K x x st f fd
structure Callee(P:aJ)(w:aU)(K:aj)(mg:au->Option ae)(base:aR)(x:au)(k n:Nat)(F:pY):Prop where
 ex:∃f fd ps,mg x=XE (.ref f)/\cV K (.ref f)=Y1/\Binds K fd ps []/\oP P w K mg base BO k f fd ps (Hn K KI n F)
def QX(c:Callee X.prog X.w X.K X.mg X.base x k n F)(a:oF j X.A)(b:k<=j)(d:Gl X x)(g:tw X qD (e::es) t)
  (h:rH x:=by decide) (i:aF (e::es) X.env=(Y2,eval e X.env)::aF es X.env:=by rfl) (l:(backTo pos (aF es X.env)).any (·.1)=Y2:=by rfl):
  PD X qD (.Call (.Name x p) (e::es) [] pos) (o_ n F t):=by obtain⟨f,r,s,m,o,q,G⟩:=c.ex;exact P5 (G.mono b) a d m o q PR g h i l
def OG(h:qw K mg x st)(S:rO N ps (qc st))
  (l:∀(e c g:ae)(i:Option af)(b j:ae)(d:List ae),d.length=ps.length->bindArgs (bi x x (vm st) (sT st) (qc st) .none e c g i b j) ⟨d,[]⟩=pure (ps.zip d))
  (m:∀(f:af)(b:ae)(A:aX)(a:List Env)(s:ag)(H:Hp)(E:XK),oF k (A.deeper (aV x (qc st) s.heap.objs.size f b))->r8 (EV P w K mg base N x (qc st) f b A a s H E) qD (sT st) t):
  Callee P w K mg base x (k+1) ps.length (qL N.length t):=by obtain⟨f,n,o,F⟩:=h;refine⟨f,n,ps,o,F.kp,F.binds l,?_⟩;obtain⟨u,v,e,c,g,i,b,j,y,rfl,p,q⟩:=F.ex;exact Y_ p q S λA a s H E r=>m f b A a s H E r
def Callee.imp(c:Callee P w K mg base x k n F)
  (h:∀ds O H Xa μ Q,oB K H Xa μ O->qW qD K H Xa μ (G ds O) Q->qW qD K H Xa μ (F ds O) Q):Callee P w K mg base x k n G:=by obtain⟨f,b,e,g,i,j,l⟩:=c.ex;refine⟨f,b,e,g,i,j,l.imp λo H Q E ⟨m,Xa,μ,ds,O,d,a,q⟩=>⟨m,Xa,μ,ds,O,d,a,h ds O H Xa μ Q a q⟩⟩
def Callee.bad(c:Callee P w K mg base x k n F):Callee P w K mg base x k n (λ_ _=>.bad):=
 c.imp λ_ _ _ _ _ _ _ q=>ai q
def frz(O:Ow)(n:Nat):Nat->D->Option D
 | 0,d=>match d with
  |.own k=>if k<n then XE (.own k) else YP
  |.lst _=>YP
  |.tup _=>YP
  |.map _ _=>YP
  |d=>XE d
 | f+1,d=>match d with
  | .own k=>if k<n then XE (.own k) else match O[k]? with
   |some ds=>(qe (frz O n f) ds).map .lst
   |none=>YP
  |.lst ds=>(qe (frz O n f) ds).map .lst
  |.tup ds=>(qe (frz O n f) ds).map .tup
  |.map _ _=>YP
  |d=>XE d
def uC(n:Nat)(r:R D):R D:=match r with
 | .ok d O=>match frz O n 8 d,qe (qe (frz O n 8)) (O.take n) with
  |some d',XE O'=>.ok d' O'
  |_,_=>.bad
 |r=>r
section
variable{K:aj}{H:Hp}{Xa μ ν:List af}{O:Ow}{n:Nat}
theorem FF(b:∀d d' v,f d=XE d'->Xe K H Xa μ d v->Xe K H Xa d_ d' v):∀(ds a:List D)(vs:List V),qe f ds=XE a->oC K H Xa μ ds vs->oC K H Xa d_ a vs
 |[],a,vs,e,h=>by cases e;unfold oC at h ⊢;exact h
 | d::ds,a,vs,e,h=>by
  unfold qe at e;split at e
  ·rename_i p c g i;cases e;obtain⟨v,r,rfl,j,k⟩:=h;exact .cons (b d p v g j) (FF b ds c r i k)
  ·cases e
def Ry(c:oB K H Xa (μ++ν) O)(S:μ.length=n):∀(f:Nat)(d d':D)(v:V),frz O n f d=XE d'->Xe K H Xa (μ++ν) d v->Xe K H Xa μ d' v:=by
 have s:∀{a:af},a∉μ++ν->a∉μ:=λh m=>h (bS _ m);have u:∀{k:Nat}{v:V},k<n->Xe K H Xa (μ++ν) (.own k) v->Xe K H Xa μ (.own k) v:=λ{k v}w h=>by
  obtain⟨a,rfl,e⟩:=h;rw[aI 'o'] at e;exact⟨a,rfl,e⟩
 have B:∀{v:V},Xe K H Xa (μ++ν) .dct v->Xe K H Xa μ .dct v:=λ{v}h=>by
  obtain⟨a,rfl,r,x,y⟩:=h;exact⟨a,rfl,r,x,s y⟩
 have E:∀{C:Nat}{v:V},Xe K H Xa (μ++ν) (.exn C) v->Xe K H Xa μ (.exn C) v:=λ{C v}h=>by
  obtain⟨a,G,rfl,g,r,x,y⟩:=h;exact⟨a,G,rfl,g,r,x,s y⟩
 intro f
 induction f with
 | zero=>
  intro d d' v e h;cases d with
  | own k=>
   unfold frz at e;dsimp only at e;split at e
   ·rename_i w;cases e;exact u w h
   ·cases e
  |lst o=>cases e
  |tup o=>cases e
  |dct=>cases e;exact B h
  |map ks o=>cases e
  |adr _=>cases e;unfold Xe at h ⊢;exact h
  |exn C=>cases e;exact E h
  |tab P=>cases e;unfold Xe at h ⊢;exact h
  |non=>cases e;unfold Xe at h ⊢;exact h
  |bl b=>cases e;unfold Xe at h ⊢;exact h
  |int i=>cases e;unfold Xe at h ⊢;exact h
  |str i=>cases e;unfold Xe at h ⊢;exact h
 | succ f ih=>
  intro d d' v e h;cases d with
  | own k=>
   unfold frz at e;dsimp only at e;split at e
   ·rename_i w;cases e;exact u w h
   ·rename_i w;obtain⟨a,rfl,A⟩:=h;obtain⟨o,t,I,J,L⟩:=c.at_ k a A;rw[I] at e;dsimp only at e;cases p:qe (frz O n f) o with
    |none=>rw[p] at e;cases e
    | some ps=>
     rw[p] at e;cases e;refine⟨a,t,rfl,.inl ⟨.inl J,c.nh a (aO A),λm=>?_⟩,FF ih o ps t p L⟩;obtain⟨j,F,M⟩:=cE.mp m;have N:(μ++ν)[j]?=XE a:=by rw[aI F,ao F,M]
     obtain⟨T,Q⟩:=ak.mp N;obtain⟨U,R⟩:=ak.mp A;have:=(km c.nd).mp (Q.trans R.symm);lia
  | lst o=>
   unfold frz at e;dsimp only at e;obtain⟨a,t,rfl,l,q⟩:=h;cases p:qe (frz O n f) o with
   |none=>rw[p] at e;cases e
   | some ps=>
    rw[p] at e;cases e;exact⟨a,t,rfl,l.imp (λz=>⟨z.1,z.2.1,s z.2.2⟩) id,FF ih o ps t p q⟩
  | tup o=>
   unfold frz at e;dsimp only at e;obtain⟨a,t,rfl,l,q⟩:=h;cases p:qe (frz O n f) o with
   |none=>rw[p] at e;cases e
   | some ps=>
    rw[p] at e;cases e;exact⟨a,t,rfl,l.imp (λz=>⟨z.1,z.2.1,s z.2.2⟩) id,FF ih o ps t p q⟩
  |dct=>cases e;exact B h
  |map ks o=>cases e
  |adr _=>cases e;unfold Xe at h ⊢;exact h
  |exn C=>cases e;exact E h
  |tab P=>cases e;unfold Xe at h ⊢;exact h
  |non=>cases e;unfold Xe at h ⊢;exact h
  |bl b=>cases e;unfold Xe at h ⊢;exact h
  |int i=>cases e;unfold Xe at h ⊢;exact h
  |str i=>cases e;unfold Xe at h ⊢;exact h
theorem Mi{α β:Type}{f:α->Option β}:∀{l:List α}{r:List β},qe f l=XE r->r.length=l.length
 |[],r,e=>by cases e;rfl
 | x::l,r,e=>by
  unfold qe at e;split at e
  ·rename_i p b c a;cases e;simp[Mi a]
  ·cases e
theorem Uz{α β:Type}{f:α->Option β}:∀{l:List α}{r:List β}{k:Nat}{y:β},qe f l=XE r->r[k]?=XE y->∃x,l[k]?=XE x/\f x=XE y
 |[],r,k,y,e,h=>by cases e;simp at h
 | x::l,r,k,y,e,h=>by
  unfold qe at e;split at e
  ·rename_i p g a b;cases e;cases k with
   |zero=>simp at h;subst h;exact⟨x,by simp,a⟩
   |succ k=>obtain⟨z,c,d⟩:=Uz b ⇑h;exact⟨z,by simpa using c,d⟩
  ·cases e
def Ti{j:Nat->Hp->Prop}{r:R D}{Q:VK}(g:μ.length=n)(q:qW j K H Xa μ (uC n r) Q):qW j K H Xa μ r Q:=by
 cases r with
 |bad=>exact q
 |exc c O'=>exact q
 | ok d O'=>
  intro v l G x c h;obtain⟨ν,rfl⟩:=x.pre;have b:qW j K H Xa μ (match frz O' n 8 d,qe (qe (frz O' n 8)) (O'.take n) with|some d',XE O2=>.ok d' O2|_,_=>.bad) Q:=q;cases i:frz O' n 8 d with
  |none=>rw[i] at b;exact ai b
  | some d'=>
   cases f:qe (qe (frz O' n 8)) (O'.take n) with
   |none=>rw[i,f] at b;exact ai b
   | some O2=>
    rw[i,f] at b;have u:Ext H μ l μ:=⟨⟨[],by simp⟩,x.kept,λ_ m=>.inl m,x.there,x.tab⟩;have o:=c.len.symm;have w:oB K l Xa μ O2:=by
     refine⟨?_,(gm.mp c.nd).1,λa m=>c.nh a (bS _ m),c.ht,λk a e=>?_⟩
     ·rw[Mi f,bT,o,aA,g];lia
     ·have y:=(ak.mp e).1;obtain⟨z,p,A,B,C⟩:=c.at_ k a (by rw[aI y];exact e);have s:k<O2.length:=by rw[Mi f,bT,o,aA,g];lia
      obtain⟨E,t,F⟩:=Uz f (ao s);have:E=z:=by
       rw[jK,JU 'o',A] at t;cases t;rfl
      subst this;exact⟨_,p,ao s,B,FF (Ry c g 8) _ _ p F C⟩
    exact b v l μ u w (Ry c g 8 d d' v i h)
end
def Ad(F:pY):pY:=λds O=>uC O.length (F ds O)
def Callee.frz(c:Callee P w K mg base x k n F):Callee P w K mg base x k n (Ad F):=
 c.imp λd O H a e Q b q=>Ti b.len q
noncomputable def Ph(sc scope:cf)(N':List au)(sl:n_):Bool:=
 (match scope.kind with|.function=>Y1|_=>Y2)&&decide ((scope.names.map (·.1)).Nodup)&&(scope.names.all λy=>!(y.2 == .free)||sc.names.lookup y.1==XE .cell||sc.names.lookup y.1==XE .free) &&
 (N'.zipIdx.all λp=>!((scope.names.any λy=>y.1==p.1&&y.2 == .local)||(scope.names.any λy=>y.1==p.1&&y.2 == .cell))||sl.contains p.2)
def IF(h:Ph sc scope N' sl=Y1):yu sc scope N' sl:=by
 unfold Ph at h;simp only[br,decide_eq_true_eq,ay] at h;obtain⟨⟨⟨a,b⟩,c⟩,d⟩:=h;refine⟨?_,b,λy f g=>?_,λi x j k=>?_⟩
 ·cases e:scope.kind<;>rw[e] at a<;>first|rfl|cases a
 ·have:=c y f;rw[g] at this;simpa using this
 ·have l:(x,i)∈N'.zipIdx:=by
   rw[List.mem_zipIdx_iff_getElem?];exact j
  have h:=d _ l;have n:((scope.names.any λy=>y.1==x&&y.2 == .local)||(scope.names.any λy=>y.1==x&&y.2 == .cell))=Y1:=by
   rw[kW];exact k.imp (λm=>cC.mpr ⟨_,m,by simp⟩) λm=>cC.mpr ⟨_,m,by simp⟩
  rw[n] at h;simpa using h
structure KS(mg:au->Option ae)(x:au)(cs:n_):Prop where
 ex:∃t,mg x=XE (.str ⟨cs.toArray⟩ t)
section
variable{X:Cx}{Ex:Nat->Hp->Prop}{pos:Pos}{a b c e:aS}{ta:DE}{Xd:List (af×Obj)}{b_:St}{H:Hp}{s:ag}{Xa μ:List af}{O:Ow}
def SH(h:KS X.mg x cs)(d:Gl X x:=by rfl)(f:rH x:=by decide):PD X Ex (.Name x pos) (dC (.str cs)):=by obtain⟨t,h⟩:=h.ex;exact zf8 cs d h rfl f
def D1(C C':String)(t:DE):DE:=λσ O=>(t σ O).bnd λd O1=>if (sY d == "function")=Y1 then .bad else .ok (.bl (uY (sY d) C||uY (sY d) C')) O1
def zcF:oO X (.builtin "isinstance") (λxs H Q=>∃x p C f Xa μ O d,xs=[x,.ref p]/\rW X.K H p [.ty C,.ty f]/\C∈EF/\f∈EF/\oB X.K H Xa μ O/\Xe X.K H Xa μ d x/\(sY d == "function")=Y2/\Q (.bl (uY (sY d) C||uY (sY d) f)) H):=by
 intro Xd s G H xs J Q I r h;obtain⟨x,L,C,f,Xa,μ,O,d,rfl,l,m,g,o,t,v,q⟩:=h;obtain⟨u,M,rfl,w,y⟩:=Aq r;cases y;obtain⟨T,N,Z,p,z,i⟩:=VB I o t w v;obtain⟨P,A,⟨⟨R,S,U,V⟩,B,j,n,k⟩,Y⟩:=I.tuple l;simp only at j k;subst j k;obtain⟨v1,v2,rfl,D,E⟩:=Aq A;cases D;cases E;refine wT I (PySem.W.kia_tup (b:=uY (sY d) C||uY (sY d) f) Z I.kIn p B ?_ z λF qt=>⟨.bl _,H,I.tok F,rfl,q⟩);unfold nV;rw[i _ m];cases uY (sY d) C with
 |true=>rfl
 | false=>
  dsimp only;unfold nV;rw[i _ g];cases uY (sY d) f<;>rfl
def zjx(j:PD X Ex a ta)(k:n∈EF)(m:n'∈EF)(o:Gl X "isinstance")(t:X.mg "isinstance" = YP)(u:bo "isinstance" = XE (.builtin "isinstance"))(w:Gl X C)(y:X.mg C=YP)(z:bo C=XE (.type n))
  (A:Gl X C') (B:X.mg C'=YP) (D:bo C'=XE (.type n')) (E:C ≠ "__name__":=by decide) (F:rH C:=by decide) (G:C' ≠ "__name__":=by decide) (I:(C'==("__debug__":au))=Y2:=by decide)
  (h:aF [a,.Tuple [.Name C p',.Name C' AM] kt pt] X.env=(Y2,eval a X.env)::aF [.Tuple [.Name C p',.Name C' AM] kt pt] X.env:=by rfl) (J:aF [.Tuple [.Name C p',.Name C' AM] kt pt] X.env=[(Y2,eval (.Tuple [.Name C p',.Name C' AM] kt pt) X.env)]:=by rfl)
  (K:(backTo pos (aF [.Tuple [.Name C p',.Name C' AM] kt pt] X.env)).any (·.1)=Y2:=by rfl) (L:aF [.Name C p',.Name C' AM] X.env=(Y2,eval (.Name C p') X.env)::aF [.Name C' AM] X.env:=by rfl) (M:aF [.Name C' AM] X.env=[(Y2,eval (.Name C' AM) X.env)]:=by rfl):
  PD X Ex (.Call (.Name "isinstance" p) [a,.Tuple [.Name C p',.Name C' AM] kt pt] [] pos) (D1 n n' ta):=
 rS (Fx (zcF (X:=X)) o t u (yn j.out (yn (QF (yn (IV (v:=.ty n) w y z rfl E F) (yn (IV (v:=.ty n') A B D rfl G I) B9 M) L)) B9 J) h) 's' 's' h K) λXa μ U O b_ H Q N P q=>rd.go N P q λd R v V S W x i r g=>by
  obtain⟨T,g⟩:=post.iteN g;exact⟨by show 2<=J8;decide,λl f=>⟨v,l,n,n',Xa,S,R,d,rfl,.of rG,k,m,i.laid f,r.ext (.laid f),T,post.ok g (.laid f) (i.laid f) uO⟩⟩
def Yl(O:Ow):D->R D
 |.int i=>.ok (.int (-i)) O
 |_=>.bad
def HH(t:DE):DE:=λσ O=>(t σ O).bnd λx O1=>Yl O1 x
def Y0(f:PD X Ex a ta):PD X Ex (.UnaryOp .USub a pos) (HH ta):=
 rS (Y8 Zk f.out) λXa μ k O b_ H Q g h q=>rd.go g h q λd l v m n o x j r p=>by
  cases d with
  |int i=>unfold Xe at r;subst r;exact⟨i,rfl,post.here p j sV⟩
  |_=>exact ai p
def BL:Ow->D->D->R D:=λO x y=>match y with
 |.str _=>HL O x y
 |_=>pU BE O x y
def A5:Ow->D->D->R D:=λO x y=>match y with
 | .str _=>match HL O x y with
  |.ok (.bl b) O1=>.ok (.bl (!b)) O1
  |_=>.bad
 |_=>pU DF O x y
def Rg(d:X.A.units+64<cLine):qI X (cy .In) (λx y H Q=>AL X.K BE x y H Q \/ ∃i j,x=.str i/\y=.str j/\Q (.bl (!(b9 j i 0 j.length 1).isEmpty)) H):=qI.or (zjs d) zdo
def Rf:sF X Ex (λx y H Q=>AL X.K BE x y H Q \/ ∃i j,x=.str i/\y=.str j/\Q (.bl (!(b9 j i 0 j.length 1).isEmpty)) H) BL:=by
 intro H Xa μ O x y v w Q c d f q;unfold BL at q;split at q
 ·exact .inr (zjF H Xa μ O _ _ v w Q c d f q)
 ·exact .inl (Bl H Xa μ O x y v w Q c d f q)
def SI(d:X.A.units+64<cLine):qI X (cy .NotIn) (λx y H Q=>AL X.K DF x y H Q \/ ∃i j,x=.str i/\y=.str j/\Q (.bl (!(!(b9 j i 0 j.length 1).isEmpty))) H):=qI.or (zfJ d) z7w
def Sn:sF X Ex (λx y H Q=>AL X.K DF x y H Q \/ ∃i j,x=.str i/\y=.str j/\Q (.bl (!(!(b9 j i 0 j.length 1).isEmpty))) H) A5:=by
 intro H Xa μ O x y v w Q c d f q;unfold A5 at q;split at q
 ·rename_i g;cases x with
  | str i=>
   unfold Xe at d f;subst d;subst f;refine .inr ⟨_,_,rfl,rfl,post.here q c ?_⟩;have e:(⟨g.toArray⟩:au).length=g.length:=by show g.toArray.size=_;simp
   rw[e];exact uO
  |_=>exact ai q
 ·exact .inl (Bl H Xa μ O x y v w Q c d f q)
end
section
variable{X:Cx}{Xd:List (af×Obj)}{b_:St}{H:Hp}{s:ag}
def Inv.turns(ch:List af)(I:L2.Inv X Xd b_ H s)(k:∀b o,b∉ch->s.heap.get? b=XE o->h'.get? b=XE o)(d:∀b∈ch,sS X Xd H b)(j:0<t':=by first|assumption|exact Inv.tk ‹_›):L2.Inv X Xd b_ H { s with heap:=h',toks:=t' }:=by
 have f:∀b u,H b=XE u->b∉ch:=λb u e z=>by rw[(d b z).1] at e;cases e
 have g:Un (rC X.stack) ch H H s.heap h':=⟨λb o e _ _ n=>k b o n e,λb o e _ _ n=>⟨o.slots,k b o n e⟩,λ_ _ _ n _=>n,λb o e n=>⟨o,k b o n e⟩,λ_ _ e=>e,λ_ _ _ e=>e,λb l e=>⟨#[],by rw[e];simp⟩⟩;have a:HOk X.prog X.w H h':=λb u e=>(I.hok b u e).stay (λc v h q=>k c v (by
  rcases h with z|z
  ·rw[z];exact f b u e
  ·exact f c _ z) q) (λ_ q=>q) λ_ _ q=>q
 exact I.call g a I.bare λb i=>let ⟨_,f1,_,f3,f4,f5⟩:=d b i;⟨f3,f1,f4,f5⟩
end
def Itz(K:aj)(l m:af):It:=
 ⟨λi H=>∃xs ys x y,qY K H l xs/\qY K H m ys/\xs[i]?=XE x/\ys[i]?=XE y,
   λi H v H'=>∃p x y,H p=YP/\v=.ref p/\(∀xs,qY K H l xs->xs[i]?=XE x)/\(∀ys,qY K H m ys->ys[i]?=XE y)/\H'=upd H p (.tup [x,y]),
   λi H=>∃xs ys,qY K H l xs/\qY K H m ys/\(xs.length<=i\/ys.length<=i)⟩
def pe(K:aj)(src:Src)(a:af)(H:Hp)(Xa μ:List af):Prop:=∀hid' H' d_ O',Mv H Xa μ H' hid' d_->oB K H' hid' d_ O'->∃ds vs,qY K H' a vs/\oC K H' hid' d_ ds vs/\∀i,src.get O' i=ds[i]?
section
variable{K:aj}{H:Hp}{Xa μ:List af}
def pe.own(d:μ[k]?=XE a):pe K (.own k) a H Xa μ:=by
 intro e p q f m c;obtain⟨g,rfl⟩:=m.pre;have h:(μ++g)[k]?=XE a:=by rw[aI (ak.mp d).1];exact d
 obtain⟨b,j,l,n,o⟩:=c.at_ k a h;exact⟨b,j,.of n,o,λi=>by show(match f[k]? with|some b=>b[i]?|none=>YP)=_;rw[l]⟩
def pe.mv(h:pe K src a H Xa μ)(e:Mv H Xa μ H1 x8 f_):pe K src a H1 x8 f_:=λb d f g m c=>h b d f g (e.trans m) c
def oH.zip(E:pe K s1 a H Xa μ)(F:pe K s2 b H Xa μ):oH K (Itz K a b) (.zip s1 s2) H Xa μ:=by
 intro e n o f m c i;obtain⟨G,g,h,q,I⟩:=E e n o f m c;obtain⟨J,j,k,r,L⟩:=F e n o f m c;show match (match s1.get f i,s2.get f i with|some x,XE y=>XE (D.tup [x,y])|_,_=>YP) with|some d=>_|none=>_
 rw[I,L];cases s:G[i]? with
 | none=>
  exact⟨g,j,h,k,.inl (by rw[<- q.length];exact bg.mp s)⟩
 | some x=>
  cases t:J[i]? with
  | none=>
   exact⟨g,j,h,k,.inr (by rw[<- r.length];exact bg.mp t)⟩
  | some y=>
   obtain⟨v,u,M⟩:=q.get s;obtain⟨w,A,N⟩:=r.get t;refine⟨⟨g,j,v,w,h,k,u,A⟩,λz R O=>?_⟩;obtain⟨p,S,T,l,rfl,P,Q,rfl⟩:=O;have B:=P g h;rw[u] at B;cases B;have C:=Q j k;rw[A] at C;cases C;exact⟨.laid l,c.laid l,Xe.newT c l (.cons M (.cons N .nil))⟩
end
noncomputable def Ib:D->Option Src
 |.lst ds=>XE (.val ds)
 |.own k=>XE (.own k)
 |_=>YP
def zoN(t:DA):DI:=λσ O=>(t σ O).bnd λxs O1=>match xs with
 | [x,y]=>match Ib x,Ib y with
  |some p,XE q=>.ok (.zip p q) O1
  |_,_=>.bad
 |_=>.bad
section
variable{X:Cx}{Ex:Nat->Hp->Prop}{c e:aS}{Xd:List (af×Obj)}{H:Hp}{s:ag}{Xa μ:List af}{O:Ow}
def zfd:bo "zip" = XE (.type "zip"):=by boot_by_name
def Q_{i j:Nat}{x y:au}{d f g:Pos}{h:Nat}(k:X.calm=Y1)(b:X.N.Nodup)(l:X.N[i]?=XE x)(m:X.N[j]?=XE y)(n:Loc X.env.scope x)(o:Loc X.env.scope y)
  (p:X.fn x=Y1\/X.env.scope.names.lookup x=XE .local) (a:X.fn y=Y1\/X.env.scope.names.lookup y=XE .local):PG X (.Tuple [.Name x d,.Name y f] h g) ((Tg.two i j).rd X.K):=
 Z5 k (T6 (IS b l n p) (T6 (IS b m o a) zjj))
def yg:List D->Option (List Int)
 |[]=>XE []
 |.int i::r=>(yg r).map (i :: ·)
 |_=>YP
theorem LW:∀{ds:List D}{vs:List V}{ns:List Int},oC K H Xa μ ds vs->yg ds=XE ns->vs=ns.map V.int
 |[],vs,ys,h,e=>by unfold oC at h;subst h;cases e;rfl
 | d::ds,vs,ys,h,e=>by
  obtain⟨v,r,rfl,a,b⟩:=h;cases d with
  | int i=>
   unfold yg at e;cases q:yg ds with
   |none=>rw[q] at e;cases e
   | some zs=>
    rw[q] at e;cases e;unfold Xe at a;subst a;rw[LW b q];rfl
  |_=>cases e
def Au:Ow->List D->R D:=λO xs=>match xs with
 | [.str cs]=>match lA ⟨cs.toArray⟩ with
  |some n=>if cs.length<=640 then .ok (.int n) O else .bad
  |none=>.bad
 |xs=>K4 O xs
def zdY:oO X (.type "int") (λxs H Q=>∃x n,xs=[.str x]/\lA x=XE n/\x.length<=640/\Q (.int n) H):=by intro Xd s d H xs f Q I r h;obtain⟨x,n,rfl,a,b,q⟩:=h;obtain⟨u,rfl,t,rfl⟩:=vC r;exact PySem.W.KIN.call_text a b ⟨.int _,H,I.tok _,⟨_,rfl⟩,q⟩
noncomputable def Qs:List V->Hp->VK->Prop:=λxs H Q=>((∃i,xs=[.int i]/\Q (.int i) H) \/ ∃k,xs=[.bl k]/\Q (.int (if k then 1 else 0)) H) \/ ∃x n,xs=[.str x]/\lA x=XE n/\x.length<=640/\Q (.int n) H
def zdR:oO X (.type "int") Qs:=oO.or zcg zdY
def zi2:vg X Ex Qs Au:=by
 intro H Xa μ O i b Q c d q;unfold Au at q;split at q
 ·rename_i f;obtain⟨v,rfl,a⟩:=uE d;unfold Xe at a;subst a;split at q
  ·rename_i n g;obtain⟨h,q⟩:=post.ite q;refine .inr ⟨_,n,rfl,g,?_,post.here q c sV⟩;show f.toArray.size<=640;simpa using h
  ·exact ai q
 ·exact .inl (zkd H Xa μ O _ b Q c d q)
end
def Callee.self(c:Callee P w K mg base x k n F):Callee P w K mg base x k n F:=c
section
variable{X:Cx}{Ex:Nat->Hp->Prop}{pos G9:Pos}{e o i:aS}{ti:DE}{Xd:List (af×Obj)}{b_:St}{H:Hp}{s:ag}{Xa μ:List af}{O:Ow}
def TR:uA X Ex (.Pass pos) qS:=yK ziA λXa μ c O E b_ H a b q=>q b_ H μ .refl a b
def KN:DE:=λ_ O=>.ok .dct O
def zk5:PD X Ex (.Dict [] [] pos) KN:=
 rS zfP λXa μ c O b_ H Q d b q=>λp a=>post.ok q (.laid a) (b.laid a) (by
  unfold Xe;exact⟨p,rfl,.inl rG,b.not_in a⟩)
def BV(tab:List (Int×Int)):List (Key×V):=tab.map λkv=>(g7 kv.1,V.int kv.2)
noncomputable def uM(tab:List (Int×Int))(i:Int):Option Int:=(tab.find? λkv=>kv.1==i).map (·.2)
def EX(tab:List (Int×Int))(i:Int):Option Int:=match ue (Ax [] (BV tab)) (g7 i) with
 |some (.int v)=>XE v
 |_=>YP
def Qt(at_:List (Int×Int)->Int->Option Int)(tab:List (Int×Int))(t:DE):DE:=λσ O=>(t σ O).bnd λx O1=>match x with
 | .int i=>match at_ tab i with
  |some v=>.ok (.int v) O1
  |none=>.bad
 |_=>.bad
def E6:List (Int×Int)->DE->DE:=Qt EX
def EY:List (Int×Int)->DE->DE:=Qt uM
theorem VX:∀{tab:List (Int×Int)},Q (tab.map λkv=>(V.int kv.1,V.int kv.2)) H->Fe (tab.map λkv=>(tC (.int kv.1),tC (.int kv.2))) σ H Q
 |[],h=>h
 | kv::r,h=>by
  show Fe (r.map λkv=>(tC (.int kv.1),tC (.int kv.2))) σ H λa b=>Q ((V.int kv.1,V.int kv.2)::a) b;exact VX (tab:=r) h
def ZH(tab:List (Int×Int))(h:Hg X G9 keys values AK)(c:AK=tab.map λkv=>(tC (.int kv.1),tC (.int kv.2)))(l:keys.all (·.isSome)=Y1)(m:keys.length=values.length)(h0:keys≠[])(n:keys.length<=15)(t:tab.length<=15)
  (u:X.A.units+1<cLine) (x:PD X Ex i ti) (y:Dx i):PD X Ex (.Subscript (.Dict keys values G9) i pos) (E6 tab ti):=
 rS (zhK u (ziV h l m h0 n) x.out y) λXa μ J O b_ H Q z g q=>λp f=>by
  subst c;refine VX ⟨rG,BV tab,by simp[BV,kV],by simpa [BV] using t,?_⟩;rw[ziC];have k:Ext H μ (upd H p (.dK (Ax [] (BV tab)))) μ:=.laid f;refine rd.go (z.ext k) (g.laid f) (post.ext q k) λd B v C D L E F r a=>?_;cases d with
  | int j=>
   unfold Xe at r;subst r;have a:qW Ex X.K C Xa D (match EX tab j with|some v=>.ok (.int v) B|none=>.bad) Q:=a;cases b:EX tab j with
   |none=>rw[b] at a;exact ai a
   | some v=>
    rw[b] at a;have G:ue (Ax [] (BV tab)) (g7 j)=XE (.int v):=by
     unfold EX at b;split at b
     ·rename_i w I;cases b;exact I
     ·cases b
    refine⟨p,.int v,rfl,.inl ⟨Ax [] (BV tab),g7 j,.inl (E.keep p _ rG (g.not_in f).2),rfl,G.symm⟩,post.here a F sV⟩
  |_=>exact ai a
noncomputable def HM:List DictEntry->List (Int×Int)->Bool
 |[],[]=>Y1
 |e::es,(k,v)::r=>(match e.key with|.int i _=>i==k|_=>Y2)&&(e.hash==hashInt k)&&(match e.val with|.int i _=>i==v|_=>Y2)&&HM es r
 |_,_=>Y2
def HF(o:Obj)(tab:List (Int×Int)):Bool:=(match o.cls with|.type n=>n == "dict"|_=>Y2)&&o.dict.isNone&&o.slots.isEmpty&&decide ((tab.map (·.1)).Nodup)&&(match o.data with|.dict es _=>HM es.toList tab|_=>Y2)
structure BX(K:aj)(mg:au->Option ae)(x:au)(tab:List (Int×Int)):Prop where
 ex:∃e o,mg x=XE (.ref e)/\K.lookup e=XE o/\HF o tab=Y1/\(e==sysModules)=Y2
theorem Vt:∀{f:List DictEntry}{tab:List (Int×Int)},HM f tab=Y1->∃a:List (Int×ae),Pairs (intKind P w) f a/\(∀e∈f,∃k,(intKind P w).is k e.key=Y1/\e.hash=(intKind P w).hash k)/\a.map (·.1)=tab.map (·.1)/\
  ∀i,(valueAt a i).isSome=(uM tab i).isSome/\∀v,uM tab i=XE v->∃t,valueAt a i=XE (.int v t)
 |[],[],_=>⟨[],.nil,by simp,rfl,λi=>⟨rfl,λv h=>by cases h⟩⟩
 |[],_::_,h=>by cases h
 |_::_,[],h=>by cases h
 | e::f,(k,v)::r,h=>by
  obtain⟨b,key,x⟩:=e;unfold HM at h;simp at h;obtain⟨⟨⟨c,g⟩,d⟩,y⟩:=h;split at c
  ·rename_i i t;split at d
   ·rename_i j u;have c:i=k:=⇑c
    have g:b=hashInt k:=⇑g
    have d:j=v:=⇑d
    subst c d;obtain⟨a,p,z,A,l⟩:=Vt y;have n:(intKind P w).is i (.int i t)=Y1:=by show iD i (.int i t)=Y1;simp[iD]
    refine⟨(i,.int j u)::a,.cons n rfl p,λe he=>?_,by simp[A],λq=>?_⟩
    ·rcases ar.mp he with rfl|he
     ·exact⟨i,n,g⟩
     ·exact z e he
    ·unfold valueAt uM;by_cases m:i=q
     ·subst m;simp
     ·have B:(decide ((i,n9 j u).1=q))=Y2:=⇑m
      have C:((i,j).1==q)=Y2:=⇑m
      rw[eN,eN,B,C];exact l q
   ·cases d
  ·cases c
def zfH{P:aJ}{w:aU}{o:Obj}{tab:List (Int×Int)}(h:HF o tab=Y1):∃f:Int->Option ae,(∀(b:aR)(e:af),b.get? e=XE o->b.MapOf (intKind P w) e f)/\∀i,(f i).isSome=(uM tab i).isSome/\∀v,uM tab i=XE v->∃t,f i=XE (.int v t):=by
 obtain⟨m,k,l,c⟩:=o;unfold HF at h;simp at h;obtain⟨⟨⟨⟨a,q⟩,r⟩,u⟩,d⟩:=h;split at a
 ·rename_i n;have a:n = "dict":=⇑a
  split at d
  ·rename_i x y;obtain⟨z,p,A,B,g⟩:=Vt d;refine⟨valueAt z,λb e j=>?_,g⟩;refine Heap.DictOf.mapOf ⟨_,x,y,j,⟨?_,?_,?_⟩,rfl,?_,p,by rw[B];exact u⟩
   ·show fu n=_;rw[a]
   ·simpa using q
   ·simpa using r
   ·intro e j;exact A e ⇑j
  ·cases d
 ·cases a
def RO(h:BX X.K X.mg x tab):∃e,X.mg x=XE (.ref e)/\(e==sysModules)=Y2/\∃f:Int->Option ae,(∀(Xd:List (af×Obj))(b_:St)(H:Hp)(s:ag),L2.Inv X Xd b_ H s->s.heap.MapOf (intKind X.prog X.w) e f)/\
  ∀i,(f i).isSome=(uM tab i).isSome/\∀v,uM tab i=XE v->∃t,f i=XE (.int v t):=by obtain⟨e,o,b,c,d,g⟩:=h.ex;obtain⟨f,m,a⟩:=zfH d;exact⟨e,b,g,f,λXd b_ H s I=>m _ e (I.kIn e o c),a⟩
def MB(i:Int)(t:Tok):(intKind P w).is i (.int i t)=Y1:=by show iD i (.int i t)=Y1;simp[iD]
def zju(h:BX X.K X.mg x tab)(B:Gl X x)(C:PD X Ex i ti)(D:Dx i)(E:rH x:=by decide):PD X Ex (.Subscript (.Name x p) i pos) (EY tab ti):=by
 obtain⟨e,F,V,f,G,k⟩:=RO h;refine⟨?_⟩;rintro Xd s b_ H Q I ⟨Xa,μ,W,O,J,L,q⟩;refine LK hV.lookup D (IL (v:=.ref e) B F rfl E Xd s b_ H (λv l=>v=.ref e/\l=H) I ⟨rfl,rfl⟩ |> λz=>pS z λu N ⟨v,l,P,m,R,S⟩=>?_);subst R S;cases m;refine pS (C.out Xd N b_ l _ P (rd.go J L q (Q1:=λy b=>∃Xa c g d,oB X.K b Xa c g/\Xe X.K b Xa c d y/\qW Ex X.K b Xa c (match d with|.int i=>(match uM tab i with|some v=>.ok (.int v) g|none=>.bad)|_=>.bad) Q)
  λd g y b c Y Z n r a=>⟨Xa,c,g,d,n,r,a⟩)) λu T ⟨y,b,A,m,Xa,c,g,d,n,r,a⟩=>?_
 have M:=G Xd b_ b T A;cases d with
 | int j=>
  unfold Xe at r;subst r;obtain⟨t,rfl⟩:=m;have a:qW Ex X.K b Xa c (match uM tab j with|some v=>.ok (.int v) g|none=>.bad) Q:=a;cases w:uM tab j with
  |none=>rw[w] at a;exact ai a
  | some v=>
   rw[w] at a;obtain⟨t',U⟩:=(k j).2 v w;exact⟨M.typeIs,ko (MB j t) M U ⟨.int v,b,A.tok _,⟨_,rfl⟩,post.here a n sV⟩⟩
 |_=>exact ai a
def Az(neg:Bool)(tab:List (Int×Int))(t:DE):DE:=λσ O=>(t σ O).bnd λx O1=>match x with
 |.int i=>.ok (.bl (if neg=Y1 then !(uM tab i).isSome else (uM tab i).isSome)) O1
 |_=>.bad
def S9(a:Bool)(h:BX X.K X.mg x tab)(B:Gl X x)(C:PD X Ex i ti)(D:rH x:=by decide):PC X (if a=Y1 then .NotIn else .In) i (.Name x p) (rd Ex X.K (Az a tab ti)):=by
 obtain⟨e,E,A,f,F,n⟩:=RO h;rintro Xd s b_ H Q I ⟨Xa,μ,W,O,G,J,q⟩;refine pS (C.out Xd s b_ H _ I (rd.go G J q (Q1:=λy c=>∃Xa g k d,oB X.K c Xa g k/\Xe X.K c Xa g d y/\qW Ex X.K c Xa g (match d with|.int i=>.ok (.bl (if a=Y1 then !(uM tab i).isSome else (uM tab i).isSome)) k|_=>.bad) Q)
  λd k y c g Y Z l r b=>⟨Xa,g,k,d,l,r,b⟩)) λu L ⟨y,c,N,P,Xa,g,k,d,l,r,b⟩=>?_
 refine pS (IL (v:=.ref e) B E rfl D Xd L b_ c (λv R=>v=.ref e/\R=c) N ⟨rfl,rfl⟩) λw S ⟨v,m,z,T,U,V⟩=>?_;subst U V;cases T;have M:=F Xd b_ m S z;cases d with
 | int j=>
  unfold Xe at r;subst r;obtain⟨t,rfl⟩:=P;have b:qW Ex X.K m Xa g (.ok (.bl (if a=Y1 then !(uM tab j).isSome else (uM tab j).isSome)) k) Q:=b;rw[<- (n j).1] at b;cases a with
  |false=>exact wpAny_in_of (MB j t) A M ⟨.bl _,m,z.tok _,rfl,post.here b l uO⟩
  |true=>exact wpAny_notIn_of (MB j t) A M ⟨.bl _,m,z.tok _,rfl,post.here b l uO⟩
 |_=>exact ai b
def zcW(h:BX X.K X.mg x tab)(a:Gl X x)(b:PD X Ex i ti)(c:rH x:=by decide)(d:behindInMarks .NotIn (.Name x p)=Y2:=by rfl):PD X Ex (.Compare i [.NotIn] [.Name x p] pos) (Az Y1 tab ti):=⟨Zj (S9 Y1 h a b c) d⟩
def YC(a:oD X.K H Xa μ σ b_)(b:oB X.K H Xa μ O)(q:yf Ex X.K H Xa μ (qd td σ O) Q):tB (rd Ex X.K td) b_ H Q:=
 TY (λXa μ σ O b_ H Q a b q=>⟨Xa,μ,σ,O,a,b,q⟩) Xa μ σ O b_ H Q a b q
def zbn(h:BX X.K X.mg x tab)(a:Gl X x)(b:PD X Ex i ti)(c:rH x:=by decide)(d:behindInMarks .NotIn (.Name x p)=Y2:=by rfl):rF X Ex (.Compare i [.NotIn] [.Name x p] pos) (qd (Az Y1 tab ti)):=
 Il (zkY (S9 Y1 h a b c) d) λXa μ j O b_ H Q f g q=>YC f g q
end
end DL
namespace DL
open PySem L2 PyProof.Rows
noncomputable def vf:List D->Option l_
 |[]=>XE []
 |.str cs::r=>(vf r).map (cs :: ·)
 |_=>YP
section
variable{H:Hp}{Xa μ:List af}
theorem IZ{K:aj}:∀{ds:List D}{vs:List V}{a:l_},oC K H Xa μ ds vs->vf ds=XE a->vs=a.map λcs=>V.str ⟨cs.toArray⟩
 |[],vs,ys,h,e=>by unfold oC at h;subst h;cases e;rfl
 | d::ds,vs,ys,h,e=>by
  unfold oC at h;obtain⟨v,r,rfl,b,c⟩:=h;cases d with
  | str cs=>
   unfold vf at e;cases q:vf ds with
   |none=>rw[q] at e;cases e
   | some zs=>
    rw[q] at e;cases e;unfold Xe at b;subst b;rw[IZ c q];rfl
  |_=>cases e
def Rj:bo "len" = XE (.builtin "len"):=by boot_by_name
def zkM:bo "all" = XE (.builtin "all"):=by boot_by_name
def YZ:bo "any" = XE (.builtin "any"):=by boot_by_name
def Rk:bo "int" = XE (.type "int"):=by boot_by_name
def ZA:bo "str" = XE (.type "str"):=by boot_by_name
def Jg:bo "tuple" = XE (.type "tuple"):=by boot_by_name
def RM:bo "list" = XE (.type "list"):=by boot_by_name
def ZC:bo "max" = XE (.builtin "max"):=by boot_by_name
def Iq:bo "min" = XE (.builtin "min"):=by boot_by_name
def Vi:bo "sorted" = XE (.builtin "sorted"):=by boot_by_name
def Cp:bo "isinstance" = XE (.builtin "isinstance"):=by boot_by_name
def zjG:bo "bool" = XE (.type "bool"):=by boot_by_name
def ziJ:bo "dict" = XE (.type "dict"):=by boot_by_name
end
end DL
namespace DL
def zhz{α:Type}(a ds:List α)(d:α):(a++d::ds)[a.length]?=XE d:=by simp
theorem UE:∀(ds b a:List D)(f:Nat),ds.length<=f->(∀d∈ds,∀a:List D,a.length<4000000->step d O a=.ok (a++g d) O)->a.length+(ds.flatMap g).length+ds.length<4000000->
  q0 (.val (b++ds)) step f b.length O a=.ok (a++ds.flatMap g) O
 | [],b,a,f,_,_,_=>by
  cases f<;>(unfold q0;simp[Src.get])
 |d::ds,b,a,0,h,_,_=>by simp at h
 | d::ds,b,a,f+1,h,hs,hl=>by
  unfold q0;have e:Src.get (.val (b++d::ds)) O b.length=XE d:=zhz b ds d;rw[e];simp only[dh,aA,aT] at hl;show((step d O a).bnd λc i=>q0 (.val (b++d::ds)) step f (b.length+1) i c)=_;rw[hs d av a 'o'];show q0 (.val (b++d::ds)) step f (b.length+1) O (a++g d)=_;have:=UE ds (b++[d]) (a++g d) f ⇑h (λj k=>hs j (al _ k)) (by rw[aA];lia);rw[bh,List.singleton_append,aA,fB] at this;rw[this];simp
def U7(n:it0 σ O=.ok (.val ds) O)(u:ds.length<1900000)
  (q:∀d∈ds,uD ts ((qH (qH (σ++aw ext YP) [i]) [i]).set i (XE d)) O=.ok (p d) O) (r:∀d∈ds,p d=Y1->te ((qH (qH (σ++aw ext YP) [i]) [i]).set i (XE d)) O=.ok (e d) O) (o:Bool):
  qE o ext it0 (.one i) ts [] te σ O=yd o (.ok ((ds.filter p).map e) O):=by
 unfold qE Cb;rw[n];show yd o (zQ (q0 (.val ds) _ ds.length 0 O []))=_;have c:∀d∈ds,∀a:List D,a.length<4000000->An ⟨it0,.one i,ts⟩ [] te (qH (σ++aw ext YP) (qz [⟨it0,.one i,ts⟩])) d O a=.ok (a++(if p d=Y1 then [e d] else [])) O:=by
  intro d j a s;show(match Tg.put (.one i) d (qH (qH (σ++aw ext YP) [i]) [i]) with|some qv=>(uD ts qv O).bnd λb k=>if b=Y1 then xo [] te qv k a else .ok a k|none=>.bad)=_;show(uD ts ((qH (qH (σ++aw ext YP) [i]) [i]).set i (XE d)) O).bnd _=_;rw[q d j];show(if p d=Y1 then xo [] te _ O a else .ok a O)=_;by_cases f:p d=Y1
  ·rw[JU f,JU f];unfold xo;rw[r d j f];show(if a.length<4000000 then _ else _)=_;rw[JU s]
  ·rw[J5 f,J5 f];simp
 have m:∀l:List D,(l.flatMap λd=>if p d=Y1 then [e d] else [])=(l.filter p).map e:=by
  intro l
  induction l with
  |nil=>rfl
  | cons x l ih=>
   rw[dh,ih,eD];by_cases h:p x=Y1
   ·rw[JU h,JU h];rfl
   ·rw[J5 h,J5 h];rfl
 have g:((ds.filter p).map e).length<=ds.length:=by rw[aD];exact bD _ _
 have w:=UE ds [] [] ds.length (aB _) c (by rw[m];simp at g ⊢;lia);rw[gd,m,gd] at w;have t:q0 (.val ds) (An ⟨it0,.one i,ts⟩ [] te (qH (σ++aw ext YP) (qz [⟨it0,.one i,ts⟩]))) ds.length 0 O []=.ok ((ds.filter p).map e) O:=w;rw[t];rfl
theorem UM(I:Nat->Sg->Ow->Prop)(h:∀i σ O d,I i σ O->ds[i]?=XE d->∃σ' a,step d σ O=.nx σ' a/\I (i+1) σ' a):
  ∀(f i:Nat)(σ:Sg)(O:Ow),I i σ O->ds.length<=i+f->i<=ds.length->∃σ' a,uN (.val ds) step f i σ O=.nx σ' a/\I ds.length σ' a
 | 0,i,σ,O,hI,h1,h2=>by
  have:i=ds.length:=by lia
  subst this;refine⟨σ,O,?_,hI⟩;unfold uN;have e:Src.get (.val ds) O ds.length=YP:=by simp[Src.get]
  rw[e]
 | f+1,i,σ,O,hI,h1,h2=>by
  unfold uN;have b:Src.get (.val ds) O i=ds[i]?:=rfl;rw[b];cases e:ds[i]? with
  | none=>
   have:i=ds.length:=by have:=bg.mp e;lia
   subst this;exact⟨σ,O,rfl,hI⟩
  | some d=>
   obtain⟨σ',a,c,g⟩:=h i σ O d hI e;dsimp only;rw[c];exact UM I h f (i+1) σ' a g 'o' (by have:=(ak.mp e).1;lia)
def xK(n:Nat):D->Bool
 |.own k=>decide (k<n)
 |.lst _=>Y2
 |.tup _=>Y2
 |.map _ _=>Y2
 |_=>Y1
def zw(O:Ow):Prop:=∀c∈O,∀d∈c,xK O.length d=Y1
def AF(h:xK n d=Y1):frz O n f d=XE d:=by
 cases d with
 | own k=>
  have h:k<n:=by simpa [xK] using h
  cases f<;>(unfold frz;dsimp only;rw[JU h])
 |lst ds=>cases h
 |tup ds=>cases h
 |map _ _=>cases h
 |_=>cases f<;>rfl
theorem uQ{α:Type}{f:α->Option α}:∀{l:List α},(∀x∈l,f x=XE x)->qe f l=XE l
 |[],_=>rfl
 | x::l,h=>by
  unfold qe;rw[h x av,uQ λy a=>h y (al _ a)]
def Jr{a:Ow}{d:D}{cs:List D}(b:∀c∈a,∀d∈c,xK a.length d=Y1)(X:Ow)(h:frz (a++X) a.length 8 d=XE (.lst cs)):uC a.length (.ok d (a++X))=.ok (.lst cs) a:=by
 unfold uC;dsimp only;rw[h];have:(a++X).take a.length=a:=by simp
 rw[this,uQ λc e=>uQ λd f=>AF (b c e d f)]
section
variable{σ σ':Sg}{O O1 O2:Ow}{t u ta tb:DE}{tA:DA}{x y:D}{b:Bool}{ds:List D}
def pR(h:t σ O=.ok x O1):a_ t c_ σ O=.ok [x] O1:=by show((t σ O).bnd _)=_;rw[h];rfl
def rm(a:t σ O=.ok x O1)(c:u σ O1=.ok y O2):a_ t (a_ u c_) σ O=.ok [x,y] O2:=by show((t σ O).bnd _)=_;rw[a];show((a_ u c_ σ O1).bnd _)=_;rw[pR c];rfl
def L_(a:t σ O=.ok x O1)(c:tA σ O1=.ok ds O2):a_ t tA σ O=.ok (x::ds) O2:=by show((t σ O).bnd _)=_;rw[a];show((tA σ O1).bnd _)=_;rw[c];rfl
def yj(h:tA σ O=.ok ds O1)(a:ds.length=n):o_ n F tA σ O=F ds O1:=by show((tA σ O).bnd _)=_;rw[h];show(if ds.length=n then _ else _)=_;rw[JU a]
def xr(h:tA σ O=.ok ds O1):pP f tA σ O=f O1 ds:=by show((tA σ O).bnd _)=_;rw[h];rfl
def rp(a:ta σ O=.ok x O1)(c:tb σ O1=.ok y O2):g_ f ta tb σ O=f O2 x y:=by show((ta σ O).bnd _)=_;rw[a];show((tb σ O1).bnd _)=_;rw[c];rfl
def sH(h:t σ O=.ok (.bl b) O1):qd t σ O=.ok b O1:=by show((t σ O).bnd _)=_;rw[h];rfl
def xN(h:t σ O=.ok (.bl b) O1):rl t σ O=.ok b O1:=by show((t σ O).bnd _)=_;rw[h];rfl
def Bv(h:c σ O=.ok b O1):uZ c σ O=.ok (!b) O1:=by show((c σ O).bnd _)=_;rw[h];rfl
def vP(h:t σ O=.ok (.lst ds) O1):qy t σ O=.ok (.val ds) O1:=by show((t σ O).bnd _)=_;rw[h];rfl
def Cc(h:t σ O=.ok (.tup ds) O1):qy t σ O=.ok (.val ds) O1:=by show((t σ O).bnd _)=_;rw[h];rfl
def AD(h:t σ O=.ok x O1):p_ i t σ O=.nx (σ.set i (XE x)) O1:=by show((t σ O).bnS _)=_;rw[h];rfl
def tI(h:t σ O=.ok x O1):pT t σ O=.rt x O1:=by show((t σ O).bnS _)=_;rw[h];rfl
def Mp(h:t σ O=.ok x O1):tG t σ O=.nx σ O1:=by show((t σ O).bnS _)=_;rw[h];rfl
def ug(h:c σ O=.ok b O1):qT c a d σ O=if b=Y1 then a σ O1 else d σ O1:=by show((c σ O).bnS _)=_;rw[h];rfl
def tJ(h:a σ O=.nx σ' O1):pL a d σ O=d σ' O1:=by show(match a σ O with|.nx σ' O'=>_|r=>r)=_;rw[h]
def Fp(h:a σ O=.rt x O1):pL a d σ O=.rt x O1:=by show(match a σ O with|.nx σ' O'=>_|r=>r)=_;rw[h]
def RU(h:it σ O=.ok src O1):t6 it g body σ O=uN src (λd σ O=>match g.put d σ with|some σ'=>body σ' O|none=>.bad) (src.size O1) 0 σ O1:=by show((it σ O).bnS _)=_;rw[h];rfl
def zJ(h:tA σ O=.ok [.int (n:Nat)] O1)(c:n<100000):tD tA σ O=.ok (.val ((aW n).map λ(i:Nat)=>D.int (i:Int))) O1:=by
 have a:-1000000<=((n:Nat):Int)/\((n:Nat):Int)<=1000000:=by constructor<;>lia
 unfold tD;rw[h];dsimp only[R.bnd];rw[JU a];unfold Fi;have d:(((n:Nat):Int)-0).toNat=n:=by lia
 congr 2;refine jq λi _=>?_;rw[Int.zero_add]
def Ux(h:cs.length<=4000000):qu O [.str cs]=.ok (.int cs.length) O:=by show(if cs.length<=4000000 then R.ok (D.int cs.length) O else R.bad)=_;rw[JU h]
def RK{cs:n_}{i:Nat}(h:cs.length<=4000000)(a:i<cs.length):qi O (.str cs) (.int (i:Int))=.ok (.str [cs[i]]) O:=by show(if cs.length<=4000000 then (match L2.atI cs (i:Int) with|some ch=>R.ok (D.str [ch]) O|none=>R.bad) else R.bad)=_;rw[JU h,L2.atI_nat (ao a)]
def IM(a:i<ds.length):qi O (.tup ds) (.int (i:Int))=.ok ds[i] O:=by show(match L2.atI ds (i:Int) with|some d=>R.ok d O|none=>R.bad)=_;rw[L2.atI_nat (ao a)]
def IP(a:i<ds.length):qi O (.lst ds) (.int (i:Int))=.ok ds[i] O:=by show(match L2.atI ds (i:Int) with|some d=>R.ok d O|none=>R.bad)=_;rw[L2.atI_nat (ao a)]
end
theorem TB(O:Ow)(n:Nat):∀l:List Int,qe (qJ O n) (l.map D.int)=XE (l.map jW)
 |[]=>rfl
 | x::l=>by
  have e:qJ O n (.int x)=XE (.int x):=by cases n<;>rfl
  show qe (qJ O n) (D.int x::l.map D.int)=_;unfold qe;rw[e,TB O n l];rfl
def ZP(O:Ow)(l:List Int):pU rV O (.lst (l.map D.int)) (.lst [])=.ok (.bl l.isEmpty) O:=by
 unfold pU py;have e:qJ O 8 (.lst (l.map D.int))=XE (.list (l.map jW)):=by
  show(qe (qJ O 7) (l.map D.int)).map eE=_;rw[TB];rfl
 rw[e];cases l<;>rfl
theorem Uy{α:Type}{src:Src}{step:D->Ow->List D->R (List D)}{O:Ow}{inj:α->D}{g:α->List D}{j:List α}(k:∀i,src.get O i=(j.map inj)[i]?):∀(ds c:List α)(b:List D)(f:Nat),j=c++ds->ds.length<=f->
  (∀a∈ds,∀b:List D,b.length<4000000->step (inj a) O b=.ok (b++g a) O)->b.length+(ds.flatMap g).length+ds.length<4000000->q0 src step f c.length O b=.ok (b++ds.flatMap g) O
 | [],c,b,f,ha,_,_,_=>by
  have e:src.get O c.length=YP:=by rw[k,ha];simp
  cases f<;>(unfold q0;rw[e];simp)
 |d::ds,c,b,0,_,h,_,_=>by simp at h
 | d::ds,c,b,f+1,ha,h,hs,hl=>by
  unfold q0;have e:src.get O c.length=XE (inj d):=by rw[k,ha];simp
  rw[e];simp only[dh,aA,aT] at hl;show((step (inj d) O b).bnd λl m=>q0 src step f (c.length+1) m l)=_;rw[hs d av b 'o'];show q0 src step f (c.length+1) O (b++g d)=_;have:=Uy k ds (c++[d]) (b++g d) f (by rw[ha];simp) ⇑h (λn o=>hs n (al _ o)) (by rw[aA];lia);rw[aA,fB] at this;rw[this];simp
theorem MN{α β:Type}(p:α->Bool)(e:α->β):∀l:List α,(l.flatMap λd=>if p d=Y1 then [e d] else [])=(l.filter p).map e
 |[]=>rfl
 | x::l=>by
  rw[dh,MN p e l,eD];by_cases a:p x=Y1
  ·rw[JU a,JU a];rfl
  ·rw[J5 a,J5 a];rfl
def L8{α:Type}{ext:Nat}{it0:DI}{g:Tg}{ts:List DT}{te:DE}{σ:Sg}{O O0:Ow}{src:Src}{l:List α}{inj:α->D}{p:α->Bool}{e:α->D}{τ:α->Sg}{o:Bool}(m:it0 σ O0=.ok src O)(n:∀i,src.get O i=(l.map inj)[i]?)(q:src.size O=l.length)(x:l.length<1900000)
  (r:∀a∈l,g.put (inj a) (qH (qH (σ++aw ext YP) (g.slots++[])) (g.slots++[]))=XE (τ a)) (s:∀a∈l,uD ts (τ a) O=.ok (p a) O) (t:∀a∈l,p a=Y1->te (τ a) O=.ok (e a) O):
  qE o ext it0 g ts [] te σ O0=yd o (.ok ((l.filter p).map e) O):=by
 unfold qE Cb;rw[m];show yd o (zQ (q0 src _ (src.size O) 0 O []))=_;have d:∀a∈l,∀c:List D,c.length<4000000->An ⟨it0,g,ts⟩ [] te (qH (σ++aw ext YP) (qz [⟨it0,g,ts⟩])) (inj a) O c=.ok (c++(if p a=Y1 then [e a] else [])) O:=by
  intro a j c u;show(match g.put (inj a) (qH (qH (σ++aw ext YP) (g.slots++[])) (g.slots++[])) with|some qv=>(uD ts qv O).bnd λb k=>if b=Y1 then xo [] te qv k c else .ok c k|none=>.bad)=_;rw[r a j];show(uD ts (τ a) O).bnd _=_;rw[s a j];show(if p a=Y1 then xo [] te _ O c else .ok c O)=_;by_cases f:p a=Y1
  ·rw[JU f,JU f];unfold xo;rw[t a j f];show(if c.length<4000000 then _ else _)=_;rw[JU u]
  ·rw[J5 f,J5 f];simp
 have h:((l.filter p).map e).length<=l.length:=by rw[aD];exact bD _ _
 have w:=Uy n l [] [] l.length rfl (aB _) d (by rw[MN];simp at h ⊢;lia);rw[MN,gd] at w;have v:q0 src (An ⟨it0,g,ts⟩ [] te (qH (σ++aw ext YP) (qz [⟨it0,g,ts⟩]))) (src.size O) 0 O []=.ok ((l.filter p).map e) O:=by rw[q];exact w
 rw[v];rfl
section
variable{α:Type}{ext:Nat}{it0:DI}{i:Nat}{t:DT}{te:DE}{σ:Sg}{O O0:Ow}{l:List α}{inj:α->D}{p:α->Bool}{e:α->D}{τ:α->Sg}{o:Bool}
def Tq{σ:Sg}{O:Ow}{b:Bool}(h:t σ O=.ok b O):uD [t] σ O=.ok b O:=by show((t σ O).bnd _)=_;rw[h];cases b<;>rfl
def yh(b:it0 σ O0=.ok (.val (l.map inj)) O)(c:l.length<1900000)(d:∀a,(qH (qH (σ++aw ext YP) [i]) [i]).set i (XE (inj a))=τ a)(f:∀a∈l,t (τ a) O=.ok (p a) O)(g:∀a∈l,p a=Y1->te (τ a) O=.ok (e a) O):
  qE o ext it0 (.one i) [t] [] te σ O0=yd o (.ok ((l.filter p).map e) O):=
 L8 b (λ_=>rfl) (by show(l.map inj).length=_;simp) c (λa _=>congrArg XE (d a)) (λa h=>Tq (f a h)) g
def zC(c:it0 σ O0=.ok (.val (l.map inj)) O)(d:l.length<1900000)(f:∀a,(qH (qH (σ++aw ext YP) [i]) [i]).set i (XE (inj a))=τ a)(h:∀a∈l,te (τ a) O=.ok (e a) O):
  qE o ext it0 (.one i) [] [] te σ O0=yd o (.ok (l.map e) O):=by have:=L8 (o:=o) (g:=.one i) (ts:=[]) c (λ_=>rfl) (by show(l.map inj).length=_;simp) d (λa _=>congrArg XE (f a)) (λa b=>rfl) λa b _=>h a b;rw[this,List.filter_eq_self.mpr (λ_ _=>rfl)]
end
def Bo{α:Type}{it:DI}{i:Nat}{body:DS}{σ:Sg}{O0 O:Ow}{l:List α}{inj:α->D}(g:it σ O0=.ok (.val (l.map inj)) O)(I:Nat->Sg->Ow->Prop)(h:∀(k:Nat)a σ O,l[k]?=XE a->I k σ O->∃σ' b,body (σ.set i (XE (inj a))) O=.nx σ' b/\I (k+1) σ' b)(h0:I 0 σ O):
  ∃σ' b,t6 it (.one i) body σ O0=.nx σ' b/\I l.length σ' b:=by
 obtain⟨σ',b,m,f⟩:=UM (step:=λd σ O=>match Tg.put (.one i) d σ with|some σ'=>body σ' O|none=>.bad) I (λj σ O d n c=>by
  rw[bC] at c;cases e:l[j]? with
  |none=>rw[e] at c;cases c
  | some a=>
   rw[e] at c;cases c;exact h j a σ O e n) (l.map inj).length 0 σ O h0 'd' (bX _)
 rw[aD] at f;exact⟨σ',b,(RU g).trans m,f⟩
theorem Uo:∀l:List Bool,yt (l.map D.bl)=XE l
 |[]=>rfl
 | x::l=>by
  show(yt (l.map D.bl)).map (x :: ·)=_;rw[Uo l];rfl
def TN{α:Type}(O:Ow)(l:List α)(p:α->Bool):Dz O [.lst (l.map λa=>D.bl (p a))]=.ok (.bl (l.any p)) O:=by
 show(match yt (l.map λa=>D.bl (p a)) with|some bs=>R.ok (D.bl (bs.any id)) O|none=>R.bad)=_;have:(l.map λa=>D.bl (p a))=(l.map p).map D.bl:=by rw[bB];rfl
 rw[this,Uo];show R.ok (D.bl _) O=_;rw[List.any_map];rfl
end DL
namespace DL
open PySem L2
structure xE(h0:aR)(H:Hp)(h:aR)(a:af)(C:ae):Prop where
 ex:∃oe vs,h.get? a=XE oe/\(oe.cls=C/\oe.dict=YP)/\oe.data=.fields vs/\1<vs.size/\(vs[1]?=XE .none \/ ∃T oT ts,vs[1]?=XE (.ref T)/\T≠a/\h0.get? T=YP/\H T=YP/\h.get? T=XE oT/\oT.data=.fields ts/\ts[3]?=XE .none)
 new:h0.get? a=YP
 free:H a=YP
def zee(o:Obj)(f):(o.mapFields f).dict=o.dict:=by obtain⟨c,d,a,b⟩:=o;cases a<;>rfl
structure Kp(h0:aR)(H:Hp)(fs:List af)(h h':aR):Prop where
 keep:∀b o,h.get? b=XE o->b∉fs->(H b≠YP\/h0.get? b≠YP)->h'.get? b=XE o
 slot:∀b o,h.get? b=XE o->b∈fs->∃sl,h'.get? b=XE { o with slots:=sl }
 there:∀b o,h.get? b=XE o->∃o',h'.get? b=XE o'
 size:h.objs.size<=h'.objs.size
section
variable{M:iu}{A:aX}{E:ae->ag->Prop}{s:ag}{base h0:aR}{H:Hp}{env:Env}{outer:List Env}{L a:af}{C:ae}{Q:Unit->ag->Prop}
def RG(R:A.frames=XE (env::outer))(y:s.heap.FunFrames base (env::outer))(S:env.frame=XE L)(B:s.heap.get? a=XE oe)(D:oe.cls=C/\oe.dict=YP)(t:oe.data=.fields vs)(n:1<vs.size)(k:h0.get? a=YP)(d:H a=YP)
  (T:∀b,s.heap.objs.size<=b->H b=YP) (U:∀b,s.heap.objs.size<=b->h0.get? b=YP) (h:∀h',Kp h0 H (rC (env::outer)) s.heap h'->xE h0 H h' a C->Q () { s with heap:=h' }):
  aq M A (do let f <- frameOf env;let g <- entryPlaceOf L hn;let b <- mi head f .none (dr L) .none g;setField (.ref a) 1 b) (λ_ s'=>aq M A (setFlight (.ref a) YP) Q E s') E s:=by
 have l:a∉rC (env::outer):=λV=>by
  obtain⟨_,o,F,W⟩:=y.mem V;rw[B] at F;cases F;exact W vs t
 refine aa (wpAny_frameOf_fun R y S λc ⟨u,G,I⟩=>aa (wpAny_entryPlaceOf λg X=>?_));unfold mi newFields;refine aa (cx ?_ (X.sizeOk5 _ _ _ _ _));have J:c.get? a=XE oe:=(G a l).trans B;generalize Y:({ cls:=.type "traceback",dict:=YP,data:=.fields ([head,.ref L,.none,dr L,.none]++(if g.isEmpty then aw 6 cZ else g)).toArray }:Obj)=m;have p:m.data=.fields ([head,.ref L,.none,dr L,.none]++(if g.isEmpty then aw 6 cZ else g)).toArray:=by rw[<- Y]
 have K:=ah (h:=c) m J;refine gD K t n ?_;have r:c.objs.size≠a:=dO (aK J);have v:=dF t (·.setIfInBounds 1 (c8 c.objs.size));have w:=bM (fL (·.setIfInBounds 1 (c8 c.objs.size))) K (d0 v);have N:((c.push m).update a (fL (·.setIfInBounds 1 (c8 c.objs.size)))).get? c.objs.size=XE m:=(bb _ _ (bw r)).trans (aM c (d0 p));unfold setFlight;refine aa (bF w v (x:=.ref c.objs.size) (by simp[n]) ?_);rw[JU (show(c8 c.objs.size !=cZ)=Y1 by simp)];have O:3<([head,.ref L,.none,dr L,.none]++(if g.isEmpty then aw 6 cZ else g)).toArray.size:=by simp only[aP,aA,aT,dE];lia
 refine gD N p O (h _ ?_ ?_)
 ·have j:∀b o,b≠a->c.get? b=XE o->(((c.push m).update a (fL (·.setIfInBounds 1 (c8 c.objs.size)))).update c.objs.size (fL (·.setIfInBounds 3 ((YP:Option af).elim cZ λf=>dr f)))).get? b=XE o:=λb o i e=>by
   rw[bb _ _ (dO (aK e)),bb _ _ (bw i)];exact ah _ e
  refine⟨λb o e i Z=>j b o (λz=>?_) ((G b i).trans e),λb o e i=>?_,λb o e=>?_,?_⟩
  ·subst z;rcases Z with q|q
   ·exact q d
   ·exact q k
  ·obtain⟨P,q⟩:=I b o e;exact⟨P,j b _ (λz=>l (z▸i)) q⟩
  ·by_cases i:b=a
   ·subst i;exact⟨_,(bb _ _ r).trans w⟩
   ·obtain⟨P,q⟩:=I b o e;exact⟨_,j b _ i q⟩
  ·rw[gN,gN,cJ,u];exact fU _
 ·refine⟨⟨_,_,(bb _ _ r).trans w,⟨(mQ _ _).trans D.1,(zee _ _).trans D.2⟩,v,by simpa using n,.inr ⟨c.objs.size,_,_,by simp[n],r,?_,T _ (by rw[u];exact aB _),bM _ N (d0 (dF p _)),dF p _,?_⟩⟩,k,d⟩
  ·exact U _ (by rw[u];exact aB _)
  ·rw[iF];rw[JU O];rfl
def Lq(y:A.frames=XE (env::outer))(t:s.heap.FunFrames base (env::outer))(u:env.frame=XE L)(x:xE h0 H s.heap a C)(B:∀b,s.heap.objs.size<=b->H b=YP)(D:∀b,s.heap.objs.size<=b->h0.get? b=YP)
  (h:∀h',Kp h0 H (rC (env::outer)) s.heap h'->xE h0 H h' a C->Q () { s with heap:=h' }):aq M A (noteFrame (.ref a) env) (λ_ s'=>aq M A (setFlight (.ref a) YP) Q E s') E s:=by
 obtain⟨⟨V,F,p,G,r,I,P⟩,f,d⟩:=x;unfold noteFrame;simp only[u];rcases P with v|⟨T,W,J,v,R,g,S,i,j,K⟩
 ·refine aa (bF p r v ?_);rw[J5 's'];exact RG y t u p G r I f d B D h
 ·refine aa (bF p r v ?_);rw[JU (show(c8 T !=cZ)=Y1 by simp)];refine aa (bF i j K ?_);rw[J5 (show ¬ ((cZ==dr L)=Y1) by simp[dr])];refine aa (gD i j (eC.mp K).1 ?_);have k:∀b,b≠T->(s.heap.update T (fL (·.setIfInBounds 3 cZ))).get? b=s.heap.get? b:=λb c=>bb _ _ (bw c);have l:∀b o,s.heap.get? b=XE o->(∀F,o.data ≠ .fields F)->b≠T:=λb o c m z=>by
   subst z;rw[i] at c;cases c;exact m J j
  have w:(s.heap.update T (fL (·.setIfInBounds 3 cZ))).objs.size=s.heap.objs.size:=gN ..;refine RG (s:={ s with heap:=s.heap.update T (fL (·.setIfInBounds 3 cZ)) }) y (t.of_keeps λb o c m=>⟨o,(k b (l b o c m)).trans c,rfl⟩) u ((k a (bw R)).trans p) G r I f d (λb c=>B b (by rw[<- w];exact c)) (λb c=>D b (by rw[<- w];exact c)) λh' n U=>h h' ⟨λb o e c N=>?_,λb o e c=>?_,λb o e=>?_,by rw[<- w];exact n.size⟩ U
  ·refine n.keep b o ((k b λz=>?_).trans e) c N;subst z;rcases N with q|q
   ·exact q S
   ·exact q g
  ·refine n.slot b o ((k b λz=>?_).trans e) c;subst z;obtain⟨_,X,O,m⟩:=t.mem c;rw[i] at O;cases O;exact m J j
  ·by_cases c:b=T
   ·subst c;exact n.there b _ (bM _ i (d0 (dF j _)))
   ·exact n.there b o ((k b c).trans e)
end
open PyProof.Rows (AllBare)
def rK(P:aJ)(w:aU)(Cl:Nat->ae):xh:=λouter H s E e s'=>∃a c H',e=.ref a/\s'.os=s.os/\0<s'.toks/\gA s'.gens/\Un (rC outer) [] H H' s.heap s'.heap/\HOk P w H' s'.heap/\xE s.heap H' s'.heap a (Cl c)/\E (Cl c) YP H'
abbrev Xk(Cl:Nat->ae)(E:XK):Nat->Hp->Prop:=λc H=>E (Cl c) YP H
def Hf(X:Cx)(Ex:Nat->Hp->Prop)(Cl:Nat->ae):Prop:=∀(Xd:List (af×Obj))(σ:St)(H:Hp)(s:ag)(a:af)(c:Nat),Inv X Xd σ H s->xE X.s₀.heap H s.heap a (Cl c)->Ex c H->X.xe (.ref a) s
def HOk.here(x:L2.HOk P w H h)(e:h.get? a=YP):H a=YP:=by
 cases q:H a with
 |none=>rfl
 | some o=>
  exfalso;have y:=x a o q;have b:∀u,h.get? a=XE u->False:=λu z=>by rw[e] at z;cases z
  cases o with
  |lst xs=>obtain⟨_,_,_,_,e⟩:=y;exact b _ e
  |tup xs=>obtain⟨_,_,_,_,e,_⟩:=y;exact b _ e
  |dK i_=>obtain⟨_,_,_,_,o,_,_,e,_⟩:=y;exact b _ e
  |dT i_=>obtain⟨_,_,_,_,o,_,_,e,_⟩:=y;exact b _ e
  |set S n=>obtain⟨o,_,_,_,e,_⟩:=y;exact b _ e
  |ins C dx fs=>obtain⟨_,_,_,e,_⟩:=y;exact b _ e
  |own y'=>obtain⟨_,e⟩:=y;exact b _ e
  |xd fs=>obtain⟨_,⟨_,_,_,e,_⟩,_⟩:=y;exact b _ e
  |rng lo hi=>obtain⟨_,_,_,e⟩:=y;exact b _ e
  |frz ob u=>obtain⟨e,_⟩:=y;exact b _ e
  |tbl ps=>exact b _ (show h.get? a=XE _ from y)
  |met f y'=>exact b _ (show h.get? a=XE _ from y)
  |ext φ=>obtain⟨_,⟨_,e⟩,_⟩:=y;exact b _ e
def Kp.hok(k:Kp h0 H fs h h')(x:L2.HOk P w H h)(c:∀b∈fs,H b=YP):L2.HOk P w H h':=λa o e=>
 (x a o e).stay (λb u hb q=>k.keep b u q (λz=>by
  rcases hb with rfl|hb
  ·rw[c _ z] at e;cases e
  ·rw[c _ z] at hb;cases hb) (.inl (by
  rcases hb with rfl|hb
  ·rw[e];exact λz=>nomatch z
  ·rw[hb];exact λz=>nomatch z))) (λ_ q=>q) λ_ _ q=>q
def xE.older(x:xE g H h a C)(k:∀b o,h0.get? b=XE o->∃j,g.get? b=XE j):xE h0 H h a C:=by
 have c:∀b,g.get? b=YP->h0.get? b=YP:=λb e=>by
  cases q:h0.get? b with
  |none=>rfl
  |some o=>obtain⟨j,z⟩:=k b o q;rw[e] at z;cases z
 obtain⟨⟨l,m,n,p,s,t,u⟩,i,d⟩:=x;refine⟨⟨l,m,n,p,s,t,u.imp id λ⟨T,v,w,g,y,f,r⟩=>⟨T,v,w,g,y,c T f,r⟩⟩,c a i,d⟩
section
variable{P:aJ}{w:aU}{K:aj}{mg:au->Option ae}{base:aR}{N:List au}{qual:au}{scope:cf}{f:af}{cd:ae}{A:aX}{outer:List Env}{s:ag}{H:Hp}{E:XK}{Cl:Nat->ae}
def Bj:Hf (zy (rK P w Cl) P w K mg base N qual scope f cd A outer s H E) (Xk Cl E) Cl:=by
 intro t Q k i a c I x q;generalize d:zy (rK P w Cl) P w K mg base N qual scope f cd A outer s H E=X at I x ⊢;have u:(A.deeper (aV qual scope s.heap.objs.size f cd)).frames=XE (aV qual scope s.heap.objs.size f cd::outer):=by have:=I.ok.frames;rw[<- d] at this;exact this
 have v:i.heap.FunFrames base (aV qual scope s.heap.objs.size f cd::outer):=by have:=I.stack;rw[<- d] at this;exact this
 have y:∀b∈rC (aV qual scope s.heap.objs.size f cd::outer),k b=YP:=by have:=I.stkFree;rw[<- d] at this;exact this
 have l:HOk P w k i.heap:=by have:=I.hok;rw[<- d] at this;exact this
 have j:Un (rC outer) [] H k s.heap i.heap:=by have:=I.base;rw[<- d] at this;exact this
 have B:i.os=s.os:=by have:=I.os;rw[<- d] at this;exact this
 have C:s.heap.objs.size<=i.heap.objs.size:=by have:=I.sz;rw[<- d] at this;exact this
 have R:k s.heap.objs.size=YP:=by have:=I.free;rw[<- d] at this;exact this
 have g:xE s.heap k i.heap a (Cl c):=by rw[<- d] at x;exact x
 have D:=I.bare;rw[<- d];show aq (ax P w) (A.deeper (aV qual scope s.heap.objs.size f cd)) (leaving (aV qual scope s.heap.objs.size f cd) (.ref a)) (λ_ p=>rK P w Cl outer H s E (.ref a) p) (λF p=>rK P w Cl outer H s E F p) i;unfold leaving;refine aa (Lq u v rfl g (λb h=>l.fresh h) (λb h=>i9 (aG C h)) λS m G=>?_);refine⟨a,c,k,rfl,B,I.tk,D,?_,m.hok l y,G,q⟩;refine⟨λb o e n h g=>?_,λb o e n h g=>?_,λb o e n g=>j.free b o e n g,λb o e g=>?_,j.tups,j.frzs,j.tbls⟩
 ·refine m.keep b o (j.keep b o e n h g) (λz=>?_) (.inr (by rw[e];exact λz=>nomatch z));have J:b∈s.heap.objs.size::rC outer:=z;rcases ar.mp J with z2|z2
  ·exact absurd (aK e) (by rw[z2];exact cw _)
  ·exact h z2
 ·obtain⟨T,r⟩:=j.slot b o e n h g;obtain⟨L,M⟩:=m.slot b _ r (show b∈s.heap.objs.size::rC outer from al _ h);exact⟨L,M⟩
 ·obtain⟨O,r⟩:=j.there b o e g;exact m.there b O r
end
section
variable{X:Cx}{Cl:Nat->ae}{E:XK}
def ym(g:X.ex=[])(h:Hf X (Xk Cl E) Cl):Bn (rK X.prog X.w Cl) X E:=by rintro d j H s e k I ⟨a,c,l,rfl,m,r,f,n,i,x,q⟩;have p:Inv X d j l k:=I.call' (ch:=[]) m n i f (λb z=>absurd z 'd');exact h d j l k a c p (x.older λb o e=>I.base.there b o e (by rw[g];simp)) q
def S4:Bn (rK X.prog X.w Cl) X E0:=by rintro b g H s e h I ⟨a,c,i,rfl,j,k,d,l,f,x,q⟩;exact ai q
end
abbrev Hz:List ae:=[.type "ValueError",.type "Exception",.type "BaseException",.type "object"]
abbrev K0(mg:au->Option ae)(base:aR)(x:au)(C:af):Prop:=PyProof.Rows.OwnCls x C Hz "ValueError.__new__" mg base
section
variable{X:Cx}{Ex:Nat->Hp->Prop}{Cl:Nat->ae}
def II(c:Nat)(t:DA):DS:=λσ O=>(t σ O).bnS λxs O1=>if xs.length<=1000 then .exc c O1 else .bad
def zev(I:Inv X Xd σ H s)(b:X.ex=[])(m:Heap.MadeExcOf s.heap h' a C vs):xE X.s₀.heap H h' a C:=by
 obtain⟨t,c,d,e⟩:=m.there;refine⟨⟨_,_,c,⟨rfl,rfl⟩,rfl,by simp,.inl rfl⟩,?_,HOk.here I.hok m.new⟩;cases q:X.s₀.heap.get? a with
 |none=>rfl
 | some o=>
  obtain⟨f,z⟩:=I.base.there a o q (by rw[b];simp);rw[m.new] at z;cases z
def ze7(E:Hf X Ex Cl)(l:X.ex=[])(F:Cl c=.ref C)(f:K0 X.mg X.base x C)(G:X.calm=Y1)(J:Gl X x)(L:tw X Ex (e::es) t)
  (M:rH x:=by decide) (he:aF (e::es) X.env=(Y2,eval e X.env)::aF es X.env:=by rfl) (P:(backTo p9 (aF (e::es) X.env)).any (·.1)=Y2:=by rfl) (n:∃y b,backTo p9 (aF (e::es) X.env)=(Y2,y)::b:=by exact⟨_,_,rfl⟩):
  uA X Ex (.Raise (XE (.Call (.Name x np) (e::es) [] p9)) YP pos) (II c t):=by
 refine⟨?_⟩;rintro d s u H D I ⟨g,v,w,O,Q,R,q⟩;obtain⟨bm,N,nm,S,bs,hdct,sn,sub,ab,col,dd,k0,k1,k2,k3,k5,mN,T,U,o,z⟩:=f.obj;refine wpAny_Raise_call_subU (nm:=nm) (q:=S) (N:=N) (bs:=bs) (hdct:=hdct) (sn:=sn) (sub:=sub) (ab:=ab) (col:=col) (dd:=dd) (k0:=k0) (k1:=k1) (k2:=k2) (k3:=k3) (k5:=k5) jY (bmB:=Hz) (by rfl) jY (z.hasType (by rfl)) (I.ok.hd G) P o (Fq I J f.bound ⟨rfl,?_⟩ M);have A:=L.out p9 d s u H (λp h=>p.length<=1000/\Ex c h) I ⟨g,v,w,O,Q,R,oG.bnS (q:oG Ex X.K H g v (II c t w O) D) λV O1 p h W x2 Y Z k=>by
  by_cases i:V.length<=1000
  ·rw[JU i] at k;exact⟨by rw[<- Z.length];exact i,k h W .refl Y⟩
  ·rw[J5 i] at k;exact ai k⟩
 obtain⟨y,b,hb⟩:=n;rw[hb] at A ⊢;refine kM (pS A λus B ⟨p,h,j,r,i,hx⟩=>⟨rfl,aG (by rw[<- r.length];exact i) 's',j.bk _ _ T,U.keeps j.bk,z.keeps j.bk,λh' a m=>?_⟩);exact E d u h { B with heap:=h' } a c (j.kept (t':=B.toks) m.keeps) (by rw[F];exact zev j l m) hx
end
abbrev uz(Cl:Nat->ae)(P:aJ)(w:aU)(K:aj)(mg:au->Option ae)(base:aR)(N:List au)(qual:au)(scope:cf)(f:af)(k_:ae)(A:aX)(outer:List Env)(s:ag)(H:Hp)(E:XK):Cx:=
 zy (rK P w Cl) P w K mg base N qual scope f k_ A outer s H E
def zjh{Cl:Nat->ae}{P:aJ}{w:aU}{K:aj}{c:au->Option ae}{base:aR}{N:List au}{b:au}{scope:cf}{f:af}{d:ae}{A:aX}{a:List Env}{s:ag}{H:Hp}{E:XK}:
  jG (ax P w) (uz Cl P w K c base N b scope f d A a s H E).A (uz Cl P w K c base N b scope f d A a s H E).env (uz Cl P w K c base N b scope f d A a s H E).xe:=
 PassesOwn.leaving (Q₁:=λe g=>rK P w Cl a H s E e g) (E₁:=λh g=>rK P w Cl a H s E h g)
def Y6{Cl:Nat->ae}{P:aJ}{w:aU}{K:aj}{u:au->Option ae}{base:aR}{k:Nat}{f:af}{name a:au}{g:eG}{body:List cT}{scope:cf}{y z i B j ct F:ae}{C G:Option af}{I:Array (Option ae)}{N o:List au}{t:DS}
  (J:K.lookup f=XE ⟨F,G,.func (bi name a g body scope y z i B C j ct),I⟩) (L:cX K j a=Y1) (S:rO N o scope)
  (M:∀(A:aX)(b:List Env)(s:ag)(H:Hp)(E:XK),oF k (A.deeper (aV a scope s.heap.objs.size f j))->r8 (uz Cl P w K u base N a scope f j A b s H E) (Xk Cl E) body t):
  oP P w K u base (rK P w Cl) (k+1) f (bi name a g body scope y z i B C j ct) o (Hn K (Xk Cl) o.length (qL N.length t)):=by
 refine rq J L S (λR H Q E h=>h.1) λA b s H R Q E T h=>?_;obtain⟨W,p,U,D,O,d,c,q⟩:=h;refine⟨_,(M A b s H E T).out,p,U,_,O,FO d N,c,?_⟩;unfold qL at q;generalize t (D.map XE++aw (N.length-D.length) YP) O=r at q;cases r with
 |nx σ O'=>exact λX l m x e n=>q .non l m x n AB
 |rt d' O'=>exact λv l m x n r=>q v l m x n r
 |bk σ O'=>exact ai q
 |ct σ O'=>exact ai q
 |exc n O'=>exact λl m x V=>q l m x V
 |bad=>exact ai q
structure oJ(Cl:Nat->ae)(P:aJ)(w:aU)(K:aj)(mg:au->Option ae)(base:aR)(x:au)(k n:Nat)(F:pY):Prop where
 ex:∃f fd ps,mg x=XE (.ref f)/\cV K (.ref f)=Y1/\Binds K fd ps []/\oP P w K mg base (rK P w Cl) k f fd ps (Hn K (Xk Cl) n F)
def IJ{Cl:Nat->ae}{X:Cx}{E:XK}{x:au}{k j n:Nat}{F:pY}{p pos:Pos}{e:aS}{a:List aS}{t:DA}(c:oJ Cl X.prog X.w X.K X.mg X.base x k n F)(b:Bn (rK X.prog X.w Cl) X E)(d:oF j X.A)(g:k<=j)(h:Gl X x)(i:tw X (Xk Cl E) (e::a) t)
  (l:rH x:=by decide) (m:aF (e::a) X.env=(Y2,eval e X.env)::aF a X.env:=by rfl) (o:(backTo pos (aF a X.env)).any (·.1)=Y2:=by rfl):
  PD X (Xk Cl E) (.Call (.Name x p) (e::a) [] pos) (o_ n F t):=by obtain⟨f,u,v,q,r,s,G⟩:=c.ex;exact P5 (Ec:=Xk Cl) (E:=E) (G.mono g) d h q r s b i l m o
def SE{Cl:Nat->ae}{X:Cx}{x:au}{k j n:Nat}{F:pY}{p pos:Pos}{e:aS}{a:List aS}{t:DA}(c:oJ Cl X.prog X.w X.K X.mg X.base x k n F)(b:oF j X.A)(d:k<=j)(f:Gl X x)(g:tw X qD (e::a) t)
  (h:rH x:=by decide) (i:aF (e::a) X.env=(Y2,eval e X.env)::aF a X.env:=by rfl) (l:(backTo pos (aF a X.env)).any (·.1)=Y2:=by rfl):
  PD X qD (.Call (.Name x p) (e::a) [] pos) (o_ n F t):=IJ (E:=E0) c S4 b d f g h i l
def fnX{Cl:Nat->ae}{P:aJ}{w:aU}{K:aj}{g:au->Option ae}{base:aR}{k:Nat}{x:au}{b:cT}{N d:List au}{t:DS}(h:qw K g x b)(S:rO N d (qc b))
  (o:∀(j e l:ae)(m:Option af)(c n:ae)(i:List ae),i.length=d.length->bindArgs (bi x x (vm b) (sT b) (qc b) .none j e l m c n) ⟨i,[]⟩=pure (d.zip i))
  (p:∀(f:af)(c:ae)(A:aX)(a:List Env)(s:ag)(H:Hp)(E:XK),oF k (A.deeper (aV x (qc b) s.heap.objs.size f c))->r8 (uz Cl P w K g base N x (qc b) f c A a s H E) (Xk Cl E) (sT b) t):
  oJ Cl P w K g base x (k+1) d.length (qL N.length t):=by obtain⟨f,q,r,F⟩:=h;refine⟨f,q,d,r,F.kp,F.binds o,?_⟩;obtain⟨z,B,j,e,l,m,c,n,C,rfl,u,v⟩:=F.ex;exact Y6 u v S λA a s H E y=>p f c A a s H E y
section
variable{Cl:Nat->ae}{P:aJ}{w:aU}{K:aj}{mg:au->Option ae}{base:aR}{k n:Nat}{x:au}{F G:pY}
def oJ.imp(c:oJ Cl P w K mg base x k n F)(h:∀ds O H Xa μ a Q,oB K H Xa μ O->qW a K H Xa μ (G ds O) Q->qW a K H Xa μ (F ds O) Q):oJ Cl P w K mg base x k n G:=by obtain⟨f,e,g,i,j,l,m⟩:=c.ex;refine⟨f,e,g,i,j,l,m.imp λp H Q E ⟨o,Xa,μ,ds,O,d,b,q⟩=>⟨o,Xa,μ,ds,O,d,b,h ds O H Xa μ _ Q b q⟩⟩
def oJ.bad(c:oJ Cl P w K mg base x k n F):oJ Cl P w K mg base x k n (λ_ _=>.bad):=c.imp λ_ _ _ _ _ _ _ _ q=>ai q
def oJ.self(c:oJ Cl P w K mg base x k n F):oJ Cl P w K mg base x k n F:=c
end
noncomputable def HD(f:Nat->Option Bool):D->Option Bool
 |.exn C=>f C
 |.non=>XE Y2
 |_=>YP
def vL(f:Nat->Option Bool)(t:DE):DE:=λσ O=>(t σ O).bnd λd O1=>match HD f d with
 |some b=>.ok (.bl b) O1
 |none=>.bad
section
variable{X:Cx}{Ex:Nat->Hp->Prop}{pos:Pos}{a:aS}{ta:DE}
def TQ(f:Nat->Option Bool)(m:∀u,RelV cv u->u=cval)(n:a7 X.K (.type "NoneType") cval=XE Y2)(o:∀C b,f C=XE b->a7 X.K (.ref C) cval=XE b):
  oO X (.builtin "isinstance") (λxs H Q=>∃x Xa μ O d b,xs=[x,cv]/\oB X.K H Xa μ O/\Xe X.K H Xa μ d x/\HD f d=XE b/\Q (.bl b) H):=by
 intro j s A H xs B Q I r h;obtain⟨x,Xa,μ,O,d,b,rfl,D,c,e,q⟩:=h;obtain⟨u,E,rfl,l,t⟩:=Aq r;obtain rfl:=m _ t;cases d with
 | non=>
  unfold Xe at c;subst c;cases l;cases e;exact wT I (kU mL I.kIn eQ n (λz=>nomatch z) λi v=>⟨.bl _,H,I.tok i,rfl,q⟩)
 | exn C=>
  unfold Xe at c;obtain⟨p,F,rfl,⟨k,g⟩,w,_⟩:=c;cases l;obtain⟨y,_⟩:=Rd.ok w I.hok;exact wT I (kU (QR k) I.kIn (g _ y) (o C b e) (λz=>nomatch z) λi v=>⟨.bl _,H,I.tok i,rfl,q⟩)
 |_=>cases e
def Se:∀Xa μ σ O g H Q,oD X.K H Xa μ σ g->oB X.K H Xa μ O->qW Ex X.K H Xa μ (vL f ta σ O) Q->rd Ex X.K ta g H λv c=>∃x Xa μ O d b,[v,cv]=[x,cv]/\oB X.K c Xa μ O/\Xe X.K c Xa μ d x/\HD f d=XE b/\Q (.bl b) c:=
 λXa μ σ O g H Q j k q=>rd.go j k q λd l v c m n x i r e=>by
  cases h:HD f d with
  |none=>rw[h] at e;exact ai e
  |some b=>rw[h] at e;exact⟨v,Xa,m,l,d,b,rfl,i,r,h,post.here e i uO⟩
def zhP(d:PD X Ex a ta)(e:Gl X "isinstance")(g:X.mg "isinstance" = YP)(h:bo "isinstance" = XE (.builtin "isinstance"))(i:Gl X x)(j:X.mg x=XE (.ref C0))
  (k:a7 X.K (.type "NoneType") (.ref C0)=XE Y2) (l:∀C b,f C=XE b->a7 X.K (.ref C) (.ref C0)=XE b)
  (m:rH x:=by decide) (c:aF [a,.Name x p'] X.env=(Y2,eval a X.env)::aF [.Name x p'] X.env:=by rfl) (n:aF [.Name x p'] X.env=[(Y2,eval (.Name x p') X.env)]:=by rfl) (o:(backTo pos (aF [.Name x p'] X.env)).any (·.1)=Y2:=by rfl):
  PD X Ex (.Call (.Name "isinstance" p) [a,.Name x p'] [] pos) (vL f ta):=
 rS (Fx (TQ (X:=X) (cv:=.ref C0) (cval:=.ref C0) f (λu r=>by cases r;rfl) k l) e g h (yn d.out (yn (IL (v:=.ref C0) i j rfl m) B9 n) c) 's' 's' c o) Se
def zht(d:PD X Ex a ta)(e:Gl X "isinstance")(g:X.mg "isinstance" = YP)(h:bo "isinstance" = XE (.builtin "isinstance"))(i:Gl X x)(j:X.mg x=YP)(k:bo x=XE (.type n))
  (l:a7 X.K (.type "NoneType") (.type n)=XE Y2) (m:∀C b,f C=XE b->a7 X.K (.ref C) (.type n)=XE b) (o:x ≠ "__name__":=by decide)
  (q:rH x:=by decide) (c:aF [a,.Name x p'] X.env=(Y2,eval a X.env)::aF [.Name x p'] X.env:=by rfl) (s:aF [.Name x p'] X.env=[(Y2,eval (.Name x p') X.env)]:=by rfl) (t:(backTo pos (aF [.Name x p'] X.env)).any (·.1)=Y2:=by rfl):
  PD X Ex (.Call (.Name "isinstance" p) [a,.Name x p'] [] pos) (vL f ta):=
 rS (Fx (TQ (X:=X) (cv:=.ty n) (cval:=.type n) f (λu r=>by cases r;rfl) l m) e g h (yn d.out (yn (IV (v:=.ty n) i j k rfl o q) B9 s) c) 's' 's' c t) Se
end
open PyProof.Rows (AllBare IntsAre)
section
variable{X:Cx}{Xd:List (af×Obj)}{σ:St}{H:Hp}{s:ag}
def Inv.fake(I:L2.Inv X Xd σ H s)(e:X.N[i]?=XE x)(f:¬ sD X.env.scope x):L2.Inv X Xd (σ.set i (XE v)) H s:=by
 obtain⟨m,g,h⟩:=I.loc;refine⟨I.ok,I.os,I.bare,I.base,⟨m,g,λj y w a b c=>?_⟩,I.cell,I.free,I.freeC,I.pin,I.hok,by rw[cL];exact I.len,I.tk⟩;by_cases d:j=i
 ·subst d;rw[e] at a;cases a;exact absurd c f
 ·rw[aZ (bw d)] at b;exact h j y w a b c
def sE.fake(a:X.N[i]?=XE x)(b:¬ sD X.env.scope x)(h:sE X body t):sE X body λD σ H=>t D (σ.set i (XE v)) H:=
 λXd s σ H D I q=>h Xd s _ H D (Inv.fake I a b) q
end
def oQ.empty(h:H P=XE (.tbl #[])):oQ H P:=⟨#[],h,trivial,λa b e=>by cases e⟩
noncomputable def DJ(K:aj)(Ec:XK->Nat->Hp->Prop)(n:Nat)(P:af)(F:pY):Sp:=λvs H Q E=>vs.length=n/\∃Xa μ ds O,oC K H Xa μ ds vs/\oB K H Xa μ O/\oQ H P/\qW (Ec E) K H Xa μ (F ds O) Q
def vN(n i:Nat)(P:Nat)(t:DS):pY:=λds O=>fin (t ((ds.map XE++aw (n-ds.length) YP).set i (XE (.tab P))) O)
def zkA{Cl:Nat->ae}{P:aJ}{w:aU}{K:aj}{y:au->Option ae}{base:aR}{k i:Nat}{f Pt:af}{x:au}{name a:au}{g:eG}{body:List cT}{scope:cf}{z B l C m ct G:ae}{D I:Option af}{J:Array (Option ae)}{N q:List au}{t:DS}
  (L:K.lookup f=XE ⟨G,I,.func (bi name a g body scope z B l C D m ct),J⟩) (M:cX K m a=Y1) (S:rO N q scope) (R:N[i]?=XE x) (T:¬ sD scope x)
  (U:∀(A:aX)(b:List Env)(s:ag)(H:Hp)(E:XK),oF k (A.deeper (aV a scope s.heap.objs.size f m))->r8 (uz Cl P w K y base N a scope f m A b s H E) (Xk Cl E) body t):
  oP P w K y base (rK P w Cl) (k+1) f (bi name a g body scope z B l C D m ct) q (DJ K (Xk Cl) q.length Pt (vN N.length i Pt t)):=by
 refine rq L M S (λV H Q E h=>h.1) λA b s H V Q E W h=>?_;obtain⟨hl,u,X,F,O,d,c,Y,j⟩:=h;refine⟨_,sE.fake (v:=.bl Y2) R T (U A b s H E W).out,u,X,_,O,(FO d N).set (d:=.tab Pt) (v:=.bl Y2) (by unfold Xe;exact⟨rfl,Y⟩) i,c,?_⟩;unfold vN at j;generalize t ((F.map XE++aw (N.length-F.length) YP).set i (XE (.tab Pt))) O=r at j;cases r with
 |nx σ O'=>exact λb_ n o x e p=>j .non n o x p AB
 |rt d' O'=>exact λv n o x p r=>j v n o x p r
 |bk σ O'=>exact ai j
 |ct σ O'=>exact ai j
 |exc p O'=>exact λn o x Z=>j n o x Z
 |bad=>exact ai j
structure uf(mg:au->Option ae)(base:aR)(c Pt:af):Prop where
 hd:nW base c Pt
 bl:base.BuiltinsAt mg Pt
def z6U{pos pos':Pos}{c cv:ae}(l:List ae)(h:TriplesOk l)(e:codeAmong pos' (l++[dr pos.line,dr pos.col,c])=XE cv):codeAmong pos' l=XE cv\/cv=c:=by
 fun_induction TriplesOk l with
 | case1=>
  simp only[gd,codeAmong,dr] at e;split at e
  ·cases e;exact .inr rfl
  ·cases e
 | case2 a t b u x rest ih=>
  simp only[kr,codeAmong] at e ⊢;split at e
  ·rename_i d;rw[JU d];exact .inl e
  ·rename_i d;rw[J5 d];exact ih h e
 |case3 l h1 h2=>exact h.elim
def zdU{q:au}{H:Hp}{P c:af}{pos:Pos}{g:Array ae}(i:H P=XE (.tbl g))(u:H c=YP)(P2:af)(v:oQ H P2):
  oQ (upd (upd H P (.tbl (g ++ #[dr pos.line,dr pos.col,.ref c]))) c (.ext λh=>h.CodeRec (.ref c) q)) P2:=by
 have j:∀{b:af}{o:HO},H b=XE o->b≠c:=λe=>sk e u;obtain⟨w,f,k,s⟩:=v;have a:∀{b:af}{d:aR->Prop},H b=XE (.ext d)->upd (upd H P (.tbl (g ++ #[dr pos.line,dr pos.col,.ref c]))) c (.ext λh=>h.CodeRec (.ref c) q) b=XE (.ext d):=λ{b d}e=>by
  rw[pX (j e),pX (YB e i (λz=>nomatch z))];exact e
 by_cases t:P2=P
 ·subst t;rw[i] at f;cases f;refine⟨_,by rw[pX (j i),rG],?_,λp l e=>?_⟩
  ·rw[bR];exact TriplesOk_snoc _ _ _ _ k
  ·rw[bR] at e;rcases z6U _ k e with e|e
   ·obtain⟨m,d,rfl,n,r⟩:=s p l e;exact⟨m,d,rfl,a n,r⟩
   ·exact⟨c,_,e,rG,λh z=>⟨q,z⟩⟩
 ·refine⟨w,by rw[pX (j f),pX t];exact f,k,λp l e=>?_⟩;obtain⟨m,d,rfl,n,r⟩:=s p l e;exact⟨m,d,rfl,a n,r⟩
section
variable{X:Cx}{Xd:List (af×Obj)}{b_:St}{H:Hp}{s:ag}{E:ae->ag->Prop}
abbrev B0(H:Hp)(P c:af)(ps:Array ae)(pos:Pos)(q:au):Hp:=upd (upd H P (.tbl (ps ++ #[dr pos.line,dr pos.col,.ref c]))) c (.ext λh=>h.CodeRec (.ref c) q)
def Ek(a:H P=XE (.tbl ps))(d:H c=YP)(e:H b=XE o)(f:DV o):B0 H P c ps pos q b=XE o:=by
 have g:b≠P:=by rintro rfl;rw[a] at e;cases e;exact f _ rfl
 show upd (upd H P _) c _ b=XE o;rw[pX (sk e d),pX g];exact e
def U6(a:H P=XE (.tbl ps))(d:H c=YP)(μ:List af):Ext H μ (B0 H P c ps pos q) μ:=
 ⟨⟨[],by simp⟩,λb o e _ f=>Ek a d e f,λ_ m=>.inl m,λb h=>yo b (yo b h),λg i=>zdU a d g i⟩
def z93(d:H P=XE (.tbl f))(g:H c=YP)(b:oB K H Xa μ O):oB K (B0 H P c f pos q) Xa μ O:=by refine⟨b.len,b.nd,b.nh,λa m=>yo a (yo a (b.ht a m)),λk a e=>?_⟩;obtain⟨h,i,j,l,n⟩:=b.at_ k a e;exact⟨h,i,j,Ek d g l (by intro f z;cases z),n.ext (U6 d g μ)⟩
def V5{h h':aR}{c:af}{q:au}(x:h.CodeRec (.ref c) q)(k:∀o,h.get? c=XE o->h'.get? c=XE o):h'.CodeRec (.ref c) q:=by obtain⟨d,o,a,t,e,b,r⟩:=x;cases e;exact⟨c,o,a,t,rfl,k o b,r⟩
def Rz{c P:af}{a:eG}{body:aS}{scope:cf}{pos:Pos}{v:List (au×af)}{Q:ae->ag->Prop}(I:L2.Inv X Xd b_ H s)(L:uf X.mg X.base c P)(U:X.env.code=.ref c)(ti:oQ H P)
  (V:closureFor scope X.env=pure v) (uW:defaultsOf a X.env=([],[]))
  (h:∀(i:af)(Y j:ae)(h':aR)(tk:Tok)(H':Hp),L2.Inv X Xd b_ H' { s with heap:=h',toks:=tk }->(∀μ,Ext H μ H' μ)->(∀Xa μ O,oB X.K H Xa μ O->oB X.K H' Xa μ O)->H' i=YP->s.heap.objs.size<=i->
   h'.get? i=XE { cls:=.type "function",data:=.func (cr "<lambda>" (X.env.qual ++ "<lambda>") a body scope v ((X.mg "__name__").getD .none) Y j) }->(∃c B,Y=.ref c/\H' c=XE (.ext B)/\∀h:aR,B h->∃q,h.CodeRec (.ref c) q)->Q (.ref i) { s with heap:=h',toks:=tk }):
  aq (ax X.prog X.w) X.A (eval (.Lambda a body scope pos) X.env) Q E s:=by
 obtain⟨g,f,Z,h3⟩:=id ti;have G:=I.hok P _ f;have J:=I.mod.glob.keeps I.bk;have M:bV≠P:=λz=>by
  obtain⟨o,es,ep,e,C,_⟩:=J;rw[z,G] at e;cases e;cases C
 have D:s.heap.BuiltinsAt X.mg P:=by
  obtain⟨bm,ob,b1,x,b3,b4,b5,r⟩:=L.bl;exact⟨bm,ob,b1,x,b3,b4,I.bk _ _ b5,r⟩
 have C:=L.hd.keeps I.bk;refine PySem.W.kla_eval uW ?_;cases N:codeAmong pos g.toList with
 | some cv=>
  obtain⟨d,B,rfl,k1,k2⟩:=h3 pos cv N;refine wT I (PySem.W.kla_makeFunctionHit V I.ok.glob J U C G Z N D λj h' tk hk qo qt=>?_);have p:∀b u,s.heap.get? b=XE u->(h'.push { cls:=.type "function",data:=.func (cr "<lambda>" (X.env.qual ++ "<lambda>") a body scope v ((X.mg "__name__").getD .none) (.ref d) j) }).get? b=XE u:=λb u e=>ah _ (hk b u e);exact h h'.objs.size (.ref d) j _ tk H (I.kept p) (λμ=>.refl) (λ_ _ _ z=>z) (I.hok.fresh qo) qo (aM _ rfl) ⟨d,B,rfl,k1,k2⟩
 | none=>
  refine wT I (PySem.W.kla_makeFunction V I.ok.glob J U C G Z N M D λd j h' tk hx F R uw S qt=>?_);have l:=I.hok.fresh F;have y:∀{b:af},H b=YP->b≠P:=λe=>bw (sk f e);have p:∀b u,b≠P->s.heap.get? b=XE u->(h'.push (kX "<lambda>" (X.env.qual ++ "<lambda>") a body scope v ((X.mg "__name__").getD .none) d j)).get? b=XE u:=λb u n e=>ah _ (hx b u n e);have zX:(h'.push (kX "<lambda>" (X.env.qual ++ "<lambda>") a body scope v ((X.mg "__name__").getD .none) d j)).get? P=XE (lB (g ++ #[dr pos.line,dr pos.col,.ref d])):=ah _ S;have BG:(h'.push (kX "<lambda>" (X.env.qual ++ "<lambda>") a body scope v ((X.mg "__name__").getD .none) d j)).CodeRec (.ref d) (X.env.qual ++ "<lambda>"):=V5 uw λo e=>ah _ e;have yS:∀{b:af},s.heap.objs.size<=b->b≠d->B0 H P d g pos (X.env.qual ++ "<lambda>") b=YP:=λ{b}D n=>by
   have e:=I.hok.fresh D;show upd (upd H P _) d _ b=YP;rw[pX n,pX (y e)];exact e
  refine h h'.objs.size (.ref d) j _ tk (B0 H P d g pos (X.env.qual ++ "<lambda>")) ?_ (U6 f l) (λ_ _ _ z=>z93 f l z) (yS (i8 (f9 F R)) (dO R)) (i8 (f9 F R)) (aM _ rfl) ⟨d,_,rfl,rG,λh z=>⟨_,z⟩⟩;have qg:∀b o,s.heap.get? b=XE o->H b=YP->B0 H P d g pos (X.env.qual ++ "<lambda>") b=YP:=λb o e n=>by
   show upd (upd H P _) d _ b=YP;rw[pX (bq (a9 (aK e) F)),pX (y n)];exact n
  refine I.step (ch:=[]) (λ_ z=>nomatch z) (λb o _ _ _ e n=>p b o (y n) e) (λb o _ _ _ e n=>⟨o.slots,p b o (y n) e⟩) (λb o _ e n=>qg b o e n) (λb o _ e=>?_)
   (λb xs e=>Ek f l e (by intro g z;cases z)) (λb o u e=>Ek f l e (by intro g z;cases z)) (λb Wu e=>?_) (λm hm=>?_) ?_ I.bare qt
  ·by_cases k:b=P
   ·subst k;exact⟨_,zX⟩
   ·exact⟨o,p b o k e⟩
  ·by_cases k:b=P
   ·subst k;rw[f] at e;cases e;exact⟨_,by show upd (upd H b _) d _ b=_;rw[pX (sk f l),rG]⟩
   ·exact⟨#[],by show upd (upd H P _) d _ b=_;rw[pX (sk e l),pX k,e];simp⟩
  ·obtain⟨o,es,ep,e,r⟩:=hm;exact⟨o,es,ep,p _ o (y I.free) e,r⟩
  ·intro b u e;by_cases W7:b=d
   ·subst W7;have e':B0 H P b g pos (X.env.qual ++ "<lambda>") b=_:=rG;rw[e'] at e;cases e;refine⟨BG,?_,λha tY za zk=>V5 za zk⟩;obtain⟨c2,o,vs,t,z,ho,_⟩:=BG;cases z;exact⟨o,ho⟩
   ·have T:=(pX W7).symm.trans e;by_cases k:b=P
    ·subst k;rw[rG] at T;cases T;exact zX
    ·have e2:=(pX k).symm.trans T;refine(I.hok b u e2).stay (λx u2 xb z=>p x u2 (λzz=>?_) z) (λx z=>Ek f l z (by intro g z;cases z)) λx xs z=>Ek f l z (by intro g z;cases z);rcases xb with rfl|xb
     ·exact k zz
     ·rw[zz,f] at xb;cases xb
end
abbrev tx(q:au)(scope:cf)(L f:af)(cd:ae)(cl:List (au×af)):Env:={ scope,locals:=L,globals:=bV,cells:=cl,qual:=q ++ ".<locals>.",func:=XE f,code:=cd,frame:=XE L,builtins:=builtinsNs }
section
variable{prog:aJ}{w:aU}{A:aX}{s:ag}{R:Result->ag->Prop}
def ziK(g:A.depth<recursionLimit)
  (i:s.heap.get? lam=XE { cls:=.type "function",data:=.func (cr name qual params body scope cl pm cd ct) }) (j:s.heap.CodeRec cd q) (k:scope.isCoroutine=Y2) (l:scope.isGenerator=Y2) (n:scope.kind=.function) (p:∀x∈scope.names,x.2 ≠ .cell)
  (r:bindArgs (cr name qual params body scope cl pm cd ct) ⟨[],[]⟩=pure []) (t:s.heap.NoLimit)
  (h:∀h',h'.Ns s.heap.objs.size (λ_=>YP)->(∀b o,s.heap.get? b=XE o->h'.get? b=XE o)->
   aq (ax prog w) (A.deeper (tx q scope s.heap.objs.size lam cd cl)) (eval body (tx q scope s.heap.objs.size lam cd cl)) (λv s'=>R (.ok (.ret v)) s')
    (λe s'=>aq (ax prog w) (A.deeper (tx q scope s.heap.objs.size lam cd cl)) (leaving (tx q scope s.heap.objs.size lam cd cl) e) (λ_ a=>R (.error e) a) (λu a=>R (.error u) a) s') { s with heap:=h' }):
  codeAny (ax prog w) A (.call (.ref lam) ⟨[],[]⟩) R s:=by refine kT ?_;show aq _ A.in1 (callAny (.ref lam) ⟨[],[]⟩) _ _ s;simp only[callAny];refine aa (wpAny_load i ?_);obtain⟨c,G,H,I,y,z,B,C⟩:=j;subst y;simp only[callFunction,k,l];refine aa (m:=field (.ref c) 1) (bF z B C (aa (am ?_)));rw[r];refine aa (am (aa ?_));refine lQ p (λx D=>nomatch D) (λd E F=>?_) n;have f:∀b o,s.heap.get? b=XE o->d.get? b=XE o:=λb o e=>F.extBut b o (bq (aK e)) (ah _ e);refine aa (wpAny_enterFrame (t.keeps f) g (am ⟨rfl,?_⟩));exact lR (h d E f)
end
def zie{X:Cx}{E:XK}{Cl:Nat->ae}(j:X.xe=λe s'=>aq (ax X.prog X.w) X.A (leaving X.env e) (λ_ f=>rK X.prog X.w Cl X.outer X.H₀ X.s₀ E e f) (λk f=>rK X.prog X.w Cl X.outer X.H₀ X.s₀ E k f) s')
  (l:X.stack=X.env::X.outer) (t:X.env.frame=XE X.env.locals) (m:X.ex=[]):Hf X (Xk Cl E) Cl:=by
 intro u J p r a c I x q;have y:X.A.frames=XE (X.env::X.outer):=by rw[<- l];exact I.ok.frames
 have B:r.heap.FunFrames X.base (X.env::X.outer):=by rw[<- l];exact I.stack
 have C:∀b∈rC (X.env::X.outer),p b=YP:=by rw[<- l];exact I.stkFree
 have g:Un X.fs [] X.H₀ p X.s₀.heap r.heap:=by have:=I.base;rw[m] at this;exact this
 have v:rC (X.env::X.outer)=X.env.locals::X.fs:=by unfold rC;rw[g9,t];rfl
 rw[j];show aq (ax X.prog X.w) X.A (leaving X.env (.ref a)) (λ_ f=>rK X.prog X.w Cl X.outer X.H₀ X.s₀ E (.ref a) f) (λk f=>rK X.prog X.w Cl X.outer X.H₀ X.s₀ E k f) r;unfold leaving;refine aa (Lq y B t x (λb d=>I.hok.fresh d) (λb d=>i9 (aG I.sz d)) λK i D=>?_);refine⟨a,c,p,rfl,I.os,I.tk,I.bare,?_,i.hok I.hok C,D,q⟩;refine⟨λb o e n d h=>?_,λb o e n d h=>?_,λb o e n h=>g.free b o e n h,λb o e h=>?_,g.tups,g.frzs,g.tbls⟩
 ·refine i.keep b o (g.keep b o e n d h) (λz=>?_) (.inr (by rw[e];exact λz=>nomatch z));rw[v] at z;rcases ar.mp z with z2|z2
  ·exact absurd (a9 (aK e) I.ok.above) (by rw[z2];exact cw _)
  ·exact d z2
 ·obtain⟨L,s⟩:=g.slot b o e n d h;obtain⟨F,G⟩:=i.slot b _ s (by rw[v];exact al _ d);exact⟨F,G⟩
 ·obtain⟨H,s⟩:=g.there b o e h;exact i.there b H s
noncomputable def Dr(CX:xh)(P:aJ)(w:aU)(K:aj)(mg:au->Option ae)(base:aR)(N:List au)(env:Env)(A:aX)(outer:List Env)(s:ag)(H:Hp)(E:XK):Cx where
 prog:=P
 w:=w
 K:=K
 mg:=mg
 base:=base
 A:=A.deeper env
 N:=N
 s₀:=s
 H₀:=H
 env:=env
 outer:=outer
 stack:=env::outer
 ex:=[]
 calm:=Y1
 fn:=λ_=>Y2
 pn:=[]
 xe:=λe s'=>aq (ax P w) (A.deeper env) (leaving env e) (λ_ sM=>CX outer H s E e sM) (λe' sM=>CX outer H s E e' sM) s'
section
variable{CX:xh}{P:aJ}{w:aU}{K:aj}{mg:au->Option ae}{base:aR}{N:List au}{A:aX}{outer:List Env}{s:ag}{H:Hp}{E:XK}{Cl:Nat->ae}{q:au}{scope:cf}{lam:af}{cd:ae}{cl:List (au×af)}{σ:St}{h':aR}
def D9:Hf (Dr (rK P w Cl) P w K mg base N (tx q scope s.heap.objs.size lam cd cl) A outer s H E) (Xk Cl E) Cl:=zie rfl rfl rfl rfl
def zhI(d:o0 P w K mg base A outer s H)(m:A.handled=YP)(n:scope.kind=.function)(f:∀x,sD scope x->scope.names.lookup x=XE .free)
  (cells:∀x c,cl.lookup x=XE c->(∃v,s.heap.IsCell c v)/\H c=YP) (inj:∀x y c,cl.lookup x=XE c->cl.lookup y=XE c->x=y) (h:∀x,scope.names.lookup x=XE .free->∃c,cl.lookup x=XE c)
  (e:∀(i:Nat)x v,N[i]?=XE x->σ[i]?=XE (XE v)->scope.names.lookup x=XE .free->∃u c,RelV v u/\cl.lookup x=XE c/\s.heap.IsCell c (XE u)) (j:σ.length=N.length)
  (t:h'.Ns s.heap.objs.size (λ_=>YP)) (kp:∀b o,s.heap.get? b=XE o->h'.get? b=XE o):
  L2.Inv (Dr CX P w K mg base N (tx q scope s.heap.objs.size lam cd cl) A outer s H E) [] σ H { s with heap:=h' }:=by
 have a:∀{c:af}{v:Option ae},s.heap.IsCell c v->h'.IsCell c v:=λ{c v}⟨o,ho,r⟩=>⟨o,kp c o ho,r⟩;have k:∀b:af,b∉(Dr CX P w K mg base N (tx q scope s.heap.objs.size lam cd cl) A outer s H E).ex:=λb z=>absurd (show b∈([]:List af) from z) 'd';refine⟨⟨d.mod,n,rfl,rfl,aB _,inj,λy B=>?_,λy c z _=>absurd (show Y2=Y1 from z) 's',λ_=>m,je d.frames,.inr ⟨rfl,rfl⟩,λb z=>absurd z (k b),d.bs,d.bsz,λb _ _=>k b,λb z=>absurd z (k b),d.funs,d.frf⟩,
  rfl,d.bare,Un.kept kp,⟨_,t,λi y v C D l=>?_⟩,λy c g=>?_,d.hok.fresh (aB _),λy c g=>(cells y c g).2,λp F=>absurd (show p∈([]:List (af×Obj)) from F) 'd',d.hok.kept kp,j,d.tk⟩
 ·have G:scope.names.lookup y=XE .cell\/scope.names.lookup y=XE .free:=B;exact h y (f y (G.elim (λz=>.inr (.inl z)) λz=>.inr (.inr z)))
 ·obtain⟨u,c,r,I,J⟩:=e i y v C D (f y l);exact⟨u,r,.inr ⟨.inr (f y l),c,I,a J⟩⟩
 ·obtain⟨⟨v,z⟩,_⟩:=cells y c g;exact⟨v,a z⟩
def Yo(d:oF (k+1) A)(f:o0 P w K mg base A outer s H)
  (l:s.heap.get? lam=XE { cls:=.type "function",data:=.func (cr name qual params body scope cl pm cd ct) }) (m:s.heap.CodeRec cd q) (n:scope.isCoroutine=Y2) (p:scope.isGenerator=Y2) (j:scope.kind=.function) (r:∀x∈scope.names,x.2 ≠ .cell)
  (B:bindArgs (cr name qual params body scope cl pm cd ct) ⟨[],[]⟩=pure []) (C:∀x,sD scope x->scope.names.lookup x=XE .free)
  (cells:∀x c,cl.lookup x=XE c->(∃v,s.heap.IsCell c v)/\H c=YP) (inj:∀x y c,cl.lookup x=XE c->cl.lookup y=XE c->x=y) (g:∀x,scope.names.lookup x=XE .free->∃c,cl.lookup x=XE c)
  (a:∀(i:Nat)x v,N[i]?=XE x->σ[i]?=XE (XE v)->scope.names.lookup x=XE .free->∃u c,RelV v u/\cl.lookup x=XE c/\s.heap.IsCell c (XE u)) (h:σ.length=N.length)
  (D:oF k (A.deeper (tx q scope s.heap.objs.size lam cd cl))->PD (Dr (rK P w Cl) P w K mg base N (tx q scope s.heap.objs.size lam cd cl) A outer s H E) (Xk Cl E) body t)
  (F:oD K H Xa μ σd σ) (G:oB K H Xa μ O) (I:qW (Xk Cl E) K H Xa μ (t σd O) Q):codeAny (ax P w) A (.call (.ref lam) ⟨[],[]⟩) (CR (rK P w Cl) outer P w H s Q E) s:=by refine ziK d.depth l m n p j r B (f.mod.nolimit.keeps λb o e=>(f.bs b o e).1) λh' L M=>?_;refine ci ((D (d.deeper _)).out [] _ σ H Q (zhI f d.hd j C cells inj g a h L M) ⟨Xa,μ,σd,O,F,G,I⟩) (λv R ⟨S,T,J,U,z⟩=>?_) λe R z=>z;exact⟨⟨S,T,J.os,J.bare,J.base,J.hok,U,z⟩,J.tk⟩
end
section
variable{M:iu}{A:aX}{E:ae->ag->Prop}{s:ag}{base h0:aR}{H:Hp}{frames:List Env}{a:af}{C:ae}{Q:Unit->ag->Prop}
def Kp.refl:Kp h0 H fs h h:=⟨λ_ _ e _ _=>e,λb o e _=>⟨o.slots,e⟩,λ_ o e=>⟨o,e⟩,aB _⟩
def Kp.trans(x:Kp h0 H fs h h1)(y:Kp h0 H fs h1 h2):Kp h0 H fs h h2:=
 ⟨λb o e n k=>y.keep b o (x.keep b o e n k) n k,λb o e n=>by
  obtain⟨i,c⟩:=x.slot b o e n;obtain⟨d,f⟩:=y.slot b _ c n;exact⟨d,f⟩,λb o e=>by
  obtain⟨g,c⟩:=x.there b o e;exact y.there b g c,aG x.size y.size⟩
def zez(w:s.heap.FunFrames base frames)(x:xE h0 H s.heap a C)(h:∀h',Kp h0 H (rC frames) s.heap h'->xE h0 H h' a C->Q () { s with heap:=h' }):aq M A (setFlight (.ref a) YP) Q E s:=by
 obtain⟨⟨y,B,l,D,m,F,G⟩,n,g⟩:=id x;unfold setFlight;rcases G with j|⟨T,L,I,j,r,c,t,k,i,u⟩
 ·refine aa (bF l m j ?_);rw[J5 's'];exact am (h s.heap .refl x)
 ·refine aa (bF l m j ?_);rw[JU (show(c8 T !=cZ)=Y1 by simp)];refine gD k i (eC.mp u).1 (h _ ?_ ?_)
  ·have p:∀b,b≠T->(s.heap.update T (fL (·.setIfInBounds 3 ((YP:Option af).elim cZ λf=>dr f)))).get? b=s.heap.get? b:=λb d=>bb _ _ (bw d);refine⟨λb o e d J=>(p b λz=>?_).trans e,λb o e d=>⟨o.slots,(p b λz=>?_).trans e⟩,λb o e=>?_,by rw[gN];exact aB _⟩
   ·subst z;rcases J with q|q
    ·exact q t
    ·exact q c
   ·subst z;obtain⟨_,N,v,K⟩:=w.mem d;rw[k] at v;cases v;exact K I i
   ·by_cases d:b=T
    ·subst d;exact⟨_,bM _ k (d0 (dF i _))⟩
    ·exact⟨o,(p b d).trans e⟩
  ·refine⟨⟨y,B,(bb _ _ r).trans l,D,m,F,.inr ⟨T,_,_,j,r,c,t,bM _ k (d0 (dF i _)),dF i _,?_⟩⟩,n,g⟩;rw[iF,JU (eC.mp u).1];rfl
end
section
variable{X:Cx}{Xd:List (af×Obj)}{σ:St}{H H1:Hp}{s s1:ag}
abbrev Cx.mk'(X:Cx)(a:af):Cx:={ X with A:=X.A.mark (XE (.ref a)),calm:=Y2,xe:=λ_ _=>False }
def Inv.mk'(I:L2.Inv X Xd σ H s)(a:af):L2.Inv (Cx.mk' X a) Xd σ H s:=
 ⟨⟨I.ok.mod,I.ok.kind,I.ok.glob,I.ok.blt,I.ok.above,I.ok.inj,I.ok.has,I.ok.cab,λz=>absurd (show Y2=Y1 from z) 's',I.ok.frames,I.ok.stk,I.ok.exf,I.ok.bs,I.ok.bsz,I.ok.noex,I.ok.exfs,I.ok.funs,I.ok.frf⟩,I.os,I.bare,I.base,I.loc,I.cell,I.free,I.freeC,I.pin,I.hok,I.len,I.tk⟩
def Inv.unmk'(ok:X.Ok)(I:L2.Inv (Cx.mk' X a) Xd σ H s):L2.Inv X Xd σ H s:=
 ⟨ok,I.os,I.bare,I.base,I.loc,I.cell,I.free,I.freeC,I.pin,I.hok,I.len,I.tk⟩
def Inv.raised(I:L2.Inv X Xd σ H s)(i:s1.os=s.os)(p:0<s1.toks)(a:gA s1.gens)(c:Un (rC X.stack) [] H H1 s.heap s1.heap)(d:HOk X.prog X.w H1 s1.heap)(kp:Kp s.heap H1 (rC X.stack) s1.heap h'):L2.Inv X Xd σ H1 { s1 with heap:=h' }:=by
 have j:L2.Inv X Xd σ H1 s1:=I.call' (ch:=[]) i c d a (λb z=>absurd z 'd');refine I.call' (s':={ s1 with heap:=h' }) (ch:=[]) i ?_ (kp.hok d j.stkFree) a (λb z=>absurd z 'd');refine⟨λb o e n f g=>kp.keep b o (c.keep b o e n f g) f (.inr (by rw[e];exact λz=>nomatch z)),λb o e n f g=>?_,c.free,λb o e g=>?_,c.tups,c.frzs,c.tbls⟩
 ·obtain⟨q,h⟩:=c.slot b o e n f g;obtain⟨k,l⟩:=kp.slot b _ h f;exact⟨k,l⟩
 ·obtain⟨m,h⟩:=c.there b o e g;exact kp.there b m h
def Inv.track(I:L2.Inv X Xd σ H1 s1)(x:xE s.heap H1 s1.heap a (.ref C))(j:L2.Inv X Xd σ H s):L2.Inv X Xd σ (upd H1 a (.ext λh=>∃f,cY h a f C YP)) s1:=by
 obtain⟨⟨t,Q,B,D,G,R,_⟩,w,i⟩:=x;have k:∀b o,s.heap.get? b=XE o->b≠a:=λb o e z=>by rw[z,w] at e;cases e
 have J:cY s1.heap a t C YP:=⟨B,D.1,by unfold PySem.W.notCls;rw[G],by rw[D.2];trivial⟩;have d:∀{b:af}{u:HO},H1 b=XE u->upd H1 a (.ext λh=>∃f,cY h a f C YP) b=XE u:=λ{b u}e=>by rw[pX (sk e i)];exact e
 have l:∀{b:af},H1 b=YP->b≠a->upd H1 a (.ext λh=>∃f,cY h a f C YP) b=YP:=λ{b}e n=>by rw[pX n];exact e
 have g:∀b,b∉X.ex->(∃o,X.s₀.heap.get? b=XE o)->b≠a:=λb q ⟨o,e⟩=>by
  obtain⟨K,L⟩:=j.base.there b o e q;exact k b K L
 refine⟨I.ok,I.os,I.bare,⟨I.base.keep,I.base.slot,λb o e n q=>l (I.base.free b o e n q) (g b q ⟨o,e⟩),I.base.there,λb M e=>d (I.base.tups b M e),λb o u e=>d (I.base.frzs b o u e),λb N e=>?_⟩,I.loc,I.cell,?_,λx c e=>?_,λp E=>?_,λb u e=>?_,I.len,I.tk⟩
 ·obtain⟨m,y⟩:=I.base.tbls b N e;exact⟨m,d y⟩
 ·obtain⟨m,⟨o,_,_,A,_⟩,_⟩:=j.loc;exact l I.free (k _ o A)
 ·obtain⟨v,o,A,_⟩:=j.cell x c e;exact l (I.freeC x c e) (k c o A)
 ·obtain⟨y,O,r⟩:=I.pin p E;exact⟨y,l O (k _ _ (j.pin p E).1),r⟩
 ·by_cases F:b=a
  ·subst F;rw[rG] at e;cases e;exact⟨⟨t,J⟩,⟨t,B⟩,λS T ⟨f,z⟩ P=>⟨f,P f z.at_,z.cls,z.no,by
    have:=z.dict;revert this;cases f.dict with
    |none=>exact λ_=>trivial
    |some _=>exact λz=>z.elim⟩⟩
  ·rw[pX F] at e;exact(I.hok b u e).stay (λ_ _ _ z=>z) (λ_ z=>d z) λ_ _ z=>d z
end
section
variable{X:Cx}{Xd:List (af×Obj)}{σ:St}{H:Hp}{s:ag}{M:iu}{A:aX}{E:ae->ag->Prop}
def zeh(I:L2.Inv X Xd σ H s)(R:X.N.Nodup)(D:X.N[i]?=XE x)(d:X.env.scope.names.lookup x=XE .local)(F:σ[i]?=XE (XE v))
  (h:∀s',L2.Inv X Xd (σ.set i YP) H s'->Q () s'):aq M A (unbindName X.env x) Q E s:=by
 obtain⟨m,S,G⟩:=id I.loc;obtain⟨u,_,T⟩:=G i x v D F (.inl d);have U:m x=XE u:=by
  rcases T with⟨_,z⟩|⟨z,_⟩
  ·exact z
  ·have z':X.env.scope.names.lookup x=XE .cell\/X.env.scope.names.lookup x=XE .free:=z;rw[d] at z';rcases z' with z'|z'<;>cases z'
 refine wT I (wpAny_unbindName_local d S U (by rw[I.ok.kind];rfl) λJ V W Y Z=>h _ ?_);have g:∀b o,b≠X.env.locals->s.heap.get? b=XE o->J.get? b=XE o:=λb o n e=>(Y.2 b n).trans e;have t:∀b o,X.s₀.heap.get? b=XE o->b≠X.env.locals:=λb o e=>bq (a9 (aK e) I.ok.above);have K:∀b o,H b=XE o->b≠X.env.locals:=λb o e=>sk e I.free;have a:∀y c,X.env.cells.lookup y=XE c->∀w,s.heap.IsCell c w->J.IsCell c w:=λy c e w ⟨o,ho,hd⟩=>⟨o,g c o (I.cne y c e) ho,hd⟩;refine⟨I.ok,I.os,I.bare,⟨λb o e n B d=>g b o (t b o e) (I.base.keep b o e n B d),λb o e n B d=>?_,I.base.free,λb o e d=>?_,I.base.tups,I.base.frzs,I.base.tbls⟩,⟨_,W,λj y w f k e3=>?_⟩,λy c e=>?_,I.free,I.freeC,λp hp=>?_,λb o e=>?_,by rw[cL];exact I.len,Z⟩
 ·obtain⟨sl,f⟩:=I.base.slot b o e n B d;exact⟨sl,g b _ (t b o e) f⟩
 ·obtain⟨L,f⟩:=I.base.there b o e d;exact⟨L,g b L (t b o e) f⟩
 ·have O:j≠i:=by
   rintro rfl;have qm:j<σ.length:=(ak.mp F).1;rw[aY qm] at k;cases k
  rw[aZ (bw O)] at k;have hy:y≠x:=by rintro rfl;exact O (L6 R f D)
  obtain⟨l,r2,l2⟩:=G j y w f k e3;refine⟨l,r2,?_⟩;rcases l2 with⟨C,q⟩|⟨C,c,q,k3⟩
  ·exact .inl ⟨C,by show(if y=x then V else m y)=XE l;rw[J5 hy];exact q⟩
  ·exact .inr ⟨C,c,q,a y c q _ k3⟩
 ·obtain⟨w,z⟩:=I.cell y c e;exact⟨w,a y c e w z⟩
 ·obtain⟨f,n1,P,r⟩:=I.pin p hp;exact⟨g _ _ P f,n1,P,r⟩
 ·refine(I.hok b o e).stay (λb2 l xb z=>g b2 l ?_ z) (λ_ z=>z) λ_ _ z=>z;rcases xb with rfl|xb
  ·exact K _ _ e
  ·exact K _ _ xb
end
section
variable{X:Cx}{Xd:List (af×Obj)}{σ:St}{H H1:Hp}{s s1:ag}
def zcX(I:L2.Inv X Xd σ H s)(E:s1.os=s.os)(F:0<s1.toks)(b:gA s1.gens)(G:Un (rC X.stack) [] H H1 s.heap s1.heap)(f:HOk X.prog X.w H1 s1.heap)
  (kp:Kp s.heap H1 (rC X.stack) s1.heap h2) (J:xE s.heap H1 h2 a (.ref C)) (R:fk X.K (.ref C) (.ref T)=XE Y1) (S:Gl X xT) (U:X.mg xT=XE (.ref T))
  (l:X.N.Nodup) (c:X.N[i]?=XE n) (L:X.N[j]?=XE y) (uk:i≠j) (d:X.env.scope.names.lookup n=XE .local) (M:X.env.scope.names.lookup y=XE .local)
  (h:∀s',L2.Inv X Xd ((σ.set j (XE (.ref a))).set i YP) (upd H1 a (.ext λh=>∃q,cY h a q C YP)) s'->Qf .next s')
  (r:rH n:=by decide) (g:(n==("__classdict__":au))=Y2:=by decide) (t:rH xT:=by decide)
  (V:fJ [.Name y p5] (.Name n p6) p7.line X.env=pure Y2:=by rfl) (Y:fK [.Name y p5] (.Name n p6) X.env=pure YP:=by rfl):
  aq (ax X.prog X.w) X.A (handleBy (.ref a) X.env [.ExceptHandler (XE (.Name xT p4)) (XE n) [.Assign [.Name y p5] (.Name n p6) p7] p8]) Qf X.xe { s1 with heap:=h2 }:=by
 have x:L2.Inv X Xd σ H1 { s1 with heap:=h2 }:=Inv.raised I E F b G f kp;refine wpAny_handleBy_cons (codeAny_handlers_test (Fq (X:=Cx.mk' X a) (Inv.mk' x a) S U ?_ t)) (by intro z;cases z);have Z:PySem.W.Looks (ax X.prog X.w) h2 (typeOf (.ref a)) (.ref C):=by
  obtain⟨⟨oe,vs,he,hC,_⟩,_⟩:=J;exact hC.1▸(PySem.W.Looks.ld he).andThen .now
 refine(PySem.W.exm_one x.kIn Z R).at ?_;show codeAny _ _ (.handlers (.ref a) [.ExceptHandler YP (XE n) [.Assign [.Name y p5] (.Name n p6) p7] p8] X.env) _ _;refine codeAny_handlers_suite_as (zez (frames:=X.stack) x.stack J λO B x3=>?_);have I3:L2.Inv X Xd σ H1 { s1 with heap:=O }:=Inv.raised I E F b G f (kp.trans B);have I4:=Inv.track (s1:={ s1 with heap:=O }) I3 x3 I;refine Cg (X:=Cx.mk' X a) (v:=.ref a) (Inv.mk' I4 a) l c (.inl d) rfl (λs5 I5=>?_) (.inr d);have ps:sE (Cx.mk' X a) [.Assign [.Name y p5] (.Name n p6) p7] _:=Eh (LD (IH (X:=Cx.mk' X a) (pos:=p6) c (.inl d) r g) (IS (X:=Cx.mk' X a) (pos:=p5) l L (.inl M) (.inr M)) V Y) SY;refine ci (ps Xd s5 _ _ { nx:=λD H'=>D=(σ.set i (XE (.ref a))).set j (XE (.ref a))/\H'=upd H1 a (.ext λh=>∃q,cY h a q C YP),rt:=λ_ _=>False } I5 ?_) (λfl s6 m=>?_) λ_ _ z=>z.elim
 ·refine⟨.ref a,?_,?_⟩
  ·rw[aY (by rw[I.len];exact(ak.mp c).1)]
  ·exact⟨rfl,rfl⟩
 cases fl with
 |ret u=>obtain⟨_,_,_,_,_,z⟩:=m;exact z.elim
 |brk=>obtain⟨_,_,_,z⟩:=m;exact z.elim
 |cont=>obtain⟨_,_,_,z⟩:=m;exact z.elim
 | next=>
  obtain⟨O9,H6,I6,rfl,rfl⟩:=m;have P:=Inv.unmk' I.ok I6;show aq _ X.A (do bindName X.env n .none;unbindBehindTheSuite X.env n p8) _ _ s6;unfold bindName unbindBehindTheSuite;refine aa (aa (bL (wpAny_point (aa (Cg (v:=.non) P l c (.inl d) rfl (λs8 I8=>wpAny_point ?_) (.inr d))))));refine iO (zeh (v:=.non) I8 l c d (aY (by rw[P.len];exact(ak.mp c).1)) λs9 I9=>h s9 ?_);refine I9.weak 'd' λk v e=>?_;by_cases o:k=i
  ·subst o;have p:k<(σ.set j (XE (.ref a))).length:=by rw[cL,I.len];exact(ak.mp c).1
   rw[aY p] at e;cases e
  ·rw[aZ (bw o)] at e ⊢;rw[aZ (bw o)];by_cases Q:k=j
   ·subst Q;have p:k<σ.length:=by rw[I.len];exact(ak.mp L).1
    rw[aY p] at e;rw[aY (by rw[cL];exact p)];exact e
   ·rw[aZ (bw Q)] at e ⊢;rw[aZ (bw o)];exact e
end
section
variable{X:Cx}{Xd:List (af×Obj)}{σ:St}{H H1:Hp}{s s1:ag}
def Ze{T d:af}{Cl:Nat->ae}{nf xT n y:au}{i j L:Nat}{M p2 p3 p4 O P p7 p8 pos:Pos}{D:yE}(I:L2.Inv X Xd σ H s)(hex:X.ex=[])
  (sO:codeAny (ax X.prog X.w) X.A (.call (.ref d) ⟨[],[]⟩) (CR (rK X.prog X.w Cl) X.stack X.prog X.w H s (λ_ H'=>D.nx σ H')
   (λCv _ H1=>∃C,Cv=.ref C/\fk X.K (.ref C) (.ref T)=XE Y1/\∀a,H1 a=YP->D.nx ((σ.set j (XE (.ref a))).set i YP) (upd H1 a (.ext λh=>∃ox,cY h a ox C YP)))) s)
  (v9:ku d s.heap) (R:X.N[L]?=XE nf) (AR:σ[L]?=XE (XE (.ref d))) (rY:sD X.env.scope nf) (y_:Gl X xT) (yU:X.mg xT=XE (.ref T)) (S:X.stack=X.env::X.outer) (vH:X.env.frame=XE X.env.locals)
  (hN:X.N.Nodup) (hi:X.N[i]?=XE n) (hj:X.N[j]?=XE y) (uk:i≠j) (hn:X.env.scope.names.lookup n=XE .local) (hy:X.env.scope.names.lookup y=XE .local)
  (g:rH nf:=by decide) (t:(nf==("__classdict__":au))=Y2:=by decide)
  (U:rH n:=by decide) (B:(n==("__classdict__":au))=Y2:=by decide) (V:rH xT:=by decide)
  (Y:swapsWith (.Call (.Name nf M) [] [] p2) YP p3.line X.env=pure Y2:=by rfl)
  (hs:fJ [.Name y O] (.Name n P) p7.line X.env=pure Y2:=by rfl) (hw:fK [.Name y O] (.Name n P) X.env=pure YP:=by rfl):
  aq (ax X.prog X.w) X.A (exec (.Try [.Expr (.Call (.Name nf M) [] [] p2) p3] [.ExceptHandler (XE (.Name xT p4)) (XE n) [.Assign [.Name y O] (.Name n P) p7] p8] [] [] pos) X.env) (SP X Xd D) X.xe s:=by
 have F:∀(Q:ae->ag->Prop)(E:ae->ag->Prop),Q (.ref d) s->aq (ax X.prog X.w) X.A (eval (.Name nf M) X.env) Q E s:=λQ E k=>by
  obtain⟨m,AX,hl⟩:=I.loc;obtain⟨u,r,l⟩:=hl L nf _ R AR rY;cases r;rcases l with⟨hk,Z⟩|⟨hk,c,hc,qX⟩
  ·exact ja (jb I.ok.kind hk AX Z k) g
  ·rcases hk with hk|hk
   ·exact ja (jp I.ok.kind hk hc qX k) g
   ·exact ja (md I.ok.kind hk hc qX k t) g
 refine wpAny_Try_except (gJ (wpAny_Expr_any ?_ I.quiet Y));refine fv (F _ _ (PySem.W.callWith_F0 v9 (jc (eL sO λr s1 G=>?_))));cases r with
 | ok fl=>
  cases fl with
  |next=>exact ai G
  |brk=>exact ai G
  |cont=>exact ai G
  | ret u=>
   obtain⟨v,H',J,_,q⟩:=I.after G;exact f7 (f7 ⟨σ,H',J,q⟩)
 | error e=>
  obtain⟨a,c,H1,rfl,os,qt,f,un,p,x,C,hC,Z,q⟩:=G;have I1:L2.Inv X Xd σ H1 s1:=I.call' (ch:=[]) os un p f (λb z=>absurd z 'd');rw[hC] at x;refine Lq (h0:=s.heap) (by rw[<- S];exact I.ok.frames) (by rw[<- S];exact I1.stack) vH x (λb hb=>p.fresh hb) ?_ λh2 kp x2=>?_
  ·intro b hb;cases z:s.heap.get? b with
   |none=>rfl
   | some o=>
    obtain⟨o',e'⟩:=un.there b o z 'd';exact absurd (aK e') (lP.mpr hb)
  ·rw[<- S] at kp;exact zcX I os qt f un p kp x2 Z y_ yU hN hi hj uk hn hy (λs' J=>⟨_,_,J,q a x.free⟩) U B V hs hw
end
structure HK(nf n y xT:au)(p0 p1 p2 p3 p5 p6 p7 pq pc:Pos)(kc):Prop where
 hfd:rH nf:=by decide
 hfcd:(nf==("__classdict__":au))=Y2:=by decide
 hnd:rH n:=by decide
 hncd:(n==("__classdict__":au))=Y2:=by decide
 hTd:rH xT:=by decide
 hs0:∀env:Env,swapsWith (.Call (.Name nf p1) [] [] p2) YP p3.line env=pure Y2:=by intro _;rfl
 hsA:∀env:Env,swapsWith (.Constant .none kc pc) (XE (.Name y pq)) p0.line env=pure Y2:=by intro _;rfl
 hs:∀env:Env,fJ [.Name y p5] (.Name n p6) p7.line env=pure Y2:=by intro _;rfl
 hw:∀env:Env,fK [.Name y p5] (.Name n p6) env=pure YP:=by intro _;rfl
section
variable{X:Cx}{H:Hp}
def z8d{Y:Cx}{d:St}{H:Hp}{s1:ag}{Cl:Nat->ae}{e T:af}{nf n y xT:au}{c:List cT}{i j:Nat}{Q:VK}{W:St->Hp->Prop}{t:TS}{k x B E S F G I U l m pos:Pos}{o:_}
  (V:L2.Inv Y [] d H s1) (p:Y.ex=[]) (v7:Y.stack=Y.env::Y.outer) (vH:Y.env.frame=XE Y.env.locals) (v9:∀(J:St)(b:ag),L2.Inv Y [] J H b->ku e b.heap) (t_:Y.N[0]?=XE nf) (q:d[0]?=XE (XE (.ref e)))
  (L:Y.N.Nodup) (hi:Y.N[i]?=XE n) (M:Y.N[j]?=XE y) (uk:i≠j) (C2:j≠0) (hn:Y.env.scope.names.lookup n=XE .local) (r:Y.env.scope.names.lookup y=XE .local) (AR:sD Y.env.scope nf) (y_:Gl Y xT) (yU:Y.mg xT=XE (.ref T))
  (sO:∀b:ag,L2.Inv Y [] (d.set j (XE .non)) H b->codeAny (ax Y.prog Y.w) Y.A (.call (.ref e) ⟨[],[]⟩) (CR (rK Y.prog Y.w Cl) Y.stack Y.prog Y.w H b (λ_ H'=>W (d.set j (XE .non)) H')
    (λCv _ O=>∃C,Cv=.ref C/\fk Y.K (.ref C) (.ref T)=XE Y1/\∀a,O a=YP->W (((d.set j (XE .non)).set j (XE (.ref a))).set i YP) (upd O a (.ext λh=>∃ox,cY h a ox C YP)))) b)
  (rQ:sE Y c t) (hW:∀σ' H',W σ' H'->t { nx:=λ_ H'=>Q .non H',rt:=Q } σ' H')
  (Z:HK nf n y xT k x B E F G I l m o):
  aq (ax Y.prog Y.w) Y.A (execs (.Assign [.Name y l] (.Constant .none o m) k :: .Try [.Expr (.Call (.Name nf x) [] [] B) E] [.ExceptHandler (XE (.Name xT S)) (XE n) [.Assign [.Name y F] (.Name n G) I] U] [] [] pos::c) Y.env) (SP Y [] { nx:=λ_ H'=>Q .non H',rt:=Q }) Y.xe s1:=by
 refine gJ ?_;refine pS (Lh (X:=Y) (pos':=l) (pos:=k) L M (.inl r) (Lo (j:=o) (pos:=m)) (Z.hsA _) (.inr r) [] s1 d H { nx:=λσ' H'=>σ'=d.set j (XE .non)/\H'=H,rt:=λ_ _=>False } V ⟨rfl,rfl⟩) λs b f=>?_;cases s with
 |ret u=>obtain⟨_,_,_,_,_,z⟩:=f;exact z.elim
 |brk=>obtain⟨_,_,_,z⟩:=f;exact z.elim
 |cont=>obtain⟨_,_,_,z⟩:=f;exact z.elim
 |next=>
 obtain⟨J,H2,v,rfl,rfl⟩:=f;refine gJ (pS (Ze (D:={ nx:=W,rt:=λ_ _=>False }) v p (sO b v) (v9 _ b v) t_ (by rw[aZ C2];exact q) AR y_ yU v7 vH L hi M uk hn r Z.hfd Z.hfcd Z.hnd Z.hncd Z.hTd (Z.hs0 _) (Z.hs _) (Z.hw _)) λs s3 g=>?_);cases s with
 |ret u=>obtain⟨_,_,_,_,_,z⟩:=g;exact z.elim
 |brk=>obtain⟨_,_,_,z⟩:=g;exact z.elim
 |cont=>obtain⟨_,_,_,z⟩:=g;exact z.elim
 | next=>
  obtain⟨P,R,I3,w3⟩:=g;exact rQ [] s3 P R _ I3 (hW P R w3)
end
section
variable{X:Cx}{Xd:List (af×Obj)}{σ:St}{H:Hp}{s:ag}
def zhQ{Cl:Nat->ae}{k:Nat}{f:af}{name a:au}{b:eG}{body:List cT}{scope:cf}{B C i D c E L:ae}{F M:Option af}{O:Array (Option ae)}{N o:List au}{g:List ae}{vs:List V}{Q:VK}
  (I:L2.Inv X Xd σ H s) (p:oF (k+1) X.A) (P:X.K.lookup f=XE ⟨L,M,.func (bi name a b body scope B C i D F c E),O⟩)
  (R:cX X.K c a=Y1) (S:rO N o scope) (T:i3 s (bi name a b body scope B C i D F c E) ⟨g,[]⟩ (o.zip g)) (U:vs.length=o.length) (W:oE vs g)
  (Y:∀s1:ag,oF k (X.A.deeper (aV a scope s.heap.objs.size f c))->L2.Inv (uz Cl X.prog X.w X.K X.mg X.base N a scope f c X.A X.stack s H E0) [] (L2.start N vs) H s1->
   aq (ax X.prog X.w) (uz Cl X.prog X.w X.K X.mg X.base N a scope f c X.A X.stack s H E0).A (execs body (uz Cl X.prog X.w X.K X.mg X.base N a scope f c X.A X.stack s H E0).env) (SP (uz Cl X.prog X.w X.K X.mg X.base N a scope f c X.A X.stack s H E0) [] { nx:=λ_ H'=>Q .non H',rt:=Q }) (uz Cl X.prog X.w X.K X.mg X.base N a scope f c X.A X.stack s H E0).xe s1):
  aq (ax X.prog X.w) X.A (call (.ref f) g) (EP X Xd σ Q) X.xe s:=by
 have Z:=I.env0;have G:=I.kIn;have yX:∀z∈o.zip g,scope.names.lookup z.1=XE .local\/(scope.names.lookup z.1=XE .cell/\((ck (s.heap.objs.size+1) scope.names []).lookup z.1).isSome=Y1):=λ⟨m,v⟩ hz=>by
  rcases S.par m (jd hz).1 with q|q
  ·exact .inl q
  ·exact .inr ⟨q,gh _ _ _ (.inl q)⟩
 refine jc (eL (?_:codeAny (ax X.prog X.w) X.A (.call (.ref f) ⟨g,[]⟩) (CR (rK X.prog X.w Cl) X.stack X.prog X.w H s Q E0) s) λr j l=>?_)
 ·refine lq p.depth (G _ _ P) rfl S.co S.gen rfl (mw G R) (T _ _ _ _ ?_);refine wT I (jV S.kind yX λenv he s1 x qt=>?_);subst he;refine⟨I.nolimit.keeps x.toInCall.keep,codeAny_func ?_⟩;have I1:L2.Inv (uz Cl X.prog X.w X.K X.mg X.base N a scope f c X.A X.stack s H E0) [] (L2.start N vs) H s1:=U_ S p.hd Z U W x qt;refine ci (Y s1 (p.deeper _) I1) (λt j h=>?_) λe j h=>h;have n:∀{d:St}{H':Hp}{v:V}{u:ae},L2.Inv (uz Cl X.prog X.w X.K X.mg X.base N a scope f c X.A X.stack s H E0) [] d H' j->RelV v u->Q v H'->CE X.stack X.prog X.w H s Q u j:=
   λ{d H' v u}J y q=>⟨⟨v,H',J.os,J.bare,J.base,J.hok,y,q⟩,J.tk⟩
  cases t with
  | ret u=>
   obtain⟨v,d,H',J,y,q⟩:=h;exact n J y q
  | next=>
   obtain⟨d,H',J,q⟩:=h;exact n (v:=V.non) (u:=cZ) J rfl q
  | brk=>
   obtain⟨_,_,_,q⟩:=h;exact ai q
  | cont=>
   obtain⟨_,_,_,q⟩:=h;exact ai q
 ·cases r with
  |error e=>exact S4 Xd σ H s e j I l
  | ok t=>
   cases t with
   |ret u=>exact I.after l
   |next=>exact ai l
   |brk=>exact ai l
   |cont=>exact ai l
end
section
variable{X:Cx}{Xd:List (af×Obj)}{σ:St}{H:Hp}{s:ag}
def z98{Cl:Nat->ae}{k:Nat}{f c T:af}{name b nf n y xT:au}{d:eG}{g:List cT}{scope:cf}{F G m J l L V:ae}{M od:Option af}{sv:Array (Option ae)}{N:List au}{i j:Nat}{Q:VK}{W:St->Hp->Prop}{p q r u O v x z P B D pos:Pos}{E:_}
  (I:L2.Inv X Xd σ H s) (hr:oF (k+1) X.A)
  (lk:X.K.lookup f=XE ⟨V,od,.func (bi name b d (.Assign [.Name y B] (.Constant .none E D) p :: .Try [.Expr (.Call (.Name nf q) [] [] r) u] [.ExceptHandler (XE (.Name xT O)) (XE n) [.Assign [.Name y v] (.Name n x) z] P] [] [] pos::g) scope F G m J M l L),sv⟩)
  (qp:cX X.K l b=Y1) (S:rO N [nf] scope)
  (hb:i3 s (bi name b d (.Assign [.Name y B] (.Constant .none E D) p :: .Try [.Expr (.Call (.Name nf q) [] [] r) u] [.ExceptHandler (XE (.Name xT O)) (XE n) [.Assign [.Name y v] (.Name n x) z] P] [] [] pos::g) scope F G m J M l L) ⟨[.ref c],[]⟩ ([nf].zip [.ref c]))
  (v9:∀e:ag,Un (rC X.stack) [] H H s.heap e.heap->HOk X.prog X.w H e.heap->ku c e.heap) (hN:N.Nodup) (t_:N[0]?=XE nf) (hi:N[i]?=XE n) (hj:N[j]?=XE y) (uk:i≠j) (C2:j≠0) (hn:scope.names.lookup n=XE .local) (hy:scope.names.lookup y=XE .local) (AR:sD scope nf)
  (y_:scope.names.lookup xT=XE .globalImplicit) (yU:X.mg xT=XE (.ref T))
  (sO:∀e:ag,oF k (X.A.deeper (aV b scope s.heap.objs.size f l))->o0 X.prog X.w X.K X.mg X.base (X.A.deeper (aV b scope s.heap.objs.size f l)) (aV b scope s.heap.objs.size f l::X.stack) e H->Un (rC X.stack) [] H H s.heap e.heap->
   codeAny (ax X.prog X.w) (X.A.deeper (aV b scope s.heap.objs.size f l)) (.call (.ref c) ⟨[],[]⟩) (CR (rK X.prog X.w Cl) (aV b scope s.heap.objs.size f l::X.stack) X.prog X.w H e (λ_ H'=>W ((L2.start N [.ref c]).set j (XE .non)) H')
    (λCv _ R=>∃C,Cv=.ref C/\fk X.K (.ref C) (.ref T)=XE Y1/\∀a,R a=YP->W ((((L2.start N [.ref c]).set j (XE .non)).set j (XE (.ref a))).set i YP) (upd R a (.ext λh=>∃ox,cY h a ox C YP)))) e)
  (rQ:oF k (X.A.deeper (aV b scope s.heap.objs.size f l))->∃t,sE (uz Cl X.prog X.w X.K X.mg X.base N b scope f l X.A X.stack s H E0) g t/\∀σ' H',W σ' H'->t { nx:=λ_ H'=>Q .non H',rt:=Q } σ' H')
  (Z:HK nf n y xT p q r u v x z B D E):
  aq (ax X.prog X.w) X.A (call (.ref f) [.ref c]) (EP X Xd σ Q) X.xe s:=by refine zhQ (Cl:=Cl) (k:=k) (Q:=Q) (vs:=[.ref c]) I hr lk qp S hb rfl (.cons rfl .nil) λs1 U I1=>?_;obtain⟨t,ht,hW⟩:=rQ U;exact z8d (Y:=uz Cl X.prog X.w X.K X.mg X.base N b scope f l X.A X.stack s H E0) (Cl:=Cl) (T:=T) (W:=W) (Q:=Q) I1 rfl rfl rfl (λsQ e o=>v9 e o.base o.hok) t_ (by rfl) hN hi hj uk C2 hn hy AR y_ yU (λe o=>sO e U o.env0 o.base) ht hW Z
end
section
variable{X:Cx}{Xd:List (af×Obj)}{σ:St}{H:Hp}{s s2:ag}
def SJ(a:Un fs [] H H h h')(z:h.IsCell c v)(n:H c=YP):h'.IsCell c v:=by obtain⟨o,b,d⟩:=z;obtain⟨f,e⟩:=a.any b n 'd';exact⟨_,e,d⟩
def Vu{b:List (au×af)}(I:L2.Inv X Xd σ H s)(d:Un (rC X.stack) [] H H s.heap s2.heap)(a:∀x c,b.lookup x=XE c->X.env.cells.lookup x=XE c):∀x c,b.lookup x=XE c->(∃v,s2.heap.IsCell c v)/\H c=YP:=λx c e=>by
 obtain⟨v,z⟩:=I.cell x c (a x c e);exact⟨⟨v,SJ d z (I.freeC x c (a x c e))⟩,I.freeC x c (a x c e)⟩
def Tw{a:List (au×af)}(I:L2.Inv X Xd σ H s)(b:∀x c,a.lookup x=XE c->X.env.cells.lookup x=XE c):∀x y c,a.lookup x=XE c->a.lookup y=XE c->x=y:=λx y c d e=>I.ok.inj x y c (b x c d) (b y c e)
def Va{a:List (au×af)}{scope:cf}(I:L2.Inv X Xd σ H s)(h:Un (rC X.stack) [] H H s.heap s2.heap)(j:∀x c,a.lookup x=XE c->X.env.cells.lookup x=XE c)(b:∀x,scope.names.lookup x=XE .free->∃c,a.lookup x=XE c)
  (e:∀x,scope.names.lookup x=XE .free->X.env.scope.names.lookup x=XE .cell\/X.env.scope.names.lookup x=XE .free):
  ∀(i:Nat)x v,X.N[i]?=XE x->σ[i]?=XE (XE v)->scope.names.lookup x=XE .free->∃u c,RelV v u/\a.lookup x=XE c/\s2.heap.IsCell c (XE u):=λi x v k n d=>by
 obtain⟨m,w,o⟩:=I.loc;obtain⟨u,r,l⟩:=o i x v k n (.inr (e x d));obtain⟨c,f⟩:=b x d;refine⟨u,c,r,f,?_⟩;rcases l with⟨z,_⟩|⟨_,y,g,p⟩
 ·have t:X.env.scope.names.lookup x=XE .local:=z;rcases e x d with q|q<;>(rw[t] at q;cases q)
 ·have:=j x c f;rw[g] at this;cases this;exact SJ h p (I.freeC x _ g)
end
structure Jl(out sc:cf):Prop where
 kind:sc.kind=.function
 co:sc.isCoroutine=Y2
 gen:sc.isGenerator=Y2
 nd:(sc.names.map (·.1)).Nodup
 cell:∀x∈sc.names,x.2 ≠ .cell
 loc:∀x∈sc.names,x.2 ≠ .local
 frees:∀y∈sc.names,y.2=.free->out.names.lookup y.1=XE .cell\/out.names.lookup y.1=XE .free
def K2(r:RS):R D:=match r with
 |.nx _ O=>.ok .non O
 |.rt d O=>.ok d O
 |_=>.bad
def E3(Ca:Nat->Nat)(n j:Nat)(tR:DS)(r:R D):R D:=match r with
 |.ok _ O=>K2 (tR ((aw n YP).set j (XE .non)) O)
 |.exc c O=>K2 (tR ((aw n YP).set j (XE (.exn (Ca c)))) O)
 |.bad=>.bad
def Bq(Pt iT:Nat)(Ca:Nat->Nat)(n j:Nat)(tE:DE)(tR:DS):DE:=λσ O=>match σ[iT]? with
 |some (XE (.tab p))=>if p=Pt then E3 Ca n j tR (tE σ O) else .bad
 |_=>.bad
def UJ(c:b_.length=n)(a:b_[j]?=XE (XE v))(q:Xe K H Xa μ d v):oD K H Xa μ ((aw n YP).set j (XE d)) b_:=by
 refine⟨by simp[c],λi x e=>?_⟩;by_cases b:j=i
 ·subst b;have f:j<n:=by have:=(ak.mp a).1;lia
  rw[aY ⇑f] at e;cases e;exact⟨v,a,q⟩
 ·rw[aZ b] at e;rw[fc] at e;split at e<;>cases e
def U3(q:qW Ex K H Xa μ (K2 r) Q):oG E' K H Xa μ r { nx:=λ_ H'=>Q .non H',rt:=Q }:=by
 cases r with
 |nx σ O'=>exact λc H' b x e a=>q .non H' b x a AB
 |rt d' O'=>exact λv H' b x a r=>q v H' b x a r
 |bk σ O'=>exact ai q
 |ct σ O'=>exact ai q
 |exc a O'=>exact ai q
 |bad=>exact ai q
def Jj(h:0<N.length):(L2.start N [a]).length=N.length:=by unfold L2.start;simp;lia
def Thk(Cl:Nat->ae)(P:aJ)(w:aU)(K:aj)(mg:au->Option ae)(base:aR)(fs:List af)(H:Hp)(h:aR)(lam:af)(kk:Nat)(Xa μ:List af)(r:R D):Prop:=
 ∀(A:aX)(outer:List Env)(s2:ag)(Q:VK)(E:XK),oF kk A->o0 P w K mg base A outer s2 H->Un fs [] H H h s2.heap->qW (Xk Cl E) K H Xa μ r Q->codeAny (ax P w) A (.call (.ref lam) ⟨[],[]⟩) (CR (rK P w Cl) outer P w H s2 Q E) s2
section
variable{Y:Cx}{Ex:Nat->Hp->Prop}{Cl:Nat->ae}{Ca:Nat->Nat}
def zf0{k i j:Nat}{T e:af}{x nf n y xT:au}{b:cT}{N:List au}{l:List cT}{J:DS}{X p1 p2 p3 p4 p5 p6 p7 p8 pq pc pos:Pos}{kc:_}{m:List (af×Obj)}{qv:St}{H:Hp}{s:ag}{f:af}{fd:dL}{fs:List af}{h0:aR}{Xa μ:List af}{r:R D}{Q:VK}
  (I:L2.Inv Y m qv H s) (F:L2.Fun Y.K x x b f fd) (hr:oF (k+1) Y.A)
  (Ot:sT b=.Assign [.Name y pq] (.Constant .none kc pc) X :: .Try [.Expr (.Call (.Name nf p1) [] [] p2) p3] [.ExceptHandler (XE (.Name xT p4)) (XE n) [.Assign [.Name y p5] (.Name n p6) p7] p8] [] [] pos::l)
  (S:rO N [nf] (qc b)) (hN:N.Nodup) (t_:N[0]?=XE nf) (hi:N[i]?=XE n) (hj:N[j]?=XE y) (uk:i≠j) (C2:j≠0) (hn:(qc b).names.lookup n=XE .local) (hy:(qc b).names.lookup y=XE .local) (AR:sD (qc b) nf)
  (hb:∀(t g u:ae)(B:Option af)(o C:ae)(L:List ae),L.length=1->bindArgs (bi x x (vm b) (sT b) (qc b) .none t g u B o C) ⟨L,[]⟩=pure ([nf].zip L))
  (y_:(qc b).names.lookup xT=XE .globalImplicit) (yU:Y.mg xT=XE (.ref T)) (zm:∀c,Cl c=.ref (Ca c)/\A3 Y.K (Ca c)/\fk Y.K (.ref (Ca c)) (.ref T)=XE Y1)
  (rQ:∀(f:af)(o:ae)(s:ag)(H:Hp),oF k (Y.A.deeper (aV x (qc b) s.heap.objs.size f o))->r8 (uz Cl Y.prog Y.w Y.K Y.mg Y.base N x (qc b) f o Y.A Y.stack s H E0) (Xk Cl E0) l J)
  (v9:∀p:ag,Un (rC Y.stack) [] H H s.heap p.heap->HOk Y.prog Y.w H p.heap->ku e p.heap) (th:Thk Cl Y.prog Y.w Y.K Y.mg Y.base fs H h0 e k Xa μ r) (M:∀s3:ag,Un (rC Y.stack) [] H H s.heap s3.heap->Un fs [] H H h0 s3.heap)
  (q:qW Ex Y.K H Xa μ (E3 Ca N.length j J r) Q)
  (Z:HK nf n y xT X p1 p2 p3 p5 p6 p7 pq pc kc:=by exact {}):
  aq (ax Y.prog Y.w) Y.A (call (.ref f) [.ref e]) (EP Y m qv Q) Y.xe s:=by
 have E:0<N.length:=(ak.mp t_).1;have GI:j<N.length:=(ak.mp hj).1;obtain⟨oc,od,t,g,u,B,o,C,sv,rfl,lk,qp⟩:=F.ex;have Kn:i3 s (bi x x (vm b) (sT b) (qc b) .none t g u B o C) ⟨[.ref e],[]⟩ ([nf].zip [.ref e]):=.of_eq (hb t g u B o C [.ref e] rfl);rw[Ot] at lk Kn;refine z98 (k:=k) (Q:=Q) (W:=J3 (Xk Cl E0) Y.K J { nx:=λ_ H'=>Q .non H',rt:=Q }) (i:=i) (j:=j) (T:=T) (Cl:=Cl) I hr lk qp S Kn v9 hN t_ hi hj uk C2 hn hy AR y_ yU ?_ ?_ Z
 ·intro p O e0 un;refine th _ _ p _ _ O e0 (M p un) ?_;cases r with
  |bad=>exact ai q
  | ok d O'=>
   intro v H3 P U G d3;refine⟨Xa,P,_,O',UJ (by rw[cL,Jj E]) ?_ AB,G,U3 (post.ext q U)⟩;rw[aY (by rw[Jj E];exact GI)]
  | exc cc O'=>
   intro H3 P U G;obtain⟨h1,h2,h3⟩:=zm cc;refine⟨Ca cc,h1,h3,λa V=>⟨Xa,P,_,O',UJ (v:=.ref a) (d:=.exn (Ca cc)) (by simp[Jj E]) ?_ ?_,G.laid V,U3 (post.ext q (U.trans (.laid V)))⟩⟩
   ·rw[aZ uk,aY (by simp[Jj E];exact GI)]
   ·unfold Xe;exact⟨a,_,rfl,⟨h2,λh z=>z⟩,.inl rG,G.not_in V⟩
 ·intro O;exact⟨_,(rQ f o _ H O).out,λσ' H' z=>z⟩
end
section
variable{X:Cx}{Ex:Nat->Hp->Prop}{Cl:Nat->ae}{Ca:Nat->Nat}
def zbo{k iT i j:Nat}{Pt c:af}{T:af}{x nf n y xT:au}{g:cT}{N:List au}{B:List cT}{R:DS}{G:DE}{a:eG}{body:aS}{scope:cf}{p0 p1 p2 p3 p4 p5 p6 p7 p8 pq pc pos pn pl pp:Pos}{kc:_}
  (h:qw X.K X.mg x g) (hr:oF (k+2) X.A)
  (Ot:sT g=.Assign [.Name y pq] (.Constant .none kc pc) p0 :: .Try [.Expr (.Call (.Name nf p1) [] [] p2) p3] [.ExceptHandler (XE (.Name xT p4)) (XE n) [.Assign [.Name y p5] (.Name n p6) p7] p8] [] [] pos::B)
  (S:rO N [nf] (qc g)) (hN:N.Nodup) (t_:N[0]?=XE nf) (hi:N[i]?=XE n) (hj:N[j]?=XE y) (uk:i≠j) (C2:j≠0) (hn:(qc g).names.lookup n=XE .local) (U:(qc g).names.lookup y=XE .local) (AR:sD (qc g) nf)
  (V:∀(kV W Y:ae)(an:Option af)(P ct:ae)(us:List ae),us.length=1->bindArgs (bi x x (vm g) (sT g) (qc g) .none kV W Y an P ct) ⟨us,[]⟩=pure ([nf].zip us))
  (y_:(qc g).names.lookup xT=XE .globalImplicit) (yU:X.mg xT=XE (.ref T)) (zm:∀c,Cl c=.ref (Ca c)/\A3 X.K (Ca c)/\fk X.K (.ref (Ca c)) (.ref T)=XE Y1)
  (rQ:∀(f:af)(P:ae)(s:ag)(H:Hp),oF (k+1) (X.A.deeper (aV x (qc g) s.heap.objs.size f P))->r8 (uz Cl X.prog X.w X.K X.mg X.base N x (qc g) f P X.A X.stack s H E0) (Xk Cl E0) B R)
  (L:uf X.mg X.base c Pt) (sh:X.env.code=.ref c) (u:Jl X.env.scope scope) (uW:defaultsOf a X.env=([],[]))
  (Dc:∀(name J:au)(cl:List (au×af))(Y M ct:ae),bindArgs (cr name J a body scope cl Y M ct) ⟨[],[]⟩=pure [])
  (hE:∀(q:au)(b:af)(M:ae)(cl:List (au×af))(A:aX)(l:List Env)(s:ag)(H:Hp)(E:XK),oF k (A.deeper (tx q scope s.heap.objs.size b M cl))->PD (Dr (rK X.prog X.w Cl) X.prog X.w X.K X.mg X.base X.N (tx q scope s.heap.objs.size b M cl) A l s H E) (Xk Cl E) body G)
  (hg:Gl X x)
  (tN:rH x:=by decide)
  (Z:HK nf n y xT p0 p1 p2 p3 p5 p6 p7 pq pc kc:=by exact {}):
  PD X Ex (.Call (.Name x pn) [.Lambda a body scope pl] [] pp) (Bq Pt iT Ca N.length j G R):=by
 refine⟨?_⟩;rintro Xd s b_ H Q I ⟨Xa,μ,σ,O,e1,c1,q⟩;obtain⟨f,fd,hm,F⟩:=h;have GY:0<N.length:=(ak.mp t_).1;have GI:j<N.length:=(ak.mp hj).1;have W2:i<N.length:=(ak.mp hi).1
 -- zP table
 obtain⟨ti,q⟩:oQ H Pt/\qW Ex X.K H Xa μ (E3 Ca N.length j R (G σ O)) Q:=by
  unfold Bq at q;split at q
  ·rename_i p hp;by_cases v8:p=Pt
   ·rw[JU v8] at q;obtain⟨v,_,d⟩:=e1.at_ iT _ hp;unfold Xe at d;rw[v8] at d;exact⟨d.2,q⟩
   ·rw[J5 v8] at q;exact ai q
  ·exact ai q
 have qg:∀y∈scope.names,y.2=.free->∃c,X.env.cells.lookup y.1=XE c:=λy U hf=>I.ok.has y.1 (u.frees y U hf);have rT:∀x c,(rX X.env.cells scope.names []).lookup x=XE c->X.env.cells.lookup x=XE c:=λx c e=>by
  rcases FK _ _ (bu e) with m|⟨m,z⟩
  ·cases m
  ·obtain⟨c',xy⟩:=qg (x,.free) m rfl;have um:X.env.cells.lookup x=XE c':=xy;rw[um] at z ⊢;rw[z];rfl
 have zo:∀x,scope.names.lookup x=XE .free->∃c,(rX X.env.cells scope.names []).lookup x=XE c:=λx e=>by
  have m:=FI (cells:=X.env.cells) scope.names [] (bu e);exact⟨_,yL (FU _ _ u.nd 'd' (by intro p hp;cases hp)) m⟩
 have EM:∀x,scope.names.lookup x=XE .free->X.env.scope.names.lookup x=XE .cell\/X.env.scope.names.lookup x=XE .free:=λx e=>u.frees (x,.free) (bu e) rfl;have rY:∀x,sD scope x->scope.names.lookup x=XE .free:=λx hx=>by
  rcases hx with z|z|z
  ·exact absurd rfl (u.loc _ (bu z))
  ·exact absurd rfl (u.cell _ (bu z))
  ·exact z
 refine fv (Fq I hg hm ?_ tN);refine ms (h₀:=X.base) I.ok.mod.kin F.kp ?_ (by rfl) (by rfl);show aq _ _ (spliced ((Y2,eval (.Lambda a body scope pl) X.env)::backTo pp (aF [] X.env))) _ _ s;refine jI (Rz I L sh ti (MY qg) uW λb M zp h' tk H' D ext cells Kj x9 qQ uw=>?_);refine j4 ⟨D.kIn,?_⟩;have GC:b∉rC X.stack:=by
  intro V;obtain⟨_,o,ho,_⟩:=I.stack.mem V;exact absurd (aK ho) (lP.mpr x9)
 obtain⟨cc,φ,rfl,uJ,NK⟩:=uw;refine zf0 (k:=k+1) (fs:=rC X.stack) (h0:=h') (Xa:=Xa) (μ:=μ) (r:=G σ O) D F hr Ot S hN t_ hi hj uk C2 hn U AR V y_ yU zm rQ (λs2 C _=>⟨_,_,_,_,C.keep b _ qQ Kj GC 'd'⟩) ?_ (λ_ C=>C) (post.ext q (ext μ)) Z;intro A l s2 Q2 E2 Gx e0 C qq;obtain⟨qn,NW⟩:=NK _ (e0.hok cc _ uJ).1;exact Yo (k:=k) (t:=G) (Xa:=Xa) (μ:=μ) (σd:=σ) (O:=O) Gx e0 (C.keep b _ qQ Kj GC 'd') NW u.co u.gen u.kind u.cell (Dc _ _ _ _ _ _) rY (Vu D C rT) (Tw D rT) zo (Va D C rT zo EM) D.len (hE _ _ _ _ _ _ _ _ _) (e1.ext (ext μ)) (cells Xa μ O c1) qq
end
def Zr{K:aj}{Ec:XK->Nat->Hp->Prop}{Pt:af}{F:pY}{H:Hp}{a:af}{ns:List Int}(h:∃O,F [.lst (ns.map .int)] []=.ok (.bl Y1) O)(b:H Pt=XE (.tbl #[]))(c:qY K H a (ns.map V.int)):DJ K Ec 1 Pt F [.ref a] H (λv _=>v=.bl Y1) λ_ _ _=>False:=by
 obtain⟨O,h⟩:=h;have d:∀(l:List Int),oC K H [] [] (l.map D.int) (l.map V.int):=λl=>by
  induction l with
  |nil=>exact .nil
  |cons x r ih=>exact .cons sV ih
 refine⟨rfl,[],[],[.lst (ns.map .int)],[],.cons ?_ .nil,⟨rfl,by simp,by simp,by simp,λk a e=>by simp at e⟩,oQ.empty b,?_⟩
 ·unfold Xe;exact⟨a,_,rfl,c.imp (λz=>⟨z,by simp,by simp⟩) id,d ns⟩
 ·rw[h];intro v f g _ _ r;unfold Xe at r;exact r
def Ac(h:sc.names.lookup z=YP):¬ sD sc z:=by intro v;rcases v with v|v|v<;>(rw[h] at v;cases v)
noncomputable def Pb(out sc:cf):Bool:=(match sc.kind with|.function=>Y1|_=>Y2) && !sc.isCoroutine && !sc.isGenerator&&decide ((sc.names.map (·.1)).Nodup)&&(sc.names.all λy=>!(y.2 == .cell) && !(y.2 == .local))&&(sc.names.all λy=>!(y.2 == .free)||out.names.lookup y.1==XE .cell||out.names.lookup y.1==XE .free)
def XR(h:Pb out sc=Y1):Jl out sc:=by
 unfold Pb at h;simp only[br,decide_eq_true_eq,ay] at h;obtain⟨⟨⟨⟨⟨b,d⟩,f⟩,g⟩,c⟩,i⟩:=h;refine⟨?_,by simpa using d,by simpa using f,g,λy a=>?_,λy a=>?_,λy a j=>?_⟩
 ·cases e:sc.kind<;>rw[e] at b<;>first|rfl|cases b
 ·have:=(c y a).1;simpa using this
 ·have:=(c y a).2;simpa using this
 ·have:=i y a;rw[j] at this;simpa using this
def zjo(X:K.In base)(g:mg x=XE (.ref C))(q:l8 K C Hz "ValueError.__new__" = Y1):K0 mg base x C:=by
 unfold l8 at q;split at q
 next dd cd sl ho=>
  split at q
  next C' bm k0 k1 k2 k3 n k5 hm hs=>
   simp only[br,beq_iff_eq,ef] at q;obtain⟨⟨⟨⟨⟨d,e⟩,b⟩,f⟩,a⟩,c⟩:=q;subst d;subst e;cases cd with
   | mk nm bs mro ns qn hd sn sub ab col del=>
    dsimp only at hm b a c;subst hm;subst b;cases sl with
    | mk l=>
     dsimp only at hs;subst hs;exact⟨g,bm,ns,nm,qn,bs,hd,sn,sub,ab,col,dd,k0,k1,k2,k3,k5,_,X _ _ ho,.of_isNs (PySem.W.isNs_of_in X a),PySem.W.nsMap_none_of_in X a c,PySem.W.tail_of_in X f⟩
  next=>cases q
 next=>cases q
def xck_of(d:dR K (.ref C) "__getattribute__" = XE (XE (.builtin "BaseException.__getattribute__")))(e:dR K (.ref C) "__getattr__" = XE YP)(f:oi K C=XE cd)
  (a:dR K (.ref C) "__class__" = XE (XE (.builtin "object.__class__"))) (g:iB K (.builtin "object.__class__") "__get__" = XE (XE (.builtin "getset_descriptor.__get__"))) (tk:kS K (.builtin "object.__class__")=XE Y1)
  (h:iM K C (.type "object")=XE Y1) (i:iM K C (.type "BaseException")=XE Y1)
  (k1:a7 K (.ref C) (.type "int")=XE Y2) (k2:a7 K (.ref C) (.type "bool")=XE Y2) (k3:a7 K (.ref C) (.type "str")=XE Y2) (j:a7 K (.ref C) (.type "list")=XE Y2) (k5:a7 K (.ref C) (.type "tuple")=XE Y2) (k:a7 K (.ref C) (.type "dict")=XE Y2):A3 K C:=
 ⟨d,e,⟨cd,f⟩,a,g,tk,h,i,λc b=>by
  simp only[ar,bU,or_false] at b;rcases b with rfl|rfl|rfl|rfl|rfl|rfl<;>assumption⟩
def Rc{K:aj}{x name d:au}{f c Pt:af}{b:eG}{body:List cT}{scope:cf}{i j e k l m g:ae}{n o h:Option af}{p q:Array (Option ae)}{vs:Array ae}(a:ip K bV x=XE (XE (.ref f)))
  (r:K.lookup f=XE ⟨m,o,.func (bi name d b body scope i j e k n (.ref c) l),p⟩) (s:K.lookup c=XE ⟨g,h,.fields vs,q⟩) (t:vs[11]?=XE (.ref Pt)):gW K x=XE (c,Pt):=by unfold gW;rw[a];simp only[r];show(match K.lookup c with|some ⟨_,_,.fields vs,_⟩=>_|_=>YP)=_;simp only[s,t]
def z75:bo "ValueError" = XE (.type "ValueError"):=by boot_by_name
structure oV(P:aJ)(w:aU)(ia:af)(fp:List af)(n:Nat)(Pv:Nat->ae->Prop)(Sx:Nat->aR->Prop):Prop where
 stab:∀i h h',Sx i h->(∀b∈ia::fp,∀o,h.get? b=XE o->h'.get? b=XE o)->Sx i h'
 item:∀(A:aX)(i:Nat)(s:ag)(Q:ae->ag->Prop)(E:ae->ag->Prop),i<n->Sx i s.heap->(∀v h' tk,Pv i v->Sx (i+1) h'->d6 ia s.heap h'->Q v { s with heap:=h',toks:=tk })->aq (ax P w) A (cF (.ref ia)) Q E s
 done:∀(A:aX)(i:Nat)(s:ag)(Q:ae->ag->Prop)(E:ae->ag->Prop),A.handled=YP->n<=i->Sx i s.heap->(∀h' e,m9 ia s.heap h'->(∃o,h'.get? e=XE o/\o.cls=.type "StopIteration")->E (.ref e) { s with heap:=h' })->aq (ax P w) A (cF (.ref ia)) Q E s
section
variable{P:aJ}{w:aU}{A:aX}{E:ae->ag->Prop}{s:ag}
def zgf{α:Type}{Q:α->ag->Prop}(c:A.handled=YP)(h:∀h' e,(∀b o,s.heap.get? b=XE o->h'.get? b=XE o)->(∃o,h'.get? e=XE o/\o.cls=.type "StopIteration")->E (.ref e) { s with heap:=h' }):
  aq (ax P w) A (newExc (.type "StopIteration") [] >>= λe=>(raiseNew e:Sem α)) Q E s:=by refine aa ?_;simp only[newExc,newTuple];refine aa (cx (?_) (by size_fits));refine aa (m:=firstArgMember _ _) (k9 (a:=.none) (by first|rfl|(simp only[firstArgMember];rfl)) (cx ?_ (by size_fits)));simp only[raiseNew];refine aa (wpAny_handled ?_);rw[c];refine aa (am (wpAny_throw (h _ _ (λb o e=>ah _ (ah _ e)) ⟨_,aM _ rfl,rfl⟩)))
def zco(j f:af)(items:Array ae)(I:f≠j):oV P w j [f] items.size (λi v=>items[i]?=XE v) (λi h=>h.IsTupleIter j f i/\h.IsTuple f items) where
 stab:=by
  rintro i h y ⟨⟨o,e,c,d⟩,⟨B,J,r⟩⟩ k;exact⟨⟨o,k j 'd' o e,c,d⟩,⟨B,k f 'd' B J,r⟩⟩
 item:=by
  rintro A i s Q E q ⟨a,t⟩ u;obtain⟨K,l,C,g⟩:=id a;obtain⟨D,m,F,G,n⟩:=id t;have p:items[i]?=XE items[i]:=dW q;unfold cF;refine aa (dH (name := "__next__") a.typeIs fM (dM fM a.typeIs jL ?_ (jv _)));show aq _ _ (field (.ref j) 0 >>= _) _ _ s;refine aa (bF l g (x:=.ref f) rfl ?_);show aq _ _ (if (c8 f==cZ)=Y1 then _ else _) _ _ s;rw[J5 (by exact cz)];show aq _ _ (field (.ref j) 1 >>= _) _ _ s;refine aa (bF l g (x:=.int i 0) rfl ?_);show aq _ _ (seqItems? (.ref f) >>= _) _ _ s;refine aa (cK m n ?_);simp only[mR,p];refine aa (gD l g 'd' (am ⟨_,rfl,am (u _ _ s.toks p ⟨?_,?_⟩ (fh ..))⟩))
  ·exact⟨_,bM _ l (d0 (dF g _)),(mQ ..).trans C,by rw[dF g];simp[dr]⟩
  ·exact⟨D,(fh ..).extBut _ _ I m,F,G,n⟩
 done:=by
  rintro A i s Q E H q ⟨a,t⟩ u;obtain⟨K,l,C,g⟩:=id a;obtain⟨D,m,F,G,n⟩:=id t;have p:items[i]?=YP:=by simp[q]
  unfold cF;refine aa (dH (name := "__next__") a.typeIs fM (dM fM a.typeIs jL ?_ (jv _)));show aq _ _ (field (.ref j) 0 >>= _) _ _ s;refine aa (bF l g (x:=.ref f) rfl ?_);show aq _ _ (if (c8 f==cZ)=Y1 then _ else _) _ _ s;rw[J5 (by exact cz)];show aq _ _ (field (.ref j) 1 >>= _) _ _ s;refine aa (bF l g (x:=.int i 0) rfl ?_);show aq _ _ (seqItems? (.ref f) >>= _) _ _ s;refine aa (cK m n ?_);simp only[mR,p];refine aa (eB (aa (gD l g 'd' ?_)));refine zgf (by first|exact H|(show A.in1.handled=YP;exact H)) λy e k L=>u y e (λb o M z=>k b o ((fh ..).extBut _ _ M z)) L
end
structure He(z ti to:af)(i1 i2:af)(tZ tP:List af):Prop where
 a1:ti≠z
 a2:to≠z
 a3:ti≠to
 b1:∀b∈i1::tZ,b≠z/\b≠to
 b2:∀b∈i2::tP,b≠z/\b≠to
 c1:i1∉i2::tP
 c2:i2∉i1::tZ
 d1:ti≠i1
 d2:ti≠i2
section
variable{P:aJ}{w:aU}{A:aX}{E:ae->ag->Prop}{s:ag}{z ti to i1 i2:af}{tZ tP:List af}{n1 n2 k:Nat}{P1 P2:Nat->ae->Prop}{S1 S2:Nat->aR->Prop}{a b:ae}
def oV.but(J:oV P w ia fp n Pv Sx)(x:Sx i h)(e:m9 c h h')(d:∀b∈ia::fp,b≠c):Sx i h':=J.stab i h h' x λb f o z=>e b o (d b f) z
def ziW{Q:ae->ag->Prop}(i:oV P w i1 tZ n1 P1 S1)(j:oV P w i2 tP n2 P2 S2)(D:He z ti to i1 i2 tZ tP)(l:j8 s.heap z ti to .none)(CO:fP s.heap ti (.ref i1) (.ref i2))(CN:fP s.heap to a b)(h1:S1 k s.heap)(h2:S2 k s.heap)(l1:k<n1)(l2:k<n2)
  (hq:∀x y h' tk,P1 k x->P2 k y->j8 h' z ti to (dr s.heap.objs.size)->fP h' to x y->S1 (k+1) h'->S2 (k+1) h'->fP h' s.heap.objs.size x y->
   (∀c o,c≠z->c≠to->c≠i1->c≠i2->s.heap.get? c=XE o->h'.get? c=XE o)->Q (.ref s.heap.objs.size) { s with heap:=h',toks:=tk }):
  aq (ax P w) A (eF.«zip.__next__» ⟨[.ref z],[]⟩) (λf s'=>∃v,f=.done (.ret v)/\Q v s') E s:=by
 have g:∀b∈i1::tZ,b≠z:=λb d=>(D.b1 b d).1;have h:∀b∈i2::tP,b≠z:=λb d=>(D.b2 b d).1;have H:∀b∈i1::tZ,b≠to:=λb d=>(D.b1 b d).2;have I:∀b∈i2::tP,b≠to:=λb d=>(D.b2 b d).2;have Nr:∀b∈i2::tP,b≠i1:=λb d e=>D.c1 (e▸d);have J:∀b∈i1::tZ,b≠i2:=λb d e=>D.c2 (e▸d);have R:i1∈i1::tZ:=av;have S:i2∈i2::tP:=av;show aq _ _ (field (.ref z) 2 >>= _) _ _ s;refine aa (bF l rfl rfl ?_);refine aa (bF l rfl rfl (aa (cK CO rfl ?_)));refine aa ?_;unfold d8;refine aa (bF l rfl rfl (am ?_));simp only[if_true];refine aa (eB (aa (bF l rfl rfl ?_)));refine aa (cI l 'd' λha za m=>?_);refine aa ?_;simp only[iX,nM,h9,lv];refine aa (aa (iO ?_));show aq _ _ (cF (.ref i1) >>= _) _ _ _;refine aa (i.item _ k _ _ _ l1 (i.but h1 m.extBut g) λx d u7 px Wo n=>am ?_);have T:=n.extBut _ _ (bw (H _ R)) (m.extBut _ _ D.a2 CN);refine aa (cK T rfl (aa (jh T λhc Wi p=>?_)));refine aa (eu (am (aa (aa (iO ?_)))));show aq _ _ (cF (.ref i2) >>= _) _ _ _;refine aa (j.item _ k _ _ _ l2 (j.but (j.but (j.but h2 m.extBut h) n.extBut Nr) p.extBut I) λy hd tk2 py K r=>am ?_);have U:=r.extBut _ _ (bw (I _ S)) Wi;refine aa (cK U rfl (aa (jh U λt B u=>?_)));have B:fP t to x y:=B;refine aa (eu (am (am (aa (cK B rfl (aa (jw ?_)))))));have V:t.objs.size=s.heap.objs.size:=by rw[u.1,r.1,p.1,n.1,m.1]
 have W:=u.extBut _ _ (bw D.a2) (r.extBut _ _ (bw (h _ S)) (p.extBut _ _ (bw D.a2) (n.extBut _ _ (bw (g _ R)) za)));have ke:∀c o,c≠z->c≠to->c≠i1->c≠i2->s.heap.get? c=XE o->t.get? c=XE o:=λc o C F L M e=>u.extBut _ _ F (r.extBut _ _ M (p.extBut _ _ F (n.extBut _ _ L (m.extBut _ _ C e))));have N:=i.but (i.but (i.but Wo p.extBut H) r.extBut J) u.extBut H;have O:=j.but K u.extBut I;have X:=aK W;refine aa ?_;unfold fx;have zf:j8 (t.push { cls:=.type "tuple",data:=.seq #[x,y] }) z ti to .ellipsis:=ah _ W;refine aa (cI zf 'd' λhg zg Y=>?_);refine cI zg 'd' λZ zi si=>?_;have G:∀c o,c≠z->t.get? c=XE o->Z.get? c=XE o:=λc o q e=>si.extBut _ _ q (Y.extBut _ _ q (ah _ e));have pi:=si.extBut _ _ (dO X) (Y.extBut _ _ (dO X) (aM _ rfl));rw[V] at zi pi;refine am ⟨_,rfl,?_⟩;rw[V];exact hq x y Z _ px py zi (G _ _ D.a2 B) (i.stab _ _ _ N λb d o e=>G b o (g b d) e) (j.stab _ _ _ O λb d o e=>G b o (h b d) e) pi λc o C F L M e=>G c o C (ke c o C F L M e)
def zhs(K:A.handled=YP)(u:oV P w i1 tZ n1 P1 S1)(v:oV P w i2 tP n2 P2 S2)(D:He z ti to i1 i2 tZ tP)(g:j8 s.heap z ti to .none)(U:fP s.heap ti (.ref i1) (.ref i2))(V:fP s.heap to a b)(L:S1 k s.heap)(W:S2 k s.heap)(l:n1<=k\/(k<n1/\n2<=k))
  (M:∀h' tk e,(∀c o,c≠z->c≠to->c≠i1->c≠i2->s.heap.get? c=XE o->h'.get? c=XE o)->(∃o,h'.get? e=XE o/\o.cls=.type "StopIteration")->E (.ref e) { s with heap:=h',toks:=tk }):
  aq (ax P w) A (eF.«zip.__next__» ⟨[.ref z],[]⟩) Q E s:=by
 have f:∀b∈i1::tZ,b≠z:=λb d=>(D.b1 b d).1;have m:∀b∈i2::tP,b≠z:=λb d=>(D.b2 b d).1;have X:∀b∈i1::tZ,b≠to:=λb d=>(D.b1 b d).2;have Y:∀b∈i2::tP,b≠to:=λb d=>(D.b2 b d).2;have Z:∀b∈i2::tP,b≠i1:=λb d e=>D.c1 (e▸d);have C:i1∈i1::tZ:=av;have m2:i2∈i2::tP:=av;show aq _ _ (field (.ref z) 2 >>= _) _ _ s;refine aa (bF g rfl rfl ?_);refine aa (bF g rfl rfl (aa (cK U rfl ?_)));refine aa ?_;unfold d8;refine aa (bF g rfl rfl (am ?_));simp only[if_true];refine aa (eB (aa (bF g rfl rfl ?_)));refine aa (cI g 'd' λha N i=>?_);refine aa ?_;simp only[iX,nM,h9,lv];refine aa (aa (iO ?_));show aq _ _ (cF (.ref i1) >>= _) _ _ _;have n:∀{h:aR}{e:af},j8 h z ti to .ellipsis->(∃o,h.get? e=XE o/\o.cls=.type "StopIteration")->e≠z:=λ{h e}g ⟨o,ho,y⟩ q=>by subst q;rw[g] at ho;cases ho;simp at y
 rcases l with l|⟨l1,l⟩
 ·refine aa (u.done _ k _ _ _ K l (u.but L i.extBut f) λd e p r=>?_);have O:=p _ _ (bw (f _ C)) N;have F:=n O r;obtain⟨G,H,I⟩:=r;exact cI O 'd' λy _ j=>M y _ e (λc o t _ J _ x=>j.extBut _ _ t (p _ _ J (i.extBut _ _ t x))) ⟨G,j.extBut _ _ F H,I⟩
 ·refine aa (u.item _ k _ _ _ l1 (u.but L i.extBut f) λx d u7 px Wo B=>am ?_);have R:=B.extBut _ _ (bw (X _ C)) (i.extBut _ _ D.a2 V);refine aa (cK R rfl (aa (jh R λy Wi j=>?_)));refine aa (eu (am (aa (aa (iO ?_)))));show aq _ _ (cF (.ref i2) >>= _) _ _ _;refine aa (v.done _ k _ _ _ K l (v.but (v.but (v.but W i.extBut m) B.extBut Z) j.extBut Y) λhd e p r=>?_);have S:=p _ _ (bw (m _ m2)) (j.extBut _ _ (bw D.a2) (B.extBut _ _ (bw (f _ C)) N));have F:=n S r;obtain⟨G,H,I⟩:=r;exact cI S 'd' λhf _ T=>M hf _ e (λc o t q2 J q4 x=>T.extBut _ _ t (p _ _ q4 (j.extBut _ _ q2 (B.extBut _ _ J (i.extBut _ _ t x))))) ⟨G,T.extBut _ _ F H,I⟩
def zi6{Q:Option ae->ag->Prop}(f:oV P w i1 tZ n1 P1 S1)(g:oV P w i2 tP n2 P2 S2)(D:He z ti to i1 i2 tZ tP)(d:j8 s.heap z ti to .none)(h:fP s.heap ti (.ref i1) (.ref i2))(i:fP s.heap to a b)(j:S1 k s.heap)(l:S2 k s.heap)(m:k<n1)(n:k<n2)
  (p:∀x y h' tk,P1 k x->P2 k y->j8 h' z ti to (dr s.heap.objs.size)->fP h' to x y->S1 (k+1) h'->S2 (k+1) h'->fP h' s.heap.objs.size x y->
   (∀c o,c≠z->c≠to->c≠i1->c≠i2->s.heap.get? c=XE o->h'.get? c=XE o)->Q (XE (.ref s.heap.objs.size)) { s with heap:=h',toks:=tk }):aq (ax P w) A (pyNext (.ref z)) Q E s:=by have e:s.TypeIs (.ref z) "zip":=⟨_,d,rfl⟩;exact aa (f6 (dH e ji (dM ji e nv (ziW f g D d h i j l m n λx y h' tk q r t u v B C F=>am (p x y h' tk q r t u v B C F)) (mS _))))
def zkP(g:A.handled=YP)(h:oV P w i1 tZ n1 P1 S1)(i:oV P w i2 tP n2 P2 S2)(D:He z ti to i1 i2 tZ tP)(d:j8 s.heap z ti to .none)(j:fP s.heap ti (.ref i1) (.ref i2))(l:fP s.heap to a b)(m:S1 k s.heap)(n:S2 k s.heap)(p:n1<=k\/(k<n1/\n2<=k))
  (q:∀h' tk,(∀c o,c≠z->c≠to->c≠i1->c≠i2->s.heap.get? c=XE o->h'.get? c=XE o)->Q YP { s with heap:=h',toks:=tk }):aq (ax P w) A (pyNext (.ref z)) Q E s:=by have f:s.TypeIs (.ref z) "zip":=⟨_,d,rfl⟩;refine aa (f6 (dH f ji (dM ji f nv (zhs g h i D d j l m n p λh' tk e r t=>?_) (mS _))));obtain⟨u,v,x⟩:=t;exact aa (wpAny_isInstance ⟨u,v,x⟩ isSubtype_stop (am (q _ tk r)))
end
inductive ZK where
 |tup (t:af) (items:Array ae)
 |str (x:au) (t:Tok)
 |lst (l:af) (items:Array ae)
def ZK.val:ZK->ae
 |.tup t _=>.ref t
 |.str x t=>.str x t
 |.lst l _=>.ref l
noncomputable def ZK.obj:ZK->Obj
 |.tup t _=>{ cls:=.type "tuple_iterator",data:=.fields #[.ref t,.int 0 0] }
 |.str x t=>{ cls:=.type "str_ascii_iterator",data:=.fields #[.str x t,.int 0 0] }
 |.lst l _=>{ cls:=.type "list_iterator",data:=.fields #[.ref l,.int 0 0] }
def ZK.pre(h:aR):ZK->Prop
 |.tup t items=>h.IsTuple t items
 |.str x _=>x.cps.all (· < 128)=Y1
 |.lst l items=>h.IsList l items
def ZK.keep(k:∀b o,h.get? b=XE o->h'.get? b=XE o):∀(q:ZK),q.pre h->q.pre h'
 |.tup t items,⟨o,e,r⟩=>⟨o,k _ _ e,r⟩
 |.str x t,e=>e
 |.lst l items,⟨o,e,r⟩=>⟨o,k _ _ e,r⟩
def ZK.iter(q:ZK)(h:q.pre s.heap)(a:Q (.ref s.heap.objs.size) { s with heap:=s.heap.push q.obj }):aq (ax P w) A (pyIter q.val) Q E s:=by
 cases q with
 |tup t items=>exact mB h a
 |str x t=>exact wpAny_pyIter_ascii h a
 |lst l items=>exact eV h a
abbrev zH(h:aR)(a b:ZK):aR:=(((((h.push a.obj).push b.obj).push { cls:=.type "tuple",data:=.seq #[.ref h.objs.size,.ref (h.push a.obj).objs.size] }).push { cls:=.type "tuple",data:=.seq #[.none,.none] }).push
 { cls:=.type "zip",data:=.fields #[.none,.bool Y2,.bool Y2,.ref ((h.push a.obj).push b.obj).objs.size,.ref (((h.push a.obj).push b.obj).push { cls:=.type "tuple",data:=.seq #[.ref h.objs.size,.ref (h.push a.obj).objs.size] }).objs.size] })
abbrev zA(h:aR)(a b:ZK):af:=((((h.push a.obj).push b.obj).push { cls:=.type "tuple",data:=.seq #[.ref h.objs.size,.ref (h.push a.obj).objs.size] }).push { cls:=.type "tuple",data:=.seq #[.none,.none] }).objs.size
def zhR(a b:ZK)(k l:ae)(n:a.val=k)(p:b.val=l):j9 (eF.«zip.__new__» ⟨[.type "zip",k,l],[]⟩) (λ_ R s=>a.pre s.heap/\b.pre s.heap/\R (.ok (.ret (.ref (zA s.heap a b)))) { s with heap:=zH s.heap a b }):=
 .of_wp λP w A R s h=>by
  obtain⟨f,g,d,i,j⟩:=s;obtain⟨q,r,h⟩:=h;have v:=sub_zip;have t:∀{E:ae->ag->Prop}{Q:ae->ag->Prop},Q (.ref f.objs.size) ⟨f.push a.obj,g,d,i,j⟩->aq (ax P w) A.in1 (pyIter k) Q E ⟨f,g,d,i,j⟩:=λ{E Q}hq=>by rw[<- n];exact a.iter (s:=⟨f,g,d,i,j⟩) q hq
  have m:b.pre (f.push a.obj):=b.keep (λc o e=>ah _ e) r;have u:∀{E:ae->ag->Prop}{Q:ae->ag->Prop},Q (.ref (f.push a.obj).objs.size) ⟨(f.push a.obj).push b.obj,g,d,i,j⟩->aq (ax P w) A.in1 (pyIter l) Q E ⟨f.push a.obj,g,d,i,j⟩:=λ{E Q}hq=>by rw[<- p];exact b.iter (s:=⟨f.push a.obj,g,d,i,j⟩) m hq
  wp_walk using t,u
  exact⟨_,rfl,h⟩
section
variable{P:aJ}{w:aU}{A:aX}{E:ae->ag->Prop}{s:ag}
def zbG(a b:ZK)(n:a.pre s.heap)(p:b.pre s.heap)
  (h:∀h',j8 h' (s.heap.objs.size+4) (s.heap.objs.size+2) (s.heap.objs.size+3) .none->fP h' (s.heap.objs.size+2) (.ref s.heap.objs.size) (.ref (s.heap.objs.size+1))->fP h' (s.heap.objs.size+3) .none .none->
   h'.get? s.heap.objs.size=XE a.obj->h'.get? (s.heap.objs.size+1)=XE b.obj->(∀c o,s.heap.get? c=XE o->h'.get? c=XE o)->Q (.ref (s.heap.objs.size+4)) { s with heap:=h' }):
  aq (ax P w) A (call (.type "zip") [a.val,b.val]) Q E s:=by
 refine callType_new F.called_zip 's' (F.typeCall_zip_2 _ _) (F.newCall_zip_2 _ _) (λd=>F.args_object_init_3 d _ _) F.entry_zip_new (zhR a b _ _ rfl rfl) ⟨n,p,?_⟩;have q:a.obj.isFreed=Y2:=by cases a<;>rfl
 have r:b.obj.isFreed=Y2:=by cases b<;>rfl
 have e:(s.heap.push a.obj).objs.size=s.heap.objs.size+1:=cJ ..;have f:((s.heap.push a.obj).push b.obj).objs.size=s.heap.objs.size+2:=by rw[cJ,e]
 have g:(((s.heap.push a.obj).push b.obj).push { cls:=.type "tuple",data:=.seq #[.ref s.heap.objs.size,.ref (s.heap.push a.obj).objs.size] }).objs.size=s.heap.objs.size+3:=by rw[cJ,f]
 have j:zA s.heap a b=s.heap.objs.size+4:=by show Array.size _=_;rw[cJ,g]
 have i:(zH s.heap a b).get? (zA s.heap a b)=XE _:=aM _ rfl;have k:(zH s.heap a b).get? (((s.heap.push a.obj).push b.obj).push { cls:=.type "tuple",data:=.seq #[.ref s.heap.objs.size,.ref (s.heap.push a.obj).objs.size] }).objs.size=XE _:=ah _ (aM _ rfl);have l:(zH s.heap a b).get? ((s.heap.push a.obj).push b.obj).objs.size=XE _:=ah _ (ah _ (aM _ rfl));have m:(zH s.heap a b).get? (s.heap.push a.obj).objs.size=XE _:=ah _ (ah _ (ah _ (aM _ r)));have t:(zH s.heap a b).get? s.heap.objs.size=XE _:=ah _ (ah _ (ah _ (ah _ (aM _ q))));rw[f,g,j] at i;rw[g] at k;rw[e,f] at l;rw[e] at m;rw[j];exact⟨⟨_,i,rfl⟩,h _ i l k t m λc o x=>ah _ (ah _ (ah _ (ah _ (ah _ x))))⟩
end
def Held(X:Cx)(H:Hp)(h:aR)(b:af):Prop:=H b≠YP \/ ∃o,X.base.get? b=XE o
def Held.far{X:Cx}{a:List (af×Obj)}{σ:St}{H:Hp}{s:ag}{b q:af}(I:L2.Inv X a σ H s)(x:Held X H s.heap b)(f:sS X a H q):b≠q:=by
 rintro rfl;rcases x with x|⟨o,e⟩
 ·exact x f.1
 ·rcases f.2.2.2.1 with z|z
  ·exact I.ok.noex b o e z
  ·exact absurd (a9 (aK e) I.ok.bsz) (lP.mpr z)
structure E4(P:aJ)(w:aU)(K:aj)(J:It)(ia:af)(S:Nat->aR->Prop):Prop where
 obj:∀i h,S i h->∃o,h.get? ia=XE o/\∀v,o.data ≠ .cell v
 keep:∀i h h',S i h->(∀o,h.get? ia=XE o->h'.get? ia=XE o)->S i h'
 got:∀(X:Cx),X.prog=P->X.w=w->X.K=K->∀(i:Nat)(Xd:List (af×Obj))(s:ag)(σ:St)(H:Hp),L2.Inv X Xd σ H s->sS X Xd H ia->S i s.heap->(J.go i H\/J.stop i H)->
  ∃fp n Pv Sx,oV P w ia fp n Pv Sx/\Sx i s.heap/\(∀j h,Sx j h->S j h)/\(J.go i H->i<n)/\(J.stop i H->n<=i)/\(∀v,Pv i v->∃x,RelV x v/\J.yld i H x H)/\∀b∈fp,Held X H s.heap b
section
variable{P:aJ}{w:aU}{K:aj}
def RA{X:Cx}{b:List (af×Obj)}{σ:St}{H:Hp}{s:ag}{a:af}{xs:List V}(I:L2.Inv X b σ H s)(h:rW X.K H a xs):Held X H s.heap a:=by
 rcases h with h|⟨o,d,n,c,_⟩
 ·exact .inl (by rcases h with h|⟨_,h⟩<;>(rw[h];simp))
 ·exact .inr ⟨o,I.ok.mod.kin a o c⟩
def My{xs:List V}{a:List ae}{i:Nat}{v:ae}(r:oE xs a)(e:a[i]?=XE v):∃x,xs[i]?=XE x/\RelV x v:=by
 have f:=r.length;have b:i<xs.length:=by have:=(ak.mp e).1;lia
 obtain⟨u,c,d⟩:=r.get (ao b);rw[e] at c;cases c;exact⟨_,ao b,d⟩
def Zz(a l:af):E4 P w K (OW K a) l (λi h=>h.IsTupleIter l a i) where
 obj:=λi h ⟨o,e,c,d⟩=>⟨o,e,λv z=>by rw[d] at z;cases z⟩
 keep:=λi h R ⟨o,e,c,d⟩ k=>⟨o,k o e,c,d⟩
 got:=by
  intro X B C D i q s S H I E F G;subst B C D;have J:∃g,rW X.K H a g:=by
   rcases G with⟨g,x,h,_⟩|⟨g,h,_⟩<;>exact⟨g,h⟩
  obtain⟨g,f⟩:=J;obtain⟨r,t,p,T⟩:=I.tuple f;have U:=t.length;refine⟨[a],_,_,_,zco l a r.toArray ((RA I f).far I E),⟨F,p⟩,λj h z=>z.1,λ⟨u,y,m,A⟩=>?_,λ⟨u,m,A⟩=>?_,λv L=>?_,λb M=>?_⟩
  ·have e:=I.tuple_inj m f;subst e;have:=(ak.mp A).1;simp;lia
  ·have e:=I.tuple_inj m f;subst e;simp;lia
  ·have n:r[i]?=XE v:=⇑L
   obtain⟨x,N,O⟩:=My t n;exact⟨x,O,rfl,λu Q=>by rw[I.tuple_inj Q f];exact N⟩
  ·have:b=a:=⇑M
   subst this;exact RA I f
end
def XA(J1 J2:It):It:=
 ⟨λi H=>J1.go i H/\J2.go i H,λi H v H'=>∃p x y,H p=YP/\v=.ref p/\J1.yld i H x H/\J2.yld i H y H/\H'=upd H p (.tup [x,y]),λi H=>J1.stop i H/\(J2.go i H\/J2.stop i H)\/J1.go i H/\J2.stop i H⟩
def XQ(z t o i j:af)(S1 S2:Nat->aR->Prop)(n:Nat)(h:aR):Prop:=j8 h z t o .none/\fP h t (.ref i) (.ref j)/\(∃a b,fP h o a b)/\S1 n h/\S2 n h
def zcT(z t o i j:af)(ap:[z,t,o,i,j].Nodup)(W:E4 P w K J1 i S1)(Y:E4 P w K J2 j S2):yc P w K (.Tuple es kt pt) (XA J1 J2) [z,t,o,i,j] z (XQ z t o i j S1 S2):=by
 simp only[bA,ar,bU,or_false,not_or,ix,and_true] at ap;obtain⟨⟨a1,a2,a3,a4⟩,⟨b1,b2,b3⟩,⟨c1,c2⟩,d1,_⟩:=ap;have Ta:∀{X:Cx}{d:List (af×Obj)}{s:ag}{C:St}{H:Hp}{Z tP:List af},L2.Inv X d C H s->(∀b∈[z,t,o,i,j],sS X d H b)->(∀b∈Z,Held X H s.heap b)->(∀b∈tP,Held X H s.heap b)->He z t o i j Z tP:=λ{X d s C H Z tP}I r h1 h2=>
  ⟨bw a1,bw a2,b1,λb f=>(ar.mp f).elim (λe=>by rw[e];exact⟨bw a3,bw c1⟩) λf=>⟨(h1 b f).far I (r z 'd'),(h1 b f).far I (r o 'd')⟩,
   λb f=>(ar.mp f).elim (λe=>by rw[e];exact⟨bw a4,bw c2⟩) λf=>⟨(h2 b f).far I (r z 'd'),(h2 b f).far I (r o 'd')⟩,
   λf=>(ar.mp f).elim d1 λf=>(h2 i f).far I (r i 'd') rfl,λf=>(ar.mp f).elim (bw d1) λf=>(h1 j f).far I (r j 'd') rfl,b2,b3⟩
 refine⟨by simp,λn h F b f=>?_,λn h h' F k=>?_,?_,?_,λA n s Q E F q=>wpAny_pyIter_zip F.1 q⟩
 ·obtain⟨J,G,⟨a,b',L⟩,M,N⟩:=F;simp only[ar,bU,or_false] at f;rcases f with rfl|rfl|rfl|rfl|rfl
  ·exact⟨_,J,λv e=>by cases e⟩
  ·exact⟨_,G,λv e=>by cases e⟩
  ·exact⟨_,L,λv e=>by cases e⟩
  ·exact W.obj n h M
  ·exact Y.obj n h N
 ·obtain⟨J,G,⟨a,b',L⟩,M,N⟩:=F;exact⟨k z 'd' _ J,k t 'd' _ G,⟨a,b',k o 'd' _ L⟩,W.keep n h h' M (k i 'd'),Y.keep n h h' N (k j 'd')⟩
 ·intro X O R S l n d s C H E I r F hg;obtain⟨g1,g2⟩:=hg;obtain⟨J,G,⟨a,b,L⟩,M,N⟩:=F;obtain⟨Z,n1,P1,T1,Z1,s1,u1,EU,qN,y1,f1⟩:=W.got X O R S n d s C H I (r i 'd') M (.inl g1);obtain⟨tP,n2,P2,T2,Z2,s2,u2,Xf,ql,y2,f2⟩:=Y.got X O R S n d s C H I (r j 'd') N (.inl g2);have D:=Ta I r f1 f2;subst O R S;refine wT I (zi6 Z1 Z2 D J G L s1 s2 (EU g1) (Xf g2) λx y h' tk px py q1 q2 q3 q4 q5 hk qt=>⟨_,rfl,?_⟩);obtain⟨vx,rx,yx⟩:=y1 x px;obtain⟨vy,ry,yy⟩:=y2 y py;refine wpAny_letOwnedTupleGo_zip q1 λT e1 U=>?_;have nb:∀q∈[z,t,o,i,j],s.heap.objs.size≠q:=λq hq e=>by
   have:∃m,s.heap.get? q=XE m:=by
    simp only[ar,bU,or_false] at hq;rcases hq with rfl|rfl|rfl|rfl|rfl
    ·exact⟨_,J⟩
    ·exact⟨_,G⟩
    ·exact⟨_,L⟩
    ·obtain⟨m,g,_⟩:=W.obj n _ M;exact⟨_,g⟩
    ·obtain⟨m,g,_⟩:=Y.obj n _ N;exact⟨_,g⟩
   obtain⟨m,g⟩:=this;exact absurd (aK g) (by rw[e];exact cw _)
  have B:∀c m,c∉[z,t,o,i,j]->s.heap.get? c=XE m->T.get? c=XE m:=λc m l e=>by
   simp only[ar,bU,or_false,not_or] at l;exact U.extBut _ _ l.1 (hk c m l.1 l.2.2.1 l.2.2.2.1 l.2.2.2.2 e)
  have I1:L2.Inv X d C H { s with heap:=T,toks:=tk }:=Inv.turns [z,t,o,i,j] I B r;have yS:T.get? s.heap.objs.size=XE { cls:=.type "tuple",data:=.seq #[x,y] }:=U.extBut _ _ (nb z 'd') q5;have V:H s.heap.objs.size=YP:=I.hok.fresh (aB _);have I2:L2.Inv X d C (upd H s.heap.objs.size (.tup [vx,vy])) { s with heap:=T,toks:=tk }:=by
   have un:Un (rC X.stack) [z,t,o,i,j] H (upd H s.heap.objs.size (.tup [vx,vy])) s.heap T:=by
    refine⟨λc m e _ _ l=>B c m l e,λc m e _ _ l=>⟨m.slots,B c m l e⟩,λc m e hn _=>?_,λc m e l=>⟨m,B c m l e⟩,λc zs e=>?_,λc m u e=>?_,λc ps e=>⟨#[],?_⟩⟩
    ·rw[pX (bq (aK e))];exact hn
    ·rw[pX (sk e V)];exact e
    ·rw[pX (sk e V)];exact e
    ·rw[pX (sk e V),e];simp
   have hok:HOk X.prog X.w (upd H s.heap.objs.size (.tup [vx,vy])) T:=by
    intro c u' e;by_cases l:c=s.heap.objs.size
    ·subst l;rw[rG] at e;cases e;exact⟨by show 2<=J8;decide,[x,y],.cons rx (.cons ry .nil),⟨_,yS,rfl,⟨_,rfl⟩,rfl⟩⟩
    ·rw[pX l] at e;refine(I1.hok c u' e).stay (λ_ _ _ q=>q) (λp q=>?_) λp zs q=>?_
     ·by_cases hp:p=s.heap.objs.size
      ·subst hp;rw[V] at q;cases q
      ·rw[pX hp];exact q
     ·by_cases hp:p=s.heap.objs.size
      ·subst hp;rw[V] at q;cases q
      ·rw[pX hp];exact q
   exact I.call (t':=tk) (d':=s.drawn) un hok I.bare λb f=>let ⟨_,f1,_,f3,f4,f5⟩:=r b f;⟨f3,f1,f4,f5⟩
  refine⟨.ref s.heap.objs.size,_,I2,rfl,⟨_,vx,vy,V,rfl,yx,yy,rfl⟩,⟨e1,?_,⟨_,_,U.extBut _ _ D.a2 q2⟩,?_,?_⟩,λb f=>?_⟩
  ·exact U.extBut _ _ D.a1 (hk _ _ D.a1 D.a3 D.d1 D.d2 G)
  ·exact u1 _ _ (Z1.but q3 U.extBut λb f=>(D.b1 b f).1)
  ·exact u2 _ _ (Z2.but q4 U.extBut λb f=>(D.b2 b f).1)
  ·rw[pX (bw (nb b f))];exact(r b f).1
 ·intro X O R S l n d s C H E I r F hg;obtain⟨J,G,⟨a,b,L⟩,M,N⟩:=F;have k1:J1.go n H\/J1.stop n H:=hg.elim (λz=>.inr z.1) λz=>.inl z.1;have k2:J2.go n H\/J2.stop n H:=hg.elim (λz=>z.2) λz=>.inr z.2;obtain⟨Z,n1,P1,T1,Z1,s1,u1,EU,qN,y1,f1⟩:=W.got X O R S n d s C H I (r i 'd') M k1;obtain⟨tP,n2,P2,T2,Z2,s2,u2,Xf,ql,y2,f2⟩:=Y.got X O R S n d s C H I (r j 'd') N k2;have D:=Ta I r f1 f2;subst O R S;refine wT I (zkP (I.ok.hd l) Z1 Z2 D J G L s1 s2 (hg.elim (λq=>.inl (qN q.1)) λq=>.inr ⟨EU q.1,ql q.2⟩) λh' tk hk qt=>⟨rfl,?_⟩);refine Inv.turns (t':=tk) [z,t,o,i,j] I (λc m l e=>?_) r;simp only[ar,bU,or_false,not_or] at l;exact hk c m l.1 l.2.2.1 l.2.2.2.1 l.2.2.2.2 e
noncomputable def zq:D->Option Src
 |.tup ds=>XE (.val ds)
 |_=>YP
def HQ(t:DA):DI:=λσ O=>(t σ O).bnd λxs O1=>match xs with
 | [x,y]=>match zq x,zq y with
  |some p,XE q=>.ok (.zip p q) O1
  |_,_=>.bad
 |_=>.bad
def oH.zipW(n:oH K J1 s1 H Xa μ)(o:oH K J2 s2 H Xa μ):oH K (XA J1 J2) (.zip s1 s2) H Xa μ:=by
 intro b h k e m c i;have f:=n b h k e m c i;have a:=o b h k e m c i;show match (match s1.get e i,s2.get e i with|some x,XE y=>XE (D.tup [x,y])|_,_=>YP) with|some d=>_|none=>_
 cases l:s1.get e i with
 | none=>
  rw[l] at f;refine .inl ⟨f,?_⟩;cases g:s2.get e i with
  |none=>rw[g] at a;exact .inr a
  |some d=>rw[g] at a;exact .inl a.1
 | some d1=>
  rw[l] at f;cases g:s2.get e i with
  |none=>rw[g] at a;exact .inr ⟨f.1,a⟩
  | some d2=>
   rw[g] at a;refine⟨⟨f.1,a.1⟩,λv t q=>?_⟩;obtain⟨p,x,y,j,rfl,r,s,rfl⟩:=q;exact⟨.laid j,c.laid j,Xe.newT c j (.cons (f.2 x h r).2.2 (.cons (a.2 y h s).2.2 .nil))⟩
section
variable{X:Cx}{Ex:Nat->Hp->Prop}{pos:Pos}{a b c e:aS}{Xd:List (af×Obj)}{b_:St}{H:Hp}{s:ag}{Xa μ:List af}{O:Ow}
def Ld(I:L2.Inv X Xd b_ H s)(c:oB X.K H Xa μ O)(h:Xe X.K H Xa μ d v)(r:RelV v u)(e:zq d=XE src):
  ∃(k:ZK)(J:It),k.val=u/\k.pre s.heap/\oH X.K J src H Xa μ/\∀f,∃S,E4 X.prog X.w X.K J f S/\∀h:aR,h.get? f=XE k.obj->S 0 h:=by
 cases d with
 | tup ds=>
  unfold Xe at h;obtain⟨q,j,rfl,l,g⟩:=h;cases e;cases r;obtain⟨i,_,p,_⟩:=I.tuple l.sq;exact⟨.tup q i.toArray,_,rfl,p,.tup l g,λf=>⟨_,Zz q f,λh z=>⟨_,z,rfl,rfl⟩⟩⟩
 |_=>cases e
def zge(C:Gl X "zip")(D:X.mg "zip" = YP)(E:tw X Ex [a,b] t)(F:aF [a,b] X.env=[(Y2,eval a X.env),(Y2,eval b X.env)]:=by rfl)(r:aF [b] X.env=[(Y2,eval b X.env)]:=by rfl):
  tu X Ex (.Tuple Dm kt pt) (.Call (.Name "zip" p) [a,b] [] pos) (HQ t):=by
 refine⟨?_⟩;rintro Xd s b_ H G I ⟨Xa,μ,σ,O,m,L,q⟩;refine kL (Bk I C D zfd (el (pS (E.out pos Xd s b_ H _ I (uS.go m L q (Q1:=λo g=>∃Xa h i j,oB X.K g Xa h i/\oC X.K g Xa h j o/\
   post Ex X.K (λH' M s J=>oH X.K J s H' Xa M) g Xa h (match j with|[x,y]=>(match zq x,zq y with|some p,XE q=>.ok (.zip p q) i|_,_=>.bad)|_=>.bad) G)
  λj i o g h u x k d p=>⟨Xa,h,i,j,k,d,p⟩)) λus f ⟨o,g,l,N,Xa,h,i,j,k,d,p⟩=>?_) (by rw[F,r]) (by rw[r];rfl)))
 split at p
 ·rename_i x y;split at p
  ·rename_i sp sq m u;obtain⟨v,w,rfl,P,Q⟩:=Ap d;obtain⟨u1,u2,rfl,R,S⟩:=Aq N;obtain⟨T,J1,U,V,W,Y⟩:=Ld l k P R m;obtain⟨Z,J2,v2,p2,t2,i2⟩:=Ld l k Q S u;rw[<- U,<- v2];refine zbG T Z V p2 λh' z g3 g4 g1 g2 hk=>?_;refine wpAny_pyIter_zip z ?_;have I2:L2.Inv X Xd b_ g { f with heap:=h',toks:=f.toks }:=l.kept hk;obtain⟨S1,N1,z1⟩:=Y f.heap.objs.size;obtain⟨S2,N2,z2⟩:=i2 (f.heap.objs.size+1);refine⟨f.heap.objs.size+4,[f.heap.objs.size+4,f.heap.objs.size+2,f.heap.objs.size+3,f.heap.objs.size,f.heap.objs.size+1],_,_,g,rfl,I2,zcT _ _ _ _ _ ?_ N1 N2,⟨z,g3,⟨_,_,g4⟩,z1 _ g1,z2 _ g2⟩,λb A=>?_,post.here p k (.zipW W t2)⟩
   ·have nn:∀(n:af),[n+4,n+2,n+3,n,n+1].Nodup:=λn=>by
     simp only[bA,ar,bU,or_false,not_or,ix,and_true];refine⟨⟨?_,?_,?_,?_⟩,⟨?_,?_,?_⟩,⟨?_,?_⟩,?_,not_false⟩<;>simp[af] at * <;> lia
    exact nn _
   ·have B:f.heap.objs.size<=b:=by
     simp only[ar,bU,or_false] at A;rcases A with rfl|rfl|rfl|rfl|rfl<;>lia
    exact l.fpOk (H':=g) B (l.hok.fresh B)
  ·exact ai p
 ·exact ai p
end
end DL
namespace DL
open PySem L2
open AutoSeq1 (wpAny_loadPart')
section
variable{P:aJ}{w:aU}{A:aX}{E:ae->ag->Prop}{s:ag}
variable{ea ia:af}{fp:List af}{n k:Nat}{Pv:Nat->ae->Prop}{Sx:Nat->aR->Prop}{old:ae}
def zfn(J:oV P w ia fp n Pv Sx)(u:iq s.heap ea ia (k:Nat) old)(X:Sx k s.heap)(Y:k<n)(j:∀b∈ia::fp,b≠ea)
  (Z:∀x h' tk ti,Pv k x->IsEnumOut h' ea ia ((k:Int)+1) x s.heap.objs.size->Sx (k+1) h'->h'.get? s.heap.objs.size=XE { cls:=.type "tuple",data:=.seq #[.int (k:Nat) ti,x] }->(∀b o,b≠ea->b≠ia->s.heap.get? b=XE o->h'.get? b=XE o)->Q (XE (.ref s.heap.objs.size)) { s with heap:=h',toks:=tk }):
  aq (ax P w) A (pyNext (.ref ea)) Q E s:=by
 have S:s.TypeIs (.ref ea) "enumerate":=⟨_,u,rfl⟩;have C:ea≠ia:=bw (j ia av);unfold pyNext;refine aa (f6 (dH (name := "__next__") S fC (dM fC S lc ?_ (kO _))));obtain⟨e,g,d,tk,f⟩:=s;show aq _ _ (field (.ref ea) 2 >>= _) _ _ _;refine aa (bF u rfl (x:=.ref ia) rfl (aa (J.item _ k _ _ _ Y X λx h a px D l=>?_)));have l:d6 ia e h:=l;have F:iq h ea ia (k:Nat) old:=(l.2 ea C).trans u;show aq _ _ (field (.ref ea) 3 >>= _) _ _ ⟨h,g,d,a,f⟩;refine aa (bF F rfl (x:=dr (k:Nat)) rfl ?_);show aq _ _ (field (.ref ea) 4 >>= _) _ _ ⟨h,g,d,a,f⟩;refine aa (bF F rfl (x:=(.none)) rfl ?_);show aq _ _ (mkInt (k:Nat) >>= _) _ _ ⟨h,g,d,a,f⟩;refine aa (wpAny_mkInt ?_);show aq _ _ (setField (.ref ea) 3 (dr ((k:Int)+1)) >>= _) _ _ ⟨h,g,d,a+1,f⟩;refine aa (cI F 'd' λv G m=>?_);have m:d6 ea h v:=m;have G:iq v ea ia ((k:Int)+1) old:=G;show aq _ _ (setField (.ref ea) 4 .none >>= _) _ _ ⟨v,g,d,a+1,f⟩;refine aa (cI G 'd' λc H p=>?_);have p:d6 ea v c:=p;have H:iq c ea ia ((k:Int)+1) old:=H;show aq _ _ (newTuple [.int (k:Nat) a,x] >>= _) _ _ ⟨c,g,d,a+1,f⟩;refine aa (jw ?_);have y:iq (c.push { cls:=.type "tuple",data:=.seq #[.int (k:Nat) a,x] }) ea ia ((k:Int)+1) old:=ah _ H;have T:c.objs.size=e.objs.size:=by rw[p.1,m.1,l.1]
 have I:ea<e.objs.size:=aK u;have U:(c.push { cls:=.type "tuple",data:=.seq #[.int (k:Nat) a,x] }).get? e.objs.size=XE { cls:=.type "tuple",data:=.seq #[.int (k:Nat) a,x] }:=by rw[<- T];exact aM _ rfl
 have V:∀b o,b≠ea->b≠ia->e.get? b=XE o->(c.push { cls:=.type "tuple",data:=.seq #[.int (k:Nat) a,x] }).get? b=XE o:=λb o i K z=>ah _ (p.extBut b o i (m.extBut b o i (l.extBut b o K z)));have W:Sx (k+1) (c.push { cls:=.type "tuple",data:=.seq #[.int (k:Nat) a,x] }):=J.stab _ _ _ (J.but (J.but D m.extBut j) p.extBut j) λb _ o z=>ah _ z;generalize c.push { cls:=.type "tuple",data:=.seq #[.int (k:Nat) a,x] } = h4 at y U V W;show aq _ _ (d8 (.ref ea) >>= _) _ _ ⟨h4,g,d,a+1,f⟩;rw[T];refine aa ?_;unfold d8;refine aa (bF y rfl (x:=(.none)) rfl (am ?_));simp only[if_true];refine aa (eB (aa (bF y rfl (x:=old) rfl (aa (cI y 'd' λB L q=>?_)))));have q:d6 ea h4 B:=q;have L:iq B ea ia ((k:Int)+1) x:=L;show aq _ _ (fx (.ref ea) (.ref e.objs.size) >>= _) _ _ ⟨B,g,d,a+1,f⟩;refine aa ?_;unfold fx;refine aa (cI L 'd' λM N r=>?_);have r:d6 ea B M:=r;have N:IsEnumOut M ea ia ((k:Int)+1) x e.objs.size:=N;refine cI N 'd' λO R t=>?_;have t:d6 ea M O:=t;have R:IsEnumOut O ea ia ((k:Int)+1) x e.objs.size:=R;refine aa (eu (am ⟨_,rfl,am (Z x O _ a px R (J.but (J.but (J.but W q.extBut j) r.extBut j) t.extBut j) ?_ λb o i K z=>t.extBut b o i (r.extBut b o i (q.extBut b o i (V b o i K z))))⟩));exact t.extBut _ _ (dO I) (r.extBut _ _ (dO I) (q.extBut _ _ (dO I) U))
def ziP(d:A.handled=YP)(J:oV P w ia fp n Pv Sx)(a:iq s.heap ea ia (k:Nat) old)(f:Sx k s.heap)(g:n<=k)(h:∀h',m9 ia s.heap h'->Q YP { s with heap:=h' }):aq (ax P w) A (pyNext (.ref ea)) Q E s:=by have c:s.TypeIs (.ref ea) "enumerate":=⟨_,a,rfl⟩;unfold pyNext;refine aa (f6 (dH (name := "__next__") c fC (dM fC c lc ?_ (kO _))));show aq _ _ (field (.ref ea) 2 >>= _) _ _ _;refine aa (bF a rfl (x:=.ref ia) rfl (aa (J.done _ k _ _ _ d g f λh' e i j=>?_)));obtain⟨l,m,o⟩:=j;exact aa (wpAny_isInstance (T := "StopIteration") (b:=Y1) ⟨l,m,o⟩ isSubtype_stop (am (h _ i)))
end
end DL
namespace DL
open PySem L2
def XC(J:It):It:=⟨J.go,λi H v H'=>∃p x,H p=YP/\v=.ref p/\J.yld i H x H/\H'=upd H p (.tup [.int (i:Nat),x]),J.stop⟩
def XY(ea ia:af)(S:Nat->aR->Prop)(n:Nat)(h:aR):Prop:=(∃old,iq h ea ia (n:Nat) old)/\S n h
def zdi(f i:af)(ap:f≠i)(N:E4 P w K J i S)(Gs:∀(A:aX)(n:Nat)(s:ag)(Q E:ae->ag->Prop),(∃o,iq s.heap f i (n:Nat) o)->Q (.ref f) s->aq (ax P w) A (pyIter (.ref f)) Q E s):yc P w K (.Tuple es kt pt) (XC J) [f,i] f (XY f i S):=by
 refine⟨by simp,λn h t b r=>?_,λn h R t k=>?_,?_,?_,λA n s Q E t q=>Gs A n s Q E t.1 q⟩
 ·obtain⟨⟨o,y⟩,z⟩:=t;simp at r;rcases r with rfl|rfl
  ·exact⟨_,y,λv e=>by cases e⟩
  ·exact N.obj n h z
 ·obtain⟨⟨o,y⟩,z⟩:=t;exact⟨⟨o,k f 'd' _ y⟩,N.keep n h R z (k i 'd')⟩
 ·intro X U V W d n j s G H E I B t D;obtain⟨⟨o,y⟩,z⟩:=t;obtain⟨fp,m,Pv,T,Z,Y,u1,EU,qN,y1,L⟩:=N.got X U V W n j s G H I (B i 'd') z (.inl D);have ne:∀b∈i::fp,b≠f:=λb r=>(ar.mp r).elim (λe=>by rw[e];exact bw ap) λr=>(L b r).far I (B f 'd');refine wT I (zfn Z y Y (EU D) ne λx R tk tki px q1 q2 q3 hk qt=>⟨_,rfl,?_⟩);obtain⟨M,rx,yx⟩:=y1 x px;refine wpAny_letOwnedTupleGo_enum q1 λO e1 e2=>?_;have nb:∀q∈[f,i],s.heap.objs.size≠q:=λq hq e=>by
   have:∃a,s.heap.get? q=XE a:=by
    simp at hq;rcases hq with rfl|rfl
    ·exact⟨_,y⟩
    ·obtain⟨a,g,_⟩:=N.obj n _ z;exact⟨_,g⟩
   obtain⟨a,g⟩:=this;exact absurd (aK g) (by rw[e];exact cw _)
  have l:∀c a,c∉[f,i]->s.heap.get? c=XE a->O.get? c=XE a:=λc a d e=>by
   simp at d;exact e2.extBut _ _ d.1 (hk c a d.1 d.2 e)
  have I1:=Inv.turns [f,i] I l B;have yS:=e2.extBut _ _ (nb f 'd') q3;have C:=I.hok.fresh (aB _);have I2:L2.Inv X j G (upd H s.heap.objs.size (.tup [.int (n:Nat),M])) { s with heap:=O,toks:=tk }:=by
   have un:Un (rC X.stack) [f,i] H (upd H s.heap.objs.size (.tup [.int (n:Nat),M])) s.heap O:=by
    refine⟨λc a e _ _ d=>l c a d e,λc a e _ _ d=>⟨a.slots,l c a d e⟩,λc a e hn _=>?_,λc a e d=>⟨a,l c a d e⟩,λc zs e=>?_,λc a u e=>?_,λc ps e=>⟨#[],?_⟩⟩
    ·rw[pX (bq (aK e))];exact hn
    ·rw[pX (sk e C)];exact e
    ·rw[pX (sk e C)];exact e
    ·rw[pX (sk e C),e];simp
   have hok:HOk X.prog X.w (upd H s.heap.objs.size (.tup [.int (n:Nat),M])) O:=by
    intro c u' e;by_cases d:c=s.heap.objs.size
    ·subst d;rw[rG] at e;cases e;exact⟨by show 2<=J8;decide,[.int (n:Nat) tki,x],.cons ⟨_,rfl⟩ (.cons rx .nil),⟨_,yS,rfl,⟨_,rfl⟩,rfl⟩⟩
    ·rw[pX d] at e;refine(I1.hok c u' e).stay (λ_ _ _ q=>q) (λp q=>?_) λp zs q=>?_
     ·by_cases F:p=s.heap.objs.size
      ·subst F;rw[C] at q;cases q
      ·rw[pX F];exact q
     ·by_cases F:p=s.heap.objs.size
      ·subst F;rw[C] at q;cases q
      ·rw[pX F];exact q
   exact I.call un hok I.bare λb r=>let ⟨_,L,_,f3,f4,f5⟩:=B b r;⟨f3,L,f4,f5⟩
  refine⟨.ref s.heap.objs.size,_,I2,rfl,⟨_,M,C,rfl,yx,rfl⟩,⟨⟨_,by exact_mod_cast e1⟩,?_⟩,λb r=>?_⟩
  ·exact u1 _ _ (Z.but q2 e2.extBut ne)
  ·rw[pX (bw (nb b r))];exact(B b r).1
 ·intro X U V W d n j s G H E I B t D;obtain⟨⟨o,y⟩,z⟩:=t;obtain⟨fp,m,Pv,T,Z,Y,u1,EU,qN,y1,L⟩:=N.got X U V W n j s G H I (B i 'd') z (.inr D);refine ziP (I.ok.hd d) Z y Y (qN D) λR eb=>⟨rfl,?_⟩;refine Inv.turns [f,i] I (λc a d e=>?_) B;simp at d;exact eb c a d.2 e
def zE(ds:List D):List D:=ds.zipIdx.map λq=>.tup [.int (q.2:Nat),q.1]
def UO(ds:List D)(i:Nat):(zE ds)[i]?=(ds[i]?).map λd=>D.tup [.int (i:Nat),d]:=by unfold zE;rw[bC,List.getElem?_zipIdx];cases ds[i]?<;>simp
def oH.enum(l:oH K J (.val ds) H Xa μ):oH K (XC J) (.val (zE ds)) H Xa μ:=by
 intro a b e j m c i;have f:match ds[i]? with|some d=>J.go i b/\∀x g,J.yld i b x g->Ext b e g e/\oB K g a e j/\Xe K g a e d x|none=>J.stop i b:=l a b e j m c i
 show match (zE ds)[i]? with|some d=>_|none=>_
 rw[UO];cases k:ds[i]? with
 |none=>rw[k] at f;exact f
 | some d1=>
  rw[k] at f;refine⟨f.1,λv g n=>?_⟩;obtain⟨p,x,h,rfl,o,rfl⟩:=n;exact⟨.laid h,c.laid h,Xe.newT c h (.cons sV (.cons (f.2 x b o).2.2 .nil))⟩
section
variable{s:ag}
def zcE:bo "enumerate" = XE (.type "enumerate"):=by boot_by_name
def UX(b d:af)(A:aX)(n:Nat)(s:ag)(Q E:ae->ag->Prop)(h:∃a,iq s.heap b d (n:Nat) a)(q:Q (.ref b) s):aq (ax P w) A (pyIter (.ref b)) Q E s:=by obtain⟨a,h⟩:=h;have c:s.TypeIs (.ref b) "enumerate":=⟨_,h,rfl⟩;refine wpAny_pyIter_slot c lC (dM lC c F.entry_enumerate_iter ?_ (F.args_enumerate_iter_1 _));exact am ⟨_,rfl, "enumerate",_,c,fC.lookup,q⟩
end
end DL
namespace DL
open PySem L2
open PyProof.Rows hiding St
section
variable{X:Cx}{Ex:Nat->Hp->Prop}{pos:Pos}{a b c:aS}{ta tb:DE}{Xd:List (af×Obj)}{H:Hp}{s:ag}{Xa μ:List af}{O:Ow}
def Qr(K:aj):R2:=λx y H Q=>∃a b ys,x=.ref a/\y=.ref b/\rW K H a []/\rW K H b ys/\Q (.ref b) H
def zix:qI X (dU .Add) (Qr X.K):=by
 intro Xd s L H x y v u Q I f g h;obtain⟨p,q,M,rfl,rfl,i,j,k⟩:=h;cases f;cases g;obtain⟨l,m,⟨⟨N,n,o,r⟩,d,t,w,z⟩,_⟩:=I.tuple i;obtain⟨A,P,⟨⟨R,B,C,D⟩,e,E,F,G⟩,_⟩:=I.tuple j;have J:l=[]:=by cases m;rfl
 subst J;subst t;subst E;subst z;subst G;exact jJ ⟨_,d,rfl⟩ ⟨_,e,rfl⟩ kn lZ iE iz (ik _ _) (PyProof.Rows.tuple_addW0 p q #[] A.toArray w F n B r D rfl) ⟨d,e,⟨.ref q,H,I,rfl,k⟩⟩
def zD:Ow->D->D->R D:=λO x y=>match x,y with
 |.tup [],.tup ys=>.ok (.tup ys) O
 |x,y=>rD O x y
def zf7:sF X Ex (λx y H Q=>Qr X.K x y H Q\/K9 X.K x y H Q) zD:=by
 intro H Xa μ O x y v w Q c f d q;unfold zD at q;split at q
 ·rename_i k;have e:=d;obtain⟨p,m,rfl,l,g⟩:=f;obtain⟨h,i,rfl,j,n⟩:=d;unfold oC at g;subst g;exact .inl ⟨p,h,i,rfl,rfl,l.sq,j.sq,post.here q c e⟩
 ·exact .inr (R9 H Xa μ O _ _ v w Q c f d q)
def zjE(d:PD X Ex a ta)(e:PD X Ex b tb):PD X Ex (.BinOp a .Add b pos) (g_ zD ta tb):=HW (qI.or zix SA) zf7 d e
end
end DL
namespace DL
open PySem L2
section
end
section
structure zoL(mg:au->Option ae)(x:au)(i:Int):Prop where
 ex:∃t,mg x=XE (.int i t)
end
section
variable{X:Cx}{Ex:Nat->Hp->Prop}{pos:Pos}{tg e:aS}{te:DE}
def EZ(g:Tg)(te:DE):DS:=λσ O=>(te σ O).bnS λd O1=>match g.put d σ with
 |some σ'=>.nx σ' O1
 |none=>.bad
def zjb(b:PD X Ex e te)(f:PG X tg (g.rd X.K))(h:fJ [tg] e pos.line X.env=pure Y2:=by rfl)(i:fK [tg] e X.env=pure YP:=by rfl)(j:(gK [tg] X.env).map (·.2)=[assign tg X.env]:=by rfl):uA X Ex (.Assign [tg] e pos) (EZ g te):=
 yK (LD b.out f h i j) λk y l O E z H m n q=>rd.goS m n q λd A v o s t x c r p=>by
  cases a:g.put d l with
  |none=>rw[a] at p;exact ai p
  | some σ'=>
   rw[a] at p;exact g.ok2 t r a λu w _=>p u o s .refl w c
end
end DL
namespace DL
open PySem L2 PySem.Spec PyProof.Rows
end DL
namespace DL
open PySem L2 PySem.Spec PyProof.Rows
open Sem (wp)
def Wc:fillsNumberSlot (.type "tuple") "mul" = pure Y2:=
 PySem.fillsNumberSlot_seq (id := "tuple.__mul__") (r:=XE (.builtin "tuple.__rmul__")) gi.lookup (by decide +kernel) kP.lookup (by decide +kernel)
def V0:seqRepeat? (.type "tuple")=pure (XE (.builtin "tuple.__mul__")):=by unfold seqRepeat?;rw[nw (T := "tuple") (name := "__mul__") (id := "tuple.__mul__") gi.lookup (by decide +kernel),nw (T := "tuple") (name := "__rmul__") (id := "tuple.__rmul__") kP.lookup (by decide +kernel)];rfl
def VY(a:Int)(t:Tok)(l:af)(items:Array ae)(n:Nat)(dd:Option af)(sl):
  j9 (eF.«int.__rmul__» ⟨[.int a t,.ref l],[]⟩) (λ_ R s=>s.heap.get? l=XE { cls:=.type "tuple",dict:=dd,data:=.seq items n,slots:=sl }/\R (.ok (.ret gO)) s):=
 .of_wp λb w A R s h=>by obtain⟨c,g,d,e,f⟩:=s;obtain⟨i,h⟩:=h;wp_walk;exact⟨_,rfl,h⟩
end DL
namespace DL
open PySem L2 PySem.Spec PyProof.Rows
end DL
namespace DL
open PySem L2
open AutoSeq1 (wpAny_loadPart')
section
variable{X:Cx}{Ex:Nat->Hp->Prop}{b e o:aS}{to:DE}
def Hu:Int->Int->Option D:=λi j=>if 0<=j then XE (.int (i/2 ^ j.toNat)) else YP
def KW:Int->Int->Option D:=gI lp
def Ku:Int->Int->Option D:=gI iK
def zjy:sF X Ex (rI (λ_ j=>0<=j) λi j=>.int (i/2 ^ j.toNat)) (fI Hu):=D6 λi j d h=>by
 unfold Hu at h;split at h
 ·rename_i a;cases h;exact⟨a,λ_ _ _ _=>sV⟩
 ·cases h
def zii:sF X Ex (vF λi j=>.int (lp i j)) (fI KW):=Eg λi j d h _ _ _ _=>by cases h;exact sV
def zki:sF X Ex (vF λi j=>.int (iK i j)) (fI Ku):=Eg λi j d h _ _ _ _=>by cases h;exact sV
def zci(l:af)(xs:Array ae)(n:Nat)(b:af)(a:Array ae)(m:Nat)(sl:Array (Option ae))(f:¬(!xs.isEmpty&&eM (xs.size+a.size))=Y1)(j:xs.size<=J8)(g:xs.size+a.size<=J8+1):
  j9 (eF.«list.extend» ⟨[.ref l,.ref b],[]⟩) (λ_ R s=>s.heap.get? l=XE { cls:=.type "list",data:=.seq xs n }/\s.heap.get? b=XE { cls:=.type "list",data:=.seq a m,slots:=sl }/\R (.ok (.ret .none)) { s with heap:=s.heap.update l (bH λx=>x++a) }):=
 .of_wp λc w A R s h=>by
  obtain⟨d,i,h⟩:=h;have k:(xs++a).size<=J8+1:=by rw[gp];exact g
  wp_walk using(fD d rfl),wpAny_loadPart' d,wpAny_loadPart' i
  exact⟨_,rfl,h⟩
def Yg(K:aj):V->List V->Hp->VK->Prop:=λx vs H Q=>∃l b xs zs,x=.ref l/\vs=[.ref b]/\H l=XE (.lst xs)/\qY K H b zs/\xs.length+zs.length<=J8/\Q .non (upd H l (.lst (xs++zs)))
def zkW:Xz X "list.extend" (Yg X.K):=by
 intro f s J H x L v M Q I j k h;obtain⟨l,b,N,O,rfl,rfl,g,m,P,q⟩:=h;cases j;obtain⟨u,rfl,p⟩:=k.one;cases p;obtain⟨z,a,n,r,R,e⟩:=I.lstM g;obtain⟨c,i,⟨t,w,y,A,d,B⟩,_⟩:=I.list m;obtain⟨S,C,T,D⟩:=t;subst A;subst d;subst B;have U:=i.length;have E:a.toArray.size+c.toArray.size<=J8:=by rw[aP,aP];lia
 have G:¬ (!a.toArray.isEmpty&&eM (a.toArray.size+c.toArray.size))=Y1:=by
  rw[zfe E,Bool.and_false];exact cz
 refine gL lD ⟨_,e,rfl⟩ F.entry_list_extend (F.args_list_extend_2 _ _)
  (zci l a.toArray n b c.toArray w D G (by rw[aP];lia) 'o') ⟨e,y,?_⟩
 refine⟨.non,_,I.lset g e 'd' (r.append i) ?_,rfl,q⟩;rw[aA];lia
def zr(to:DE)(t:DA):DE:=λσ O=>(to σ O).bnd λx O1=>match x with
 | .own k=>(t σ O1).bnd λys O2=>match ys,O2[k]? with
  | [y],XE ds=>match r_ O2 y with
   |some es=>if ds.length+es.length<=4000000 then .ok .non (O2.set k (ds++es)) else .bad
   |none=>.bad
  |_,_=>.bad
 |_=>.bad
def zdm(m:PD X Ex o to)(n:tw X Ex (e::es) t)(s:attributeBase o "extend" X.env (eval o X.env)=eval o X.env:=by rfl)
  (u:((backTo p9 (aF (e::es) X.env)).all (λx=>!x.1)&&(backToKw p9 (keywordEach [] X.env)).all (λx=>x.1.isSome)&&decide ((e::es).length+([]:List gC).length+(if ([]:List gC).isEmpty then 0 else 1)<30))=Y1:=by rfl)
  (z:(apos.endLine==p9.line)=Y1:=by rfl) (B:aF (e::es) X.env=(Y2,eval e X.env)::aF es X.env:=by rfl) (C:(backTo p9 (aF es X.env)).any (·.1)=Y2:=by rfl):
  PD X Ex (.Call (.Attribute o "extend" apos) (e::es) [] p9) (zr to t):=
 rS (Lc kN lD PySem.F.type_list_extend zkW m.out n.out s u z B C) λD μ σ O b_ H Q E G q=>rd.go E G q λd O1 v H1 f_ I x g r p=>by
  cases d with
  | own k=>
   have J:=r;obtain⟨A,rfl,K⟩:=r;obtain⟨ds,L,h1,M,h3⟩:=g.at_ k A K;refine⟨.inl ⟨rfl,L,.of M⟩,uS.go I g p λys O2 ws H2 N e3 P c R a=>?_⟩;split at a
   ·rename_i y Dm S;split at a
    ·rename_i zs T;obtain⟨U,a⟩:=post.ite a;obtain⟨w,rfl,V⟩:=uE R;have f:N[k]?=XE A:=by
      have:=J.ext P;obtain⟨A',W,Y⟩:=this;cases W;exact Y
     obtain⟨G8,Z,h,i,j⟩:=c.at_ k A f;rw[S] at h;cases h;obtain⟨pb,vz,rfl,sq,l⟩:=xq c V T;refine⟨A,pb,Z,vz,rfl,rfl,i,sq,aG (by rw[<- j.length,<- l.length];exact U) 's',?_⟩;exact post.ok a (.put (aO f) ⟨_,i⟩) (c.put f (j.append l)) AB
    ·exact ai a
   ·exact ai a
  |_=>exact ai p
end
set_option maxHeartbeats 1000000 in
def zc2(q:ZK)(a:ae)(i:q.val=a):
  j9 (eF.«enumerate.__new__» ⟨[.type "enumerate",a],[]⟩) (λ_ R s=>q.pre s.heap/\
   R (.ok (.ret (.ref (s.heap.push q.obj).objs.size))) { s with heap:=(s.heap.push q.obj).push { cls:=.type "enumerate",data:=.fields #[.none,.bool Y2,.ref s.heap.objs.size,dr 0,.none,.none] } }):=
 .of_wp λP w A R s h=>by
  obtain⟨b,g,d,e,f⟩:=s;obtain⟨j,h⟩:=h;have l:=sub_enumerate;have c:∀{A:aX}{E:ae->ag->Prop}{Q:ae->ag->Prop},Q (.ref b.objs.size) ⟨b.push q.obj,g,d,e,f⟩->aq (ax P w) A (pyIter a) Q E ⟨b,g,d,e,f⟩:=λ{A E Q}hq=>by rw[<- i];exact q.iter j hq
  wp_walk
  refine wpAny_stack_any λm=>am (?_);split
  ·rename_i k _ _ _ _ _;cases (k==fu "enumerate")
   ·wp_walk using c
    exact⟨_,rfl,h⟩
   ·wp_walk using c
    exact⟨_,rfl,h⟩
  ·wp_walk using c
   exact⟨_,rfl,h⟩
section
variable{P:aJ}{w:aU}{A:aX}{E:ae->ag->Prop}{s:ag}
def zaV(q:ZK)(e:q.pre s.heap)
  (h:∀h',iq h' (s.heap.objs.size+1) s.heap.objs.size 0 .none->h'.get? s.heap.objs.size=XE q.obj->(∀b o,s.heap.get? b=XE o->h'.get? b=XE o)->Q (.ref (s.heap.objs.size+1)) { s with heap:=h' }):
  aq (ax P w) A (call (.type "enumerate") [q.val]) Q E s:=by
 refine callType_new F.called_enumerate 's' (F.typeCall_enumerate_1 _) (F.newCall_enumerate_1 _) (λa=>F.args_object_init_2 a _) F.entry_enumerate_new (zc2 q _ rfl) ⟨e,?_⟩;have f:q.obj.isFreed=Y2:=by cases q<;>rfl
 have c:(s.heap.push q.obj).objs.size=s.heap.objs.size+1:=cJ ..;rw[c];have d:iq ((s.heap.push q.obj).push { cls:=.type "enumerate",data:=.fields #[.none,.bool Y2,.ref s.heap.objs.size,dr 0,.none,.none] }) (s.heap.objs.size+1) s.heap.objs.size 0 .none:=by
  have q:=aM (s.heap.push q.obj) (o:={ cls:=.type "enumerate",data:=.fields #[.none,.bool Y2,.ref s.heap.objs.size,dr 0,.none,.none] }) rfl;rw[c] at q;exact q
 exact⟨⟨_,d,rfl⟩,h _ d (ah _ (aM _ f)) λb o x=>ah _ (ah _ x)⟩
end
def ID(t:DA):DI:=λσ O=>(t σ O).bnd λxs O1=>match xs with
 | [x]=>match zq x with
  |some (.val ds)=>.ok (.val (zE ds)) O1
  |_=>.bad
 |_=>.bad
section
variable{X:Cx}{Ex:Nat->Hp->Prop}{pos:Pos}{a b:aS}{Xd:List (af×Obj)}{b_:St}{H:Hp}{s:ag}{Xa μ:List af}{O:Ow}
def zeg(o:Gl X "enumerate")(r:X.mg "enumerate" = YP)(u:tw X Ex [a] t)(w:aF [a] X.env=[(Y2,eval a X.env)]:=by rfl):
  tu X Ex (.Tuple Dm kt pt) (.Call (.Name "enumerate" p) [a] [] pos) (ID t):=by
 refine⟨?_⟩;rintro Xd s b_ H y I ⟨Xa,μ,W,O,z,A,q⟩;refine kL (Bk I o r zcE (el (pS (u.out pos Xd s b_ H _ I (uS.go z A q (Q1:=λk f=>∃Xa g h c,oB X.K f Xa g h/\oC X.K f Xa g c k/\
   post Ex X.K (λB C s J=>oH X.K J s B Xa C) f Xa g (match c with|[x]=>(match zq x with|some (.val c)=>.ok (.val (zE c)) h|_=>.bad)|_=>.bad) y)
  λc h k f g Y x i d p=>⟨Xa,g,h,c,i,d,p⟩)) λZ e ⟨k,f,j,D,Xa,g,h,c,i,d,p⟩=>?_) (by rw[w];rfl) (by rfl)))
 split at p
 ·rename_i x;split at p
  ·rename_i ts E;obtain⟨v,rfl,F⟩:=uE d;obtain⟨u1,rfl,G⟩:=vC D;obtain⟨L,J1,M,N,P,Q⟩:=Ld j i F G E;rw[<- M];refine zaV L N λh' l R S=>(UX (e.heap.objs.size+1) e.heap.objs.size _ 0 _ _ _ ⟨_,l⟩ ?_);have T:=j.kept S;obtain⟨S1,U,V⟩:=Q e.heap.objs.size;refine⟨e.heap.objs.size+1,[e.heap.objs.size+1,e.heap.objs.size],_,_,f,rfl,T,zdi _ _ (Nat.succ_ne_self _) U (UX _ _),⟨⟨_,l⟩,V _ R⟩,λb m=>?_,post.here p i (.enum P)⟩;have n:e.heap.objs.size<=b:=by
    simp at m;rcases m with rfl|rfl<;>lia
   exact j.fpOk n (j.hok.fresh n)
  ·exact ai p
 ·exact ai p
end
end DL
namespace TS
open PySem PyProof.Rows
abbrev G1:=Bool->be->Array be->Nat->Nat->Nat->StateT cb Sem (Option Nat)
abbrev M1:=Array be->Array be->StateT cb Sem (Array be)
def lay(xs:Array be)(at_:Nat)(m:List be):Array be:=m.zipIdx.foldl (λa x=>a.setIfInBounds (at_+x.2) x.1) xs
structure oY where
 g:G1
 lo:M1
 hi:M1
 at_:∀{M:iu}{A:aX}{E:ae->ag->Prop}{s:ag}{i:Nat}{st:cb}{Q:Bool->cb->Prop}{sa na pw sb nb J4:Nat}{kb:be},
  (J7 st)[i]?=XE (sa,na,pw)->(J7 st)[i+1]?=XE (sb,nb,J4)->(J6 st)[sb]?=XE kb->
  wpS M A E s (g Y2 kb (J6 st) sa na 0) (λr qN=>∃k,r=XE k/\(na-k=0->Q Y1 qN)/\(na-k≠0->∃ka,(J6 st)[sa+k+(na-k)-1]?=XE ka/\
   wpS M A E s (g Y1 ka (J6 st) sb nb (nb-1)) (λr2 ql=>∃m,r2=XE m/\(m=0->Q Y1 ql)/\(m≠0->
    wpS M A E s (if na-k<=m then lo ((J6 st).extract (sa+k) sb) ((J6 st).extract sb (sb+m)) else hi ((J6 st).extract (sa+k) sb) ((J6 st).extract sb (sb+m)))
     (λmg qf=>Q (failedOf qf).isNone (setArr qf (lay (J6 qf) (sa+k) mg.toList))) ql)) qN)) (setPending st (((J7 st).setIfInBounds i (sa,na+nb,pw)).eraseIdxIfInBounds (i+1)))->
  wpS M A E s (mergeAt' i) Q st
def tV{M:iu}{A:aX}{E:ae->ag->Prop}{s:ag}{b:cb}{a:Array be}{i:Nat}{x:be}{Q:be->cb->Prop}(h:a[i]?=XE x)(q:Q x b):wpS M A E s (elem' a i) Q b:=by rw[elem'_eq,h];exact aL q
def ziu{M:iu}{A:aX}{E:ae->ag->Prop}{s:ag}{σ:Type}{b a:σ}{Q:PUnit->σ->Prop}(q:Q ⟨⟩ a):wpS M A E s (set a) Q b:=fR (f:=λ_=>a) q
noncomputable def o3:oY:=by
 apply oY.mk
 case at_=>
  intro M A E s i st Q sa na pw sb nb J4 kb h1 h2 h3 h;show wpS M A E s (get >>= _) Q st;refine aE (g8 ?_);rw[show(J7 st)[i]?=_ from h1,show(J7 st)[i+1]?=_ from h2];refine aE (ziu (aE (tV h3 (aE (dN h ?_)))));rintro _ qN ⟨k,rfl,e0,e1⟩;by_cases hk:na-k=0
  ·show wpS M A E s (if (na-k==0)=Y1 then _ else _) Q qN;rw[JU (by rw[hk];rfl)];exact aL (e0 hk)
  ·show wpS M A E s (if (na-k==0)=Y1 then _ else _) Q qN;rw[J5 ⇑hk];obtain⟨ka,q1,q2⟩:=e1 hk;refine aE (tV q1 (aE (dN q2 ?_)));rintro _ ql ⟨m,rfl,f0,f1⟩;by_cases hm:m=0
   ·subst hm;exact aL (f0 rfl)
   ·show wpS M A E s (if (m==0)=Y1 then _ else _) Q ql;rw[J5 ⇑hm];have f2:=f1 hm;by_cases hc:na-k<=m
    ·rw[JU hc] at f2;show wpS M A E s (if na-k<=m then _ else _) Q ql;rw[JU hc];exact aE (dN f2 λmg qf q=>aE (fR (aE (g8 (aL q)))))
    ·rw[J5 hc] at f2;show wpS M A E s (if na-k<=m then _ else _) Q ql;rw[J5 hc];exact aE (dN f2 λmg qf q=>aE (fR (aE (g8 (aL q)))))
section
variable{prog:aJ}{w:aU}{A:aX}{E:ae->ag->Prop}{s:ag}{κ:ba}{st:cb}{kd:KT}
def ky(κ:ba)(x:be):κ.α:=(κ.keyOf x.1).getD κ.dflt
def uc(κ:ba)(x:be):Prop:=∃a,κ.keyOf x.1=XE a
abbrev Ty{α β:Type}(_:α->β):Type:=β
abbrev KT:Type:=Ty kindOf
def xg(prog:aJ)(w:aU)(A:aX)(s:ag)(κ:ba)(kd:KT):Prop:=∀(x y:be)(E':ae->ag->Prop){Q:Bool->ag->Prop},uc κ x->uc κ y->Q (κ.blt (ky κ x) (ky κ y)) s->aq (ax prog w) A (keyLt' kd x.1 y.1) Q E' s
def xg.one(e:κ.OneLt):xg prog w A s κ oneType':=λx y f Q ⟨a,c⟩ ⟨b,d⟩ q=>by
 have g:ky κ x=a:=by unfold ky;rw[c];rfl
 have h:ky κ y=b:=by unfold ky;rw[d];rfl
 rw[g,h] at q;exact e prog w A f s x.1 y.1 a b c d q
def Fg(a:xg prog w A s κ kd)(b:kindOf st=kd)(c:uc κ x)(d:uc κ y)(q:Q (XE (κ.blt (ky κ x) (ky κ y))) st):wpS (ax prog w) A E s (lt' x y) Q st:=by rw[lt'_eq];refine aE (g8 (aE (jx (f6 ?_))));rw[b];exact a x y _ c d ⟨rfl,aL q⟩
def uo(κ:ba)(left:Bool)(key x:be):Bool:=if left=Y1 then κ.blt (ky κ x) (ky κ key) else !κ.blt (ky κ key) (ky κ x)
def E_{α β:Type}{G:Prop}{H:α->β->Prop}(P:α->β->Prop)(h:(∀x y,H x y->P x y)->G)(k:∀x y,H x y->P x y):G:=h k
def ziO(V:xg prog w A s κ kd){left:Bool}{key:be}{F:Array be}{base n hint:Nat}{b:Nat->Bool}(W:kindOf st=kd)(X:uc κ key)(hb:∀i,i<n->∃x,F[base+i]?=XE x/\uc κ x/\uo κ left key x=b i)(hh:hint<n)(t:∀i j,i<=j->j<n->b j=Y1->b i=Y1)
  {Q:Option Nat->cb->Prop} (q:∀k,k<=n->(∀i,i<k->b i=Y1)->(∀i,k<=i->i<n->b i=Y2)->Q (XE k) st):wpS (ax prog w) A E s ((oY.g o3) left key F base n hint) Q st:=by
 have z:∀i,i<n->∀{Q:Option Bool->cb->Prop},Q (XE (b i)) st->wpS (ax prog w) A E s (elem' F (base+i) >>= λx=>if left=Y1 then lt' x key else lt' key x >>= λr=>pure (r.map λx=>!x)) Q st:=λi a Q Y=>by
  obtain⟨x,u,B,p⟩:=hb i a;refine aE (tV u ?_);unfold uo at p;cases left with
  | true=>
   rw[JU rfl] at p;rw[JU rfl];exact Fg V W B X (by rw[p];exact Y)
  | false=>
   rw[J5 's'] at p;rw[J5 's'];exact aE (Fg V W X B (aL (by show Q (XE (!κ.blt (ky κ key) (ky κ x))) st;rw[p];exact Y)))
 have y:∀i j,i<=j->i<n->j<n->b i=Y2->b j=Y2:=λi j uk a hj C=>by
  cases e:b j with
  |false=>rfl
  |true=>rw[t i j uk hj e] at C;cases C
 show wpS _ _ _ _ (_ >>= _) Q st;refine aE (z hint hh ?_);apply E_ (α:=Nat) (β:=Nat) (H:=λd a=>d<=a/\a<=n/\(∀i,i<d->b i=Y1)/\(∀i,a<=i->i<n->b i=Y2));intro key;cases Z:b hint with
 | true=>
  refine aE (dN (cO (I:=λk c f=>f=st/\∃l o,c=(YP,l,o)/\l<o/\k+1<=o/\hint+l<n/\b (hint+l)=Y1) (Q:=λc f=>f=st/\∃l o,c=(YP,l,o)/\l<o/\hint+l<n/\b (hint+l)=Y1/\(hint+o<n->b (hint+o)=Y2)) ?_ ?_ ?_) ?_)
  ·rintro k c f _ yW ⟨L,l,o,rfl,u,B,p,v⟩;subst f;show wpS _ _ _ _ (if o ≥ n-hint then _ else _) _ st;by_cases D:o ≥ n-hint
   ·rw[JU D];exact aL ⟨rfl,l,o,rfl,u,p,v,λh=>by lia⟩
   ·rw[J5 D];refine aE (z (hint+o) 'o' ?_);cases M:b (hint+o) with
    |true=>exact aL ⟨rfl,o,2*o+1,rfl,by lia,by lia,by lia,M⟩
    |false=>exact aL ⟨rfl,l,o,rfl,u,p,v,λ_=>M⟩
  ·rintro c f ⟨L,l,o,rfl,u,B,p,v⟩;subst f;exact⟨rfl,l,o,rfl,u,p,v,λh=>by rw[d7] at B;lia⟩
  ·exact⟨rfl,0,1,rfl,by lia,by lia,by lia,Z⟩
  ·rintro c f ⟨L,l,o,rfl,u,p,v,S⟩;subst f;have N:hint+l+1<=hint+min o (n-hint):=by lia
   have O:hint+min o (n-hint)<=n:=by lia
   have P:∀i,i<hint+l+1->b i=Y1:=λi a=>t i (hint+l) 'o' p v;have C:∀i,hint+min o (n-hint)<=i->i<n->b i=Y2:=λi a R=>by
    have:hint+o<n:=by lia
    exact y (hint+o) i 'o' this R (S this)
   show wpS _ _ _ _ (forIn [:n] (YP,hint+l+1,hint+min o (n-hint)) _ >>= _) Q st;generalize hint+l+1=d at *;generalize hint+min o (n-hint)=a at *;exact key _ _ ⟨N,O,P,C⟩
 | false=>
  refine aE (dN (cO (I:=λk c f=>f=st/\∃l o,c=(YP,l,o)/\l<o/\k+1<=o/\l<=hint/\b (hint-l)=Y2) (Q:=λc f=>f=st/\∃l o,c=(YP,l,o)/\l<o/\l<=hint/\b (hint-l)=Y2/\(o<=hint->b (hint-o)=Y1)) ?_ ?_ ?_) ?_)
  ·rintro k c f _ yW ⟨L,l,o,rfl,u,B,p,v⟩;subst f;show wpS _ _ _ _ (if o ≥ hint+1 then _ else _) _ st;by_cases D:o ≥ hint+1
   ·rw[JU D];exact aL ⟨rfl,l,o,rfl,u,p,v,λh=>by lia⟩
   ·rw[J5 D];refine aE (z (hint-o) 'o' ?_);cases M:b (hint-o) with
    |true=>exact aL ⟨rfl,l,o,rfl,u,p,v,λ_=>M⟩
    |false=>exact aL ⟨rfl,o,2*o+1,rfl,by lia,by lia,by lia,M⟩
  ·rintro c f ⟨L,l,o,rfl,u,B,p,v⟩;subst f;exact⟨rfl,l,o,rfl,u,p,v,λh=>by rw[d7] at B;lia⟩
  ·exact⟨rfl,0,1,rfl,by lia,by lia,by lia,Z⟩
  ·rintro c f ⟨L,l,o,rfl,u,p,v,S⟩;subst f;have N:hint+1-min o (hint+1)<=hint-l:=by lia
   have O:hint-l<=n:=by lia
   have P:∀i,i<hint+1-min o (hint+1)->b i=Y1:=λi a=>by
    have:o<=hint:=by lia
    exact t i (hint-o) 'o' 'o' (S this)
   have C:∀i,hint-l<=i->i<n->b i=Y2:=λi a R=>y (hint-l) i a 'o' R v;show wpS _ _ _ _ (forIn [:n] (YP,hint+1-min o (hint+1),hint-l) _ >>= _) Q st;generalize hint+1-min o (hint+1)=d at *;generalize hint-l=a at *;exact key _ _ ⟨N,O,P,C⟩
 rintro d a ⟨N,O,P,C⟩;refine aE (dN (cO (I:=λk c T=>T=st/\∃d a,c=(YP,d,a)/\d<=a/\a<=n/\a-d<=n-k/\(∀i,i<d->b i=Y1)/\(∀i,a<=i->i<n->b i=Y2)) (Q:=λc T=>T=st/\∃m,c=(YP,m,m)/\m<=n/\(∀i,i<m->b i=Y1)/\(∀i,m<=i->i<n->b i=Y2)) ?_ ?_ ?_) ?_)
 ·rintro k c U _ yW ⟨rfl,d,a,rfl,g1,G,g3,J,K⟩;show wpS _ _ _ _ (if d ≥ a then _ else _) _ U;by_cases D:d ≥ a
  ·rw[JU D];have:d=a:=by lia
   subst this;exact aL ⟨rfl,d,rfl,G,J,K⟩
  ·rw[J5 D];refine aE (z (d+(a-d)/2) 'o' ?_);cases uK:b (d+(a-d)/2) with
   |true=>exact aL ⟨rfl,d+(a-d)/2+1,a,rfl,by lia,G,by lia,λi y0=>t i (d+(a-d)/2) 'o' 'o' uK,K⟩
   |false=>exact aL ⟨rfl,d,d+(a-d)/2,rfl,by lia,by lia,by lia,J,λi y0 R=>y (d+(a-d)/2) i y0 'o' R uK⟩
 ·rintro c U ⟨rfl,d,a,rfl,g1,G,g3,J,K⟩;rw[d7] at g3;have:d=a:=by lia
  subst this;exact⟨rfl,d,rfl,G,J,K⟩
 ·exact⟨rfl,d,a,rfl,N,O,by lia,P,C⟩
 ·rintro c U ⟨rfl,m,rfl,G,J,K⟩;exact aL (q m G J K)
end
section
variable{κ:ba}
def Le(κ:ba)(x y:be):Prop:=κ.blt (ky κ y) (ky κ x)=Y2
def Le.refl(x:be):Le κ x x:=κ.irrefl _
def Le.trans(a:Le κ x y)(b:Le κ y z):Le κ x z:=by
 unfold Le at *;cases e:κ.blt (ky κ z) (ky κ x) with
 |false=>rfl
 | true=>
  rcases κ.negTrans _ (ky κ y) _ e with h|h
  ·rw[b] at h;cases h
  ·rw[a] at h;cases h
def Le.of(h:κ.blt (ky κ x) (ky κ y)=Y1):Le κ x y:=by
 unfold Le;cases e:κ.blt (ky κ y) (ky κ x) with
 |false=>rfl
 | true=>
  have:=κ.trans _ _ _ h e;rw[κ.irrefl] at this;cases this
def qB(κ:ba)(l:List be):Prop:=l.Pairwise (Le κ)
structure Out(κ:ba)(a b r:List be):Prop where
 perm:r.Perm (a++b)
 srt:qB κ r
structure Mg(κ:ba)(a b o:List be)(i j:Nat):Prop where
 perm:o.Perm (a.take i++b.take j)
 srt:qB κ o
 la:∀x∈o,∀y∈a.drop i,Le κ x y
 lb:∀x∈o,∀y∈b.drop j,Le κ x y
variable{a b o:List be}{i j:Nat}
def Mg.len(h:Mg κ a b o i j)(c:i<=a.length)(d:j<=b.length):o.length=i+j:=by rw[h.perm.length_eq,aA,bT,bT];lia
def Tt{α:Type}(l:List α)(i k:Nat){x:α}(h:x∈l.drop (i+k)):x∈l.drop i:=by rw[<- eH] at h;exact c9 h
def qB.take_drop(h:qB κ l)(k:Nat):∀x∈l.take k,∀y∈l.drop k,Le κ x y:=by unfold qB at h;rw[<- cB k l,bI] at h;exact h.2.2
def Mg.addA(h:Mg κ a b o i j)(f:qB κ a)(k:Nat)(d:∀y∈(a.drop i).take k,∀z∈b.drop j,Le κ y z):Mg κ a b (o++(a.drop i).take k) (i+k) j:=by
 have e:qB κ (a.drop i):=f.sublist (di i a);refine⟨?_,?_,λx hx y c=>?_,λx hx y c=>?_⟩
 ·rw[oj];refine(h.perm.append_right _).trans ?_;rw[bh,bh];exact(cP).append_left _
 ·unfold qB;rw[bI];exact⟨h.srt,e.sublist (cR k _),λx hx y c=>h.la x hx y (cG c)⟩
 ·rcases aQ.mp hx with hx|hx
  ·exact h.la x hx y (Tt a i k c)
  ·exact e.take_drop k x hx y (by rw[eH];exact c)
 ·rcases aQ.mp hx with hx|hx
  ·exact h.lb x hx y c
  ·exact d x hx y c
def Mg.addB(h:Mg κ a b o i j)(f:qB κ b)(k:Nat)(d:∀y∈(b.drop j).take k,∀z∈a.drop i,Le κ y z):Mg κ a b (o++(b.drop j).take k) i (j+k):=by
 have e:qB κ (b.drop j):=f.sublist (di j b);refine⟨?_,?_,λx hx y c=>?_,λx hx y c=>?_⟩
 ·rw[oj];refine(h.perm.append_right _).trans ?_;rw[bh]
 ·unfold qB;rw[bI];exact⟨h.srt,e.sublist (cR k _),λx hx y c=>h.lb x hx y (cG c)⟩
 ·rcases aQ.mp hx with hx|hx
  ·exact h.la x hx y c
  ·exact d x hx y c
 ·rcases aQ.mp hx with hx|hx
  ·exact h.lb x hx y (Tt b j k c)
  ·exact e.take_drop k x hx y (by rw[eH];exact c)
def Mg.fin(h:Mg κ a b o i j)(d:qB κ a)(e:qB κ b)(f:∀x∈a.drop i,∀y∈b.drop j,Le κ x y):Out κ a b (o++a.drop i++b.drop j):=by
 refine⟨?_,?_⟩
 ·refine((h.perm.append_right _).append_right _).trans ?_
  conv=>rhs;rw[<- cB i a,<- cB j b]
  simp only[bh];refine gE _ ?_;rw[<- bh,<- bh];exact cP.append_right _
 ·unfold qB;rw[bI,bI];refine⟨⟨h.srt,d.sublist (di i a),h.la⟩,e.sublist (di j b),λx g y c=>?_⟩;rcases aQ.mp g with h'|h'
  ·exact h.lb x h' y c
  ·exact f x h' y c
def Mg.fin'(h:Mg κ a b o i j)(c:qB κ a)(d:qB κ b)(e:∀y∈b.drop j,∀x∈a.drop i,Le κ y x):Out κ a b (o++b.drop j++a.drop i):=by have f:Mg κ b a o j i:=⟨h.perm.trans cP,h.srt,h.lb,h.la⟩;have:=f.fin d c e;exact⟨this.perm.trans cP,this.srt⟩
def Bu{l:List be}{i:Nat}{x:be}(h:l[i]?=XE x):(l.drop i).take 1=[x]:=by obtain⟨c,rfl⟩:=ak.mp h;rw[cm c];rfl
def D_(h:qB κ l)(e:l[i]?=XE x):∀y∈l.drop i,Le κ x y:=by
 obtain⟨c,rfl⟩:=ak.mp e;intro y hy;rw[cm c] at hy;have d:qB κ (l.drop i):=h.sublist (di i l);rw[cm c] at d;rcases ar.mp hy with rfl|hy
 ·exact Le.refl _
 ·exact(bK.mp d).1 y hy
end
structure oM(st h_:cb):Prop where
 kind:kindOf h_=kindOf st
 arr:J6 h_=J6 st
 pend:J7 h_=J7 st
 failed:failedOf h_=failedOf st
def oM.refl(a:cb):oM a a:=⟨rfl,rfl,rfl,rfl⟩
def oM.trans(h:oM a b)(g:oM b c):oM a c:=⟨g.kind.trans h.kind,g.arr.trans h.arr,g.pend.trans h.pend,g.failed.trans h.failed⟩
section
variable{prog:aJ}{w:aU}{A:aX}{E:ae->ag->Prop}{s:ag}{κ:ba}{st:cb}{kd:KT}
def xM{a:Array be}{i:Nat}(h:i<a.size):∃x,a[i]?=XE x/\a.toList[i]?=XE x:=⟨a[i],by simp[h],by simp[h]⟩
def RN(b:oM st (f st))(h:∀a,oM st a->Q ⟨⟩ a):wpS M A E s (modify f) Q st:=fR (h _ b)
def Iy(a:Array be)(i:Nat):(a.extract i).toList=a.toList.drop i:=by simp only[lS,kg];exact dg 'd'
def Lr(a:Array be)(i k:Nat):(a.extract i (i+k)).toList=(a.toList.drop i).take k:=by simp
def Qk{a b:List be}{c:Array be}{d e:Nat}{x:be}(m:Mg κ a b c.toList d e)(g:qB κ a)(f:a[d]?=XE x)(h:∀z∈b.drop e,Le κ x z):Mg κ a b (c.push x).toList (d+1) e:=by have:=m.addA g 1 (by rw[Bu f];intro y i;rw[dG.mp i];exact h);rw[Bu f] at this;rw[gq];exact this
def PM{a b:List be}{c:Array be}{d e:Nat}{x:be}(m:Mg κ a b c.toList d e)(g:qB κ b)(f:b[e]?=XE x)(h:∀z∈a.drop d,Le κ x z):Mg κ a b (c.push x).toList d (e+1):=by have:=m.addB g 1 (by rw[Bu f];intro y i;rw[dG.mp i];exact h);rw[Bu f] at this;rw[gq];exact this
def Ed(C:xg prog w A s κ kd){left:Bool}{key:be}{c:Array be}{base n hint:Nat}{L:List be}(B:(c.toList.drop base).take n=L)(D:kindOf st=kd)(F:uc κ key)(O:base+n<=c.size)(G:hint<n)(r:∀x∈L,uc κ x)(t:qB κ L)
  {Q:Option Nat->cb->Prop} (q:∀k,k<=n->(∀x∈L.take k,uo κ left key x=Y1)->(∀x∈L.drop k,uo κ left key x=Y2)->Q (XE k) st):wpS (ax prog w) A E s ((oY.g o3) left key c base n hint) Q st:=by
 have H:L.length=n:=by
  rw[<- B,bT,cq,aN];lia
 have l:∀i,i<n->∃x,c[base+i]?=XE x/\L[i]?=XE x:=λi d=>by
  obtain⟨x,u,f⟩:=xM (a:=c) (i:=base+i) 'o';refine⟨x,u,?_⟩;rw[<- B,fX d,List.getElem?_drop];exact f
 refine ziO C (b:=λi=>match L[i]? with|some x=>uo κ left key x|none=>Y2) D F (λi d=>?_) G (λi j P I e=>?_) λk J K M=>q k J (λx m=>?_) λx m=>?_
 ·obtain⟨x,u,f⟩:=l i d;exact⟨x,u,r x (aO f),by rw[f]⟩
 ·obtain⟨x,_,m⟩:=l i 'o';obtain⟨y,_,p⟩:=l j I;rw[p] at e;rw[m]
  replace e:uo κ left key y=Y1:=e
  show uo κ left key x=Y1;by_cases h:i=j
  ·subst h;rw[m] at p;cases p;exact e
  have o:Le κ x y:=by
   obtain⟨v,rfl⟩:=ak.mp m;obtain⟨z,rfl⟩:=ak.mp p;exact eJ.mp t i j v z 'o'
  unfold uo at e ⊢;cases left with
  | true=>
   rw[JU rfl] at e ⊢;rcases κ.negTrans _ (ky κ x) _ e with h|h
   ·rw[show κ.blt (ky κ y) (ky κ x)=Y2 from o] at h;cases h
   ·exact h
  | false=>
   rw[J5 's'] at e ⊢;have N:Le κ y key:=by unfold Le;simpa using e
   have:Le κ x key:=o.trans N;unfold Le at this;rw[this];rfl
 ·obtain⟨i,d,e⟩:=mj m;have v:i<k:=by rw[bT] at d;lia
  have:=K i v;have f:L[i]?=XE x:=by rw[<- e,mT];exact ao (by rw[bT] at d;lia)
  rw[f] at this;exact this
 ·obtain⟨i,d,e⟩:=mj m;rw[cq] at d;have:=M (k+i) 'o' 'o';have f:L[k+i]?=XE x:=by rw[<- e,mU];exact ao 'o'
  rw[f] at this;exact this
def Qm{α:Type}{G:Prop}(P:α->Prop)(h:(∀x,P x)->G)(k:∀x,P x):G:=h k
def zkj(ho:xg prog w A s κ kd){a b:Array be}(hk:kindOf st=kd)(ha:∀x∈a.toList,uc κ x)(hb:∀x∈b.toList,uc κ x)(U:qB κ a.toList)(R:qB κ b.toList)(pa:1<=a.size)(pb:1<=b.size)
  (h0:∀x∈b.toList.take 1,∀y∈a.toList,Le κ x y) (hl:∀y∈b.toList,∀x∈a.toList.drop (a.size-1),Le κ y x) {Q:Array be->cb->Prop} (q:∀r D,oM st D->Out κ a.toList b.toList r.toList->Q r D):wpS (ax prog w) A E s ((oY.lo o3) a b) Q st:=by
 have Nz:a.toList.length=a.size:=aN;have Ny:b.toList.length=b.size:=aN;have tS:∀{l:Array be}{d f:Nat},Mg κ a.toList b.toList l.toList d f->(f=b.size\/d=a.size)->Out κ a.toList b.toList (l++a.extract d++b.extract f).toList:=λ{l d f}m h=>by
  rw[bR,bR,Iy,Iy];refine m.fin U R λx n y N=>?_;rcases h with rfl|rfl
  ·rw[dS 'o'] at N;cases N
  ·rw[dS 'o'] at n;cases n
 have tQ:∀{l:Array be}{d f:Nat},Mg κ a.toList b.toList l.toList d f->d+1=a.size->Out κ a.toList b.toList (l++b.extract f++a.extract d).toList:=λ{l d f}m h=>by
  rw[bR,bR,Iy,Iy];refine m.fin' U R λy N x n=>hl y (c9 N) x ?_;have:a.size-1=d:=by lia
  rw[this];exact n
 obtain⟨b0,g0,l0⟩:=xM (a:=b) (i:=0) 'o';have m0:Mg κ a.toList b.toList (#[b0]:Array be).toList 0 1:=by
  have e:b.toList.take 1=[b0]:=by
   have:=Bu l0;simpa using this
  refine⟨by rw[e];exact fV _,kQ _ _,λx n y N=>h0 x (by rw[e];exact n) y N,λx n y N=>?_⟩;have:x=b0:=⇑n
  subst this;exact D_ R l0 y (c9 N)
 show wpS _ _ _ _ (_ >>= _) Q st;refine aE (jx (eB ⟨rfl,aE (tV g0 ?_)⟩));by_cases c1:1=b.size
 ·show wpS _ _ _ _ (if (1==b.size)=Y1 then _ else _) Q st;rw[JU ⇑c1];exact aL (q _ st (oM.refl st) (tS m0 (.inl c1)))
 show wpS _ _ _ _ (if (1==b.size)=Y1 then _ else _) Q st;rw[J5 ⇑c1];by_cases c2:1=a.size
 ·show wpS _ _ _ _ (if (0+1==a.size)=Y1 then _ else _) Q st;rw[JU ⇑c2];exact aL (q _ st (oM.refl st) (tQ m0 'o'))
 show wpS _ _ _ _ (if (0+1==a.size)=Y1 then _ else _) Q st;rw[J5 ⇑c2];refine aE (g8 (aE (dN (cO (I:=λk c D=>oM st D/\∃l d f G,c=(YP,l,d,f,G)/\Mg κ a.toList b.toList l.toList d f/\d+1<a.size/\f<b.size/\k+1<=l.size) (Q:=λc D=>oM st D/\∃r,c.1=XE r/\Out κ a.toList b.toList r.toList) ?_ ?_ ?_) ?_)))
 ·rintro k c qN _ hkt ⟨sm,l,d,f,G,rfl,m,J,F,c5⟩;have yY:kindOf qN=kd:=sm.kind.trans hk;refine aE (dN (cO (I:=λj c D=>D=qN/\∃o d f t v,c=(YP,o,d,f,t,v)/\Mg κ a.toList b.toList o.toList d f/\d+1<a.size/\f<b.size/\l.size+j<=o.size) (Q:=λc D=>D=qN/\((∃r,c.1=XE r/\Out κ a.toList b.toList r.toList) \/ ∃o d f t v,c=(YP,o,d,f,t,v)/\Mg κ a.toList b.toList o.toList d f/\d+1<a.size/\f<b.size/\l.size+1<=o.size)) ?_ ?_ ?_) ?_)
  ·rintro j c ql _ Od ⟨rfl,o,d,f,t,v,rfl,m,J,F,c6⟩;obtain⟨y,gy,X⟩:=xM (a:=b) F;obtain⟨x,gx,S⟩:=xM (a:=a) (i:=d) 'o';refine aE (tV gy (aE (tV gx (aE (Fg ho yY (hb y (aO X)) (ha x (aO S)) ?_)))));cases hc:κ.blt (ky κ y) (ky κ x) with
   | true=>
    have Y:=PM m R X λz K=>(Le.of hc).trans (D_ U S z K);refine aE (tV gy ?_);show wpS _ _ _ _ (if (f+1==b.size)=Y1 then _ else _) _ ql;by_cases e:f+1=b.size
    ·rw[JU ⇑e];exact aL ⟨rfl,.inl ⟨_,rfl,tS Y (.inl e)⟩⟩
    ·rw[J5 ⇑e];split
     ·exact aL ⟨rfl,.inr ⟨o.push y,d,f+1,0,v+1,rfl,Y,J,by lia,by rw[cn];lia⟩⟩
     ·exact aL ⟨rfl,o.push y,d,f+1,0,v+1,rfl,Y,J,by lia,by rw[cn];lia⟩
   | false=>
    have Y:=Qk m U S λz K=>Le.trans (show Le κ x y from hc) (D_ R X z K);refine aE (tV gx ?_);show wpS _ _ _ _ (if (d+1+1==a.size)=Y1 then _ else _) _ ql;by_cases e:d+1+1=a.size
    ·rw[JU ⇑e];exact aL ⟨rfl,.inl ⟨_,rfl,tQ Y e⟩⟩
    ·rw[J5 ⇑e];split
     ·exact aL ⟨rfl,.inr ⟨o.push x,d+1,f,t+1,0,rfl,Y,by lia,F,by rw[cn];lia⟩⟩
     ·exact aL ⟨rfl,o.push x,d+1,f,t+1,0,rfl,Y,by lia,F,by rw[cn];lia⟩
  ·rintro c ql ⟨rfl,o,d,f,t,v,rfl,m,J,F,c6⟩;have:=m.len 'o' 'o';rw[aN] at this;rw[d7] at c6;lia
  ·exact⟨rfl,l,d,f,0,0,rfl,m,J,F,by lia⟩
  rintro c ql ⟨rfl,h⟩;rcases h with⟨r,e,hr⟩|⟨o,d,f,t,v,rfl,m,J,F,c6⟩
  ·obtain⟨c,c'⟩:=c;dsimp only at e;subst e;exact aL ⟨sm,r,rfl,hr⟩
  refine aE (jx (eB ⟨rfl,aE (dN (cO (I:=λj c D=>oM st D/\∃B d f G t v,c=(YP,B,d,f,G,t,v)/\Mg κ a.toList b.toList B.toList d f/\d+1<a.size/\f<b.size/\o.size+j<=B.size) (Q:=λc D=>oM st D/\((∃r,c.1=XE r/\Out κ a.toList b.toList r.toList) \/ ∃B d f G t v,c=(YP,B,d,f,G,t,v)/\Mg κ a.toList b.toList B.toList d f/\d+1<a.size/\f<b.size/\o.size<=B.size)) ?_ ?_ ?_) ?_)⟩))
  ·rintro j c qf _ Od ⟨T,B,d,f,G,t,v,rfl,m,J,F,c6⟩;obtain⟨y,gy,X⟩:=xM (a:=b) F;have N:=hb y (aO X);have Dk:∀M,oM st M->∀{Q:Option Nat->cb->Prop},(∀k,k<=a.size-d->(∀x∈(a.toList.drop d).take k,Le κ x y)->(∀x∈a.toList.drop (d+k),Le κ y x)->Q (XE k) M)->wpS (ax prog w) A E s ((oY.g o3) Y2 y a d (a.size-d) 0) Q M:=λM s4 Q h=>
    Ed ho (L:=a.toList.drop d) (dg (by rw[cq];lia)) (s4.kind.trans hk) N 'o' 'o' (λx n=>ha x (c9 n)) (U.sublist (di d _)) λk h1 h2 h3=>h k h1 (λx n=>by
     have:=h2 x n;unfold uo at this;rw[J5 's'] at this;unfold Le;simpa using this) λx n=>by
     rw[<- eH] at n;have:=h3 x n;unfold uo at this;rw[J5 's'] at this;exact Le.of ⇑this
   have Dj:∀x{C:Nat},a.toList[C]?=XE x->∀M,oM st M->f+1<b.size->∀{Q:Option Nat->cb->Prop},(∀k,k<=b.size-(f+1)->(∀z∈(b.toList.drop (f+1)).take k,Le κ z x)->(∀z∈b.toList.drop (f+1+k),Le κ x z)->Q (XE k) M)->wpS (ax prog w) A E s ((oY.g o3) Y1 x b (f+1) (b.size-(f+1)) 0) Q M:=λx C S M s4 h4 Q h=>
    Ed ho (L:=b.toList.drop (f+1)) (dg (by rw[cq];lia)) (s4.kind.trans hk) (ha x (aO S)) 'o' 'o' (λx n=>hb x (c9 n)) (R.sublist (di _ _)) λk h1 h2 h3=>h k h1 (λz K=>by
     have:=h2 z K;unfold uo at this;rw[JU rfl] at this;exact Le.of this) λz K=>by
     rw[<- eH] at K;have:=h3 z K;unfold uo at this;rw[JU rfl] at this;exact this
   show wpS _ _ _ _ (if G>1 then _ else _) _ qf;apply Qm (α:=Nat)
   ·intro p;split
    ·generalize G-1=Gd;exact p Gd
    ·exact p G
   intro Gd;refine aE (RN ⟨rfl,rfl,rfl,rfl⟩ λM s4=>aE (tV gy (aE (Dk M (T.trans s4) ?_))));have V:=T.trans s4;intro k yW kt kf;have m3:=m.addA U k λx n z K=>(kt x n).trans (D_ R X z K);rw[<- Lr,<- bR] at m3;have n3:B.size<=(B++a.extract d (d+k)).size:=by rw[gp];lia
   show wpS _ _ _ _ (if k>0 then _ else _) _ _;apply E_ (H:=λ(O:Array be)(C:Nat)=>Mg κ a.toList b.toList O.toList C f/\B.size<=O.size/\C+1<a.size/\∀x∈a.toList.drop C,Le κ y x)
   ·intro p;by_cases t_:k>0
    ·rw[JU t_];show wpS _ _ _ _ (if (d+k+1==a.size)=Y1 then _ else _) _ _;by_cases e1:d+k+1=a.size
     ·rw[JU ⇑e1];exact aL ⟨V,.inl ⟨_,rfl,tQ m3 e1⟩⟩
     ·rw[J5 ⇑e1];show wpS _ _ _ _ (if (d+k==a.size)=Y1 then _ else _) _ _;by_cases e2:d+k=a.size
      ·rw[JU ⇑e2];exact aL ⟨V,.inl ⟨_,rfl,tS m3 (.inr e2)⟩⟩
      ·rw[J5 ⇑e2];have Z:=fw m3 (fw n3 (fw (show d+k+1<a.size by lia) kf));generalize B++a.extract d (d+k)=O at Z ⊢;generalize d+k=C at Z ⊢;exact p O C Z
    ·rw[J5 t_];have v_:k=0:=by lia
     rw[v_,kw] at kf;exact p B d ⟨m,aB _,J,kf⟩
   rintro O C ⟨m3,n3,f3,CG⟩;have m4:=PM m3 R X CG;refine aE (tV gy ?_);show wpS _ _ _ _ (if (f+1==b.size)=Y1 then _ else _) _ _;by_cases e3:f+1=b.size
   ·rw[JU ⇑e3];exact aL ⟨V,.inl ⟨_,rfl,tS m4 (.inl e3)⟩⟩
   ·rw[J5 ⇑e3];obtain⟨x,gx,S⟩:=xM (a:=a) (i:=C) 'o';refine aE (tV gx (aE (Dj x S _ V 'o' ?_)));intro P uj NB BD;have m5:=m4.addB R P λz K u hu=>(NB z K).trans (D_ U S u hu);rw[<- Lr,<- bR] at m5;have n5:O.size+1<=(O.push y++b.extract (f+1) (f+1+P)).size:=by rw[gp,cn];lia
    show wpS _ _ _ _ (if P>0 then _ else _) _ _;apply E_ (H:=λ(vW:Array be)(W:Nat)=>Mg κ a.toList b.toList vW.toList C W/\O.size+1<=vW.size/\W<b.size/\∀z∈b.toList.drop W,Le κ x z)
    ·intro p;by_cases t_:P>0
     ·rw[JU t_];show wpS _ _ _ _ (if (f+1+P==b.size)=Y1 then _ else _) _ _;by_cases e4:f+1+P=b.size
      ·rw[JU ⇑e4];exact aL ⟨V,.inl ⟨_,rfl,tS m5 (.inl e4)⟩⟩
      ·rw[J5 ⇑e4];have Z:=fw m5 (fw n5 (fw (show f+1+P<b.size by lia) BD));generalize O.push y++b.extract (f+1) (f+1+P)=vW at Z ⊢;generalize f+1+P=W at Z ⊢;exact p vW W Z
     ·rw[J5 t_];have v_:P=0:=by lia
      rw[v_,kw] at BD;exact p (O.push y) (f+1) ⟨m4,by rw[cn];exact aB _,by lia,BD⟩
    rintro vW W ⟨m5,n5,f5,BD⟩;have m6:=Qk m5 U S BD;refine aE (tV gx ?_);show wpS _ _ _ _ (if (C+1+1==a.size)=Y1 then _ else _) _ _;by_cases e5:C+1+1=a.size
    ·rw[JU ⇑e5];exact aL ⟨V,.inl ⟨_,rfl,tQ m6 e5⟩⟩
    ·rw[J5 ⇑e5];split
     ·exact aL ⟨V,.inr ⟨vW.push x,C+1,W,_,_,_,rfl,m6,by lia,f5,by rw[cn];lia⟩⟩
     ·exact aL ⟨V,vW.push x,C+1,W,_,_,_,rfl,m6,by lia,f5,by rw[cn];lia⟩
  ·rintro c qf ⟨T,B,d,f,G,t,v,rfl,m,J,F,c6⟩;have:=m.len 'o' 'o';rw[aN] at this;rw[d7] at c6;lia
  ·exact⟨sm,o,d,f,_,t,v,rfl,m,J,F,by lia⟩
  rintro c qf ⟨T,h⟩;rcases h with⟨r,e,hr⟩|⟨B,d,f,G,t,v,rfl,m,J,F,c7⟩
  ·obtain⟨c,c'⟩:=c;dsimp only at e;subst e;exact aL ⟨T,r,rfl,hr⟩
  ·exact aE (fR (aL ⟨⟨T.kind,T.arr,T.pend,T.failed⟩,B,d,f,_,rfl,m,J,F,by lia⟩))
 ·rintro c qN ⟨sm,l,d,f,G,rfl,m,J,F,c5⟩;have:=m.len 'o' 'o';rw[aN] at this;rw[d7] at c5;lia
 ·exact⟨oM.refl st,#[b0],0,1,_,rfl,m0,by lia,by lia,by simp⟩
 ·rintro⟨c,c'⟩ qN ⟨sm,r,e,hr⟩;dsimp only at e;subst e;exact aL (q r qN sm hr)
end
section
variable{κ:ba}
structure Mh(κ:ba)(a b o:List be)(i j:Nat):Prop where
 perm:o.Perm (a.drop i++b.drop j)
 srt:qB κ o.reverse
 la:∀x∈a.take i,∀y∈o,Le κ x y
 lb:∀x∈b.take j,∀y∈o,Le κ x y
variable{a b o:List be}{i j:Nat}
def Mh.len(h:Mh κ a b o i j):o.length=(a.length-i)+(b.length-j):=by rw[h.perm.length_eq,aA,cq,cq]
def zjf{α:Type}{l:List α}{i k:Nat}(h:k<=i){x:α}(c:x∈l.take k):x∈l.take i:=by
 have:l.take k=(l.take i).take k:=by rw[gF,ge h]
 rw[this] at c;exact cG c
def zfw{α:Type}(l:List α)(h:k<=i):l.drop k=(l.take i).drop k++l.drop i:=by
 by_cases c:i<=l.length
 ·conv=>lhs;rw[<- cB i l]
  rw[e8 (by rw[bT];lia)]
 ·rw[dg 'o',dS (i:=i) 'o',bP]
def qB.mid(h:qB κ l)(d:k<=i):∀x∈l.take k,∀y∈(l.take i).drop k,Le κ x y:=by
 have e:qB κ (l.take i):=h.sublist (cR i l);intro x c y f;have:l.take k=(l.take i).take k:=by rw[gF,ge d]
 rw[this] at c;exact e.take_drop k x c y f
def Mh.addA(h:Mh κ a b o i j)(f:qB κ a){k:Nat}(d:k<=i)(e:∀z∈b.take j,∀y∈(a.take i).drop k,Le κ z y):Mh κ a b (o++((a.take i).drop k).reverse) k j:=by
 refine⟨?_,?_,λx c y hy=>?_,λx c y hy=>?_⟩
 ·rw[zfw a d];refine(h.perm.append (mV _)).trans ?_;rw[bh];refine cP.trans ?_;rw[bh];exact cP
 ·rw[List.reverse_append,List.reverse_reverse];unfold qB;rw[bI];exact⟨(f.sublist (cR i a)).sublist (di k _),h.srt,λx c y hy=>h.la x (c9 c) y (gP.mp hy)⟩
 ·rcases aQ.mp hy with hy|hy
  ·exact h.la x (zjf d c) y hy
  ·exact f.mid d x c y (gP.mp hy)
 ·rcases aQ.mp hy with hy|hy
  ·exact h.lb x c y hy
  ·exact e x c y (gP.mp hy)
def Mh.swap(h:Mh κ a b o i j):Mh κ b a o j i:=⟨h.perm.trans cP,h.srt,h.lb,h.la⟩
def Mh.addB(h:Mh κ a b o i j)(d:qB κ b)(e:k<=j)(c:∀z∈a.take i,∀y∈(b.take j).drop k,Le κ z y):Mh κ a b (o++((b.take j).drop k).reverse) i k:=(h.swap.addA d e c).swap
def Mh.fin(h:Mh κ a b o i j)(d:qB κ a)(e:qB κ b)(f:∀x∈a.take i,∀y∈b.take j,Le κ x y):Out κ a b (a.take i++b.take j++o.reverse):=by
 refine⟨?_,?_⟩
 ·refine(((mV o).trans h.perm).append_left _).trans ?_
  conv=>rhs;rw[<- cB i a,<- cB j b]
  simp only[bh];refine gE _ ?_;rw[<- bh,<- bh];exact cP.append_right _
 ·unfold qB;rw[bI,bI];refine⟨⟨d.sublist (cR i a),e.sublist (cR j b),f⟩,h.srt,λx g y c=>?_⟩;rcases aQ.mp g with h'|h'
  ·exact h.la x h' y (gP.mp c)
  ·exact h.lb x h' y (gP.mp c)
def Mh.fin'(h:Mh κ a b o i j)(c:qB κ a)(d:qB κ b)(e:∀y∈b.take j,∀x∈a.take i,Le κ y x):Out κ a b (b.take j++a.take i++o.reverse):=by have:=h.swap.fin d c e;exact⟨this.perm.trans cP,this.srt⟩
def FD{l:List be}{i:Nat}{x:be}(h:l[i]?=XE x):(l.take (i+1)).drop i=[x]:=by obtain⟨c,rfl⟩:=ak.mp h;rw[nX,cj,cm c];rfl
def Fl{l:List be}(h:qB κ l){i:Nat}{x:be}(c:l[i]?=XE x):∀y∈l.take (i+1),Le κ y x:=by
 intro y hy;have e:=FD c;have:l.take (i+1)=l.take i++[x]:=by
  rw[fW,c];rfl
 rw[this] at hy;rcases aQ.mp hy with hy|hy
 ·exact h.mid (fU i) y hy x (by rw[e];simp)
 ·rw[dG.mp hy];exact Le.refl _
def Iw{c:Array be}{x:be}(m:Mh κ a b c.toList (i+1) j)(e:qB κ a)(d:a[i]?=XE x)(h:∀z∈b.take j,Le κ z x):Mh κ a b (c.push x).toList i j:=by have:=m.addA e (k:=i) 'o' (by rw[FD d];intro z f y g;rw[dG.mp g];exact h z f);rw[FD d] at this;rw[gq];exact this
def QW{c:Array be}{x:be}(m:Mh κ a b c.toList i (j+1))(e:qB κ b)(d:b[j]?=XE x)(h:∀z∈a.take i,Le κ z x):Mh κ a b (c.push x).toList i j:=by have:=m.addB e (k:=j) 'o' (by rw[FD d];intro z f y g;rw[dG.mp g];exact h z f);rw[FD d] at this;rw[gq];exact this
def HV(a:Array be)(i:Nat):(a.extract 0 i).toList=a.toList.take i:=by simp
def PK(a:Array be)(k i:Nat):((a.extract k i).reverse).toList=((a.toList.take i).drop k).reverse:=by simp[nX]
end
section
variable{prog:aJ}{w:aU}{A:aX}{E:ae->ag->Prop}{s:ag}{κ:ba}{st:cb}{kd:KT}
def Ja{n:Nat}{o:Array be}{x:be}(h:n<=o.size):n+1<=(o.push x).size:=by rw[cn];lia
def zk6(ho:xg prog w A s κ kd)(hk:kindOf st=kd)(ha:∀x∈a.toList,uc κ x)(hb:∀x∈b.toList,uc κ x)(U:qB κ a.toList)(Y:qB κ b.toList)(pa:1<=a.size)(pb:1<=b.size)
  (h0:∀x∈b.toList.take 1,∀y∈a.toList,Le κ x y) (hl:∀y∈b.toList,∀x∈a.toList.drop (a.size-1),Le κ y x) {Q:Array be->cb->Prop} (q:∀r D,oM st D->Out κ a.toList b.toList r.toList->Q r D):wpS (ax prog w) A E s ((oY.hi o3) a b) Q st:=by
 have Nz:a.toList.length=a.size:=aN;have Ny:b.toList.length=b.size:=aN;have tS:∀{l:Array be}{d f:Nat},Mh κ a.toList b.toList l.toList d f->(d=0\/f=0)->Out κ a.toList b.toList (a.extract 0 d++b.extract 0 f++l.reverse).toList:=λ{l d f}m h=>by
  rw[bR,bR,HV,HV,lT];refine m.fin U Y λx P y W=>?_;rcases h with rfl|rfl
  ·cases P
  ·cases W
 have tQ:∀{l:Array be}{d f:Nat},Mh κ a.toList b.toList l.toList d f->f=1->Out κ a.toList b.toList (b.extract 0 f++a.extract 0 d++l.reverse).toList:=λ{l d f}m h=>by
  rw[bR,bR,HV,HV,lT];subst h;exact m.fin' U Y λy W x P=>h0 y W x (cG P)
 obtain⟨x0,g0,l0⟩:=xM (a:=a) (i:=a.size-1) 'o';have m0:Mh κ a.toList b.toList (#[x0]:Array be).toList (a.size-1) b.size:=by
  have m00:Mh κ a.toList b.toList (#[]:Array be).toList (a.size-1+1) b.size:=by
   refine⟨?_,eU,(λx _ y W=>nomatch W),(λx _ y W=>nomatch W)⟩;rw[dS 'o',dS 'o'];exact fV _
  exact Iw m00 U l0 λz F=>hl z (cG F) x0 (by
   have:=Bu l0;exact cG (by rw[this];simp:x0∈(a.toList.drop (a.size-1)).take 1))
 show wpS _ _ _ _ (_ >>= _) Q st;refine aE (jx (eB ⟨rfl,aE (tV g0 ?_)⟩));show wpS _ _ _ _ (if (a.size-1==0)=Y1 then _ else _) Q st;by_cases c1:a.size-1=0
 ·rw[JU ⇑c1];exact aL (q _ st (oM.refl st) (tS m0 (.inl c1)))
 rw[J5 ⇑c1];show wpS _ _ _ _ (if (b.size==1)=Y1 then _ else _) Q st;by_cases c2:b.size=1
 ·rw[JU ⇑c2];exact aL (q _ st (oM.refl st) (tQ m0 c2))
 rw[J5 ⇑c2];refine aE (g8 (aE (dN (cO (I:=λk c D=>oM st D/\∃d f l G,c=(YP,d,f,l,G)/\Mh κ a.toList b.toList l.toList d f/\1<=d/\d<=a.size/\2<=f/\f<=b.size/\k+1<=l.size) (Q:=λc D=>oM st D/\∃r,c.1=XE r/\Out κ a.toList b.toList r.toList) ?_ ?_ ?_) ?_)))
 ·rintro k c qN _ hkt ⟨sm,d,f,l,G,rfl,m,J,K,N,O,c5⟩;have yY:kindOf qN=kd:=sm.kind.trans hk;refine aE (dN (cO (I:=λj c D=>D=qN/\∃d f o v B,c=(YP,d,f,o,v,B)/\Mh κ a.toList b.toList o.toList d f/\1<=d/\d<=a.size/\2<=f/\f<=b.size/\l.size+j<=o.size) (Q:=λc D=>D=qN/\((∃r,c.1=XE r/\Out κ a.toList b.toList r.toList) \/ ∃d f o v B,c=(YP,d,f,o,v,B)/\Mh κ a.toList b.toList o.toList d f/\1<=d/\d<=a.size/\2<=f/\f<=b.size/\l.size+1<=o.size)) ?_ ?_ ?_) ?_)
  ·rintro j c ql _ Od ⟨rfl,d,f,o,v,B,rfl,m,J,K,N,O,c6⟩;obtain⟨p,rfl⟩:∃p,d=p+1:=⟨d-1,by lia⟩;obtain⟨r,rfl⟩:∃r,f=r+1:=⟨f-1,by lia⟩;obtain⟨y,gy,Z⟩:=xM (a:=b) (i:=r) 'o';obtain⟨x,gx,V⟩:=xM (a:=a) (i:=p) 'o';refine aE (tV gy (aE (tV gx (aE (Fg ho yY (hb y (aO Z)) (ha x (aO V)) ?_)))));cases hc:κ.blt (ky κ y) (ky κ x) with
   | true=>
    have m':=Iw m U V λz F=>(Fl Y Z z F).trans (Le.of hc);refine aE (tV gx ?_);show wpS _ _ _ _ (if (p==0)=Y1 then _ else _) _ ql;by_cases e:p=0
    ·rw[JU ⇑e];exact aL ⟨rfl,.inl ⟨_,rfl,tS m' (.inl e)⟩⟩
    ·rw[J5 ⇑e];split
     ·exact aL ⟨rfl,.inr ⟨p,r+1,o.push x,v+1,0,rfl,m',by lia,by lia,N,O,by rw[cn];lia⟩⟩
     ·exact aL ⟨rfl,p,r+1,o.push x,v+1,0,rfl,m',by lia,by lia,N,O,by rw[cn];lia⟩
   | false=>
    have m':=QW m Y Z λz F=>(Fl U V z F).trans (show Le κ x y from hc);refine aE (tV gy ?_);show wpS _ _ _ _ (if (r==1)=Y1 then _ else _) _ ql;by_cases e:r=1
    ·rw[JU ⇑e];exact aL ⟨rfl,.inl ⟨_,rfl,tQ m' e⟩⟩
    ·rw[J5 ⇑e];split
     ·exact aL ⟨rfl,.inr ⟨p+1,r,o.push y,0,B+1,rfl,m',J,K,by lia,by lia,by rw[cn];lia⟩⟩
     ·exact aL ⟨rfl,p+1,r,o.push y,0,B+1,rfl,m',J,K,by lia,by lia,by rw[cn];lia⟩
  ·rintro c ql ⟨rfl,d,f,o,v,B,rfl,m,J,K,N,O,c6⟩;have:=m.len;rw[aN] at this;rw[d7] at c6;lia
  ·exact⟨rfl,d,f,l,0,0,rfl,m,J,K,N,O,by lia⟩
  rintro c ql ⟨rfl,h⟩;rcases h with⟨r,e,hr⟩|⟨d,f,o,v,B,rfl,m,J,K,N,O,c6⟩
  ·obtain⟨c,c'⟩:=c;dsimp only at e;subst e;exact aL ⟨sm,r,rfl,hr⟩
  refine aE (jx (eB ⟨rfl,aE (dN (cO (I:=λj c D=>oM st D/\∃d f C G v B,c=(YP,d,f,C,G,v,B)/\Mh κ a.toList b.toList C.toList d f/\1<=d/\d<=a.size/\2<=f/\f<=b.size/\o.size+j<=C.size) (Q:=λc D=>oM st D/\((∃r,c.1=XE r/\Out κ a.toList b.toList r.toList) \/ ∃d f C G v B,c=(YP,d,f,C,G,v,B)/\Mh κ a.toList b.toList C.toList d f/\1<=d/\d<=a.size/\2<=f/\f<=b.size/\o.size<=C.size)) ?_ ?_ ?_) ?_)⟩))
  ·rintro j c qf _ Od ⟨X,d,f,C,G,v,B,rfl,m,J,K,N,O,c6⟩;obtain⟨r,rfl⟩:∃r,f=r+1:=⟨f-1,by lia⟩;obtain⟨y,gy,Z⟩:=xM (a:=b) (i:=r) 'o';have W:=hb y (aO Z);have Dk:∀R,oM st R->∀{Q:Option Nat->cb->Prop},(∀k,k<=d->(∀x∈a.toList.take k,Le κ x y)->(∀x∈(a.toList.take d).drop k,Le κ y x)->Q (XE k) R)->wpS (ax prog w) A E s ((oY.g o3) Y2 y a 0 d (d-1)) Q R:=λR s4 Q h=>
    Ed ho (L:=a.toList.take d) (by rw[lE]) (s4.kind.trans hk) W 'o' 'o' (λx P=>ha x (cG P)) (U.sublist (cR d _)) λk h1 h2 h3=>h k h1 (λx P=>by
     have:=h2 x (by rw[gF,ge h1];exact P);unfold uo at this;rw[J5 's'] at this;unfold Le;simpa using this) λx P=>by
     have:=h3 x P;unfold uo at this;rw[J5 's'] at this;exact Le.of ⇑this
   have Dj:∀x{n:Nat},a.toList[n]?=XE x->∀R,oM st R->1<=r->∀{Q:Option Nat->cb->Prop},(∀k,k<=r->(∀z∈(b.toList.take r).drop k,Le κ x z)->(∀z∈b.toList.take k,Le κ z x)->Q (XE k) R)->wpS (ax prog w) A E s ((oY.g o3) Y1 x b 0 r (r-1)) Q R:=λx n V R s4 h4 Q h=>
    Ed ho (L:=b.toList.take r) (by rw[lE]) (s4.kind.trans hk) (ha x (aO V)) 'o' 'o' (λx P=>hb x (cG P)) (Y.sublist (cR _ _)) λk h1 h2 h3=>h k h1 (λz F=>by
     have:=h3 z F;unfold uo at this;rw[JU rfl] at this;exact this) λz F=>by
     have:=h2 z (by rw[gF,ge h1];exact F);unfold uo at this;rw[JU rfl] at this;exact Le.of this
   show wpS _ _ _ _ (if G>1 then _ else _) _ qf;apply Qm (α:=Nat)
   ·intro S;split
    ·generalize G-1=Gd;exact S Gd
    ·exact S G
   intro Gd;refine aE (RN ⟨rfl,rfl,rfl,rfl⟩ λR s4=>aE (tV gy (aE (Dk R (X.trans s4) ?_))));have T:=X.trans s4;intro k yW CG kt;have m3:=m.addA U yW λz F u hu=>(Fl Y Z z F).trans (kt u hu);rw[<- PK,<- bR] at m3;have n3:C.size<=(C++(a.extract k d).reverse).size:=by rw[gp];lia
   show wpS _ _ _ _ (if d-k>0 then _ else _) _ _;apply E_ (H:=λ(M:Array be)(CC:Nat)=>Mh κ a.toList b.toList M.toList CC (r+1)/\C.size<=M.size/\1<=CC/\CC<=a.size/\∀x∈a.toList.take CC,Le κ x y)
   ·intro S;by_cases t_:d-k>0
    ·rw[JU t_];show wpS _ _ _ _ (if (k==0)=Y1 then _ else _) _ _;by_cases e1:k=0
     ·rw[JU ⇑e1];exact aL ⟨T,.inl ⟨_,rfl,tS m3 (.inl e1)⟩⟩
     ·rw[J5 ⇑e1];have hh:=fw m3 (fw n3 (fw (show 1<=k by lia) (fw (show k<=a.size by lia) CG)));generalize C++(a.extract k d).reverse=M at hh ⊢;generalize k=q3 at hh ⊢;exact S M q3 hh
    ·rw[J5 t_];have v_:k=d:=by lia
     rw[v_] at CG ⊢;exact S C d ⟨m,aB _,J,K,CG⟩
   rintro M CC ⟨m3,n3,f3,f3',CG⟩;have m4:=QW m3 Y Z CG;refine aE (tV gy ?_);show wpS _ _ _ _ (if (r==1)=Y1 then _ else _) _ _;by_cases e3:r=1
   ·rw[JU ⇑e3];exact aL ⟨T,.inl ⟨_,rfl,tQ m4 e3⟩⟩
   ·rw[J5 ⇑e3];obtain⟨n,rfl⟩:∃n,CC=n+1:=⟨CC-1,by lia⟩;obtain⟨x,gx,V⟩:=xM (a:=a) (i:=n) 'o';refine aE (tV gx (aE (Dj x V _ T 'o' ?_)));intro t uj NB BD;have m5:=m4.addB Y uj λz F u hu=>(Fl U V z F).trans (NB u hu);rw[<- PK,<- bR] at m5;have n5:M.size+1<=(M.push y++(b.extract t r).reverse).size:=by rw[gp,cn];lia
    by_cases t_:r-t>0
    ·show wpS _ _ _ _ (if r-t>0 then _ else _) _ _;rw[JU t_];show wpS _ _ _ _ (if (t==1)=Y1 then _ else _) _ _;by_cases e4:t=1
     ·rw[JU ⇑e4];exact aL ⟨T,.inl ⟨_,rfl,tQ m5 e4⟩⟩
     ·rw[J5 ⇑e4];show wpS _ _ _ _ (if (t==0)=Y1 then _ else _) _ _;by_cases e6:t=0
      ·rw[JU ⇑e6];exact aL ⟨T,.inl ⟨_,rfl,tS m5 (.inr e6)⟩⟩
      ·rw[J5 ⇑e6];have f5:2<=t:=by lia
       have m6:=Iw m5 U V BD;refine aE (tV gx ?_);show wpS _ _ _ _ (if (n==0)=Y1 then _ else _) _ _;by_cases e5:n=0
       ·rw[JU ⇑e5];exact aL ⟨T,.inl ⟨_,rfl,tS m6 (.inl e5)⟩⟩
       ·rw[J5 ⇑e5];split
        ·exact aL ⟨T,.inr ⟨n,t,_,_,_,_,rfl,m6,(by lia:1<=n),(by lia:n<=a.size),f5,(by lia:t<=b.size),aG (by lia:o.size<=M.size+1+1) (Ja n5)⟩⟩
        ·exact aL ⟨T,n,t,_,_,_,_,rfl,m6,(by lia:1<=n),(by lia:n<=a.size),f5,(by lia:t<=b.size),aG (by lia:o.size+(j+1)<=M.size+1+1) (Ja n5)⟩
    ·have v_:t=r:=by lia
     subst v_;show wpS _ _ _ _ (if t-t>0 then _ else _) _ _;rw[J5 t_];have f5:2<=t:=by lia
     replace m5:=m4
     replace n5:M.size+1<=(M.push y).size:=by rw[cn];exact aB _
     have m6:=Iw m5 U V BD;refine aE (tV gx ?_);show wpS _ _ _ _ (if (n==0)=Y1 then _ else _) _ _;by_cases e5:n=0
     ·rw[JU ⇑e5];exact aL ⟨T,.inl ⟨_,rfl,tS m6 (.inl e5)⟩⟩
     ·rw[J5 ⇑e5];split
      ·exact aL ⟨T,.inr ⟨n,t,_,_,_,_,rfl,m6,(by lia:1<=n),(by lia:n<=a.size),f5,(by lia:t<=b.size),aG (by lia:o.size<=M.size+1+1) (Ja n5)⟩⟩
      ·exact aL ⟨T,n,t,_,_,_,_,rfl,m6,(by lia:1<=n),(by lia:n<=a.size),f5,(by lia:t<=b.size),aG (by lia:o.size+(j+1)<=M.size+1+1) (Ja n5)⟩
  ·rintro c qf ⟨X,d,f,C,G,v,B,rfl,m,J,K,N,O,c6⟩;have:=m.len;rw[aN] at this;rw[d7] at c6;lia
  ·exact⟨sm,d,f,o,_,v,B,rfl,m,J,K,N,O,by lia⟩
  rintro c qf ⟨X,h⟩;rcases h with⟨r,e,hr⟩|⟨d,f,C,G,v,B,rfl,m,J,K,N,O,c7⟩
  ·obtain⟨c,c'⟩:=c;dsimp only at e;subst e;exact aL ⟨X,r,rfl,hr⟩
  ·exact aE (fR (aL ⟨⟨X.kind,X.arr,X.pend,X.failed⟩,d,f,C,_,rfl,m,J,K,N,O,by lia⟩))
 ·rintro c qN ⟨sm,d,f,l,G,rfl,m,J,K,N,O,c5⟩;have:=m.len;rw[aN] at this;rw[d7] at c5;lia
 ·exact⟨oM.refl st,a.size-1,b.size,#[x0],_,rfl,m0,by lia,by lia,by lia,by lia,by simp⟩
 ·rintro⟨c,c'⟩ qN ⟨sm,r,e,hr⟩;dsimp only at e;subst e;exact aL (q r qN sm hr)
end
theorem QQ(p:Nat):∀(m:List be)(j:Nat)(xs:Array be),p+j+m.length<=xs.size->((m.zipIdx j).foldl (λa x=>a.setIfInBounds (p+x.2) x.1) xs).toList=xs.toList.take (p+j)++m++xs.toList.drop (p+j+m.length)
 |[],j,xs,_=>by simp
 | x::m,j,xs,h=>by
  rw[aT] at h;rw[iX,fE,QQ p m (j+1) _ (by rw[kz];lia),jZ,<- iP];have b:p+j<xs.toList.length:=by rw[aN];lia
  have c:(xs.toList.set (p+j) x).take (p+j+1)=xs.toList.take (p+j)++[x]:=by
   rw[fW,aY b,List.take_set_of_le (aB _)];rfl
  rw[c,List.drop_set_of_lt 'o',aT,bh,bh,bh];have:p+j+1+m.length=p+j+(m.length+1):=by lia
  rw[this];rfl
def zeH(h:p+m.length<=xs.size):(lay xs p m).toList=xs.toList.take p++m++xs.toList.drop (p+m.length):=QQ p m 0 xs h
section
variable{prog:aJ}{w:aU}{A:aX}{E:ae->ag->Prop}{s:ag}{κ:ba}{st:cb}{kd:KT}
def Z8(I:xg prog w A s κ kd)(t:kindOf st=kd)(N:failedOf st=YP)(d:(J6 st).toList=P++(X++(Y++R)))(h1:(J7 st)[i]?=XE (P.length,X.length,pw))(h2:(J7 st)[i+1]?=XE (P.length+X.length,Y.length,J4))
  (J:1<=X.length) (O:1<=Y.length) (C:qB κ X) (D:qB κ Y) (F:∀x∈X++Y,uc κ x) {Q:Bool->cb->Prop}
  (q:∀b M,kindOf b=kd->failedOf b=YP->J7 b=((J7 st).setIfInBounds i (P.length,X.length+Y.length,pw)).eraseIdxIfInBounds (i+1)->(J6 b).toList=P++(M++R)->M.Perm (X++Y)->qB κ M->Q Y1 b):wpS (ax prog w) A E s (mergeAt' i) Q st:=by
 have G:(J6 st).size=P.length+(X.length+(Y.length+R.length)):=by
  rw[<- aN,d];simp
 have S:∀x∈X,uc κ x:=λx h=>F x (bS _ h);have T:∀x∈Y,uc κ x:=λx h=>F x (aC _ h);have f:∀(j:Nat)(x:be),(P++(X++(Y++R)))[j]?=XE x->(J6 st)[j]?=XE x:=λj x h=>by
  rw[<- d] at h;rw[<- h];simp
 obtain⟨g,K⟩:∃g,Y[0]?=XE g:=⟨Y[0],ao _⟩;have gb:(J6 st)[P.length+X.length]?=XE g:=f _ _ (by
  rw[a8 'o',cj,a8 (aB _),jj,aI 'o'];exact K)
 have dX:((J6 st).toList.drop P.length).take X.length=X:=by rw[d];simp
 have dY:((J6 st).toList.drop (P.length+X.length)).take Y.length=Y:=by rw[d,<- bh,e8 'd',<- aA];simp
 have U:=T g (aO K);have V:∀y∈Y,Le κ g y:=λy h=>D_ D K y ⇑h;refine(oY.at_ o3) h1 h2 gb ?_;refine Ed (base:=P.length) (n:=X.length) (hint:=0) I dX ?_ U 'o' 'o' S C ?_
 ·exact t
 refine λk yW kt kf=>⟨k,rfl,λt_=>?_,λt_=>?_⟩
 ·have W:k=X.length:=by lia
  refine q _ (X++Y) t N rfl (by show(J6 st).toList=_;rw[d,bh]) (fV _) ?_;unfold qB;rw[bI];refine⟨C,D,λx h y c=>Le.trans ?_ (V y c)⟩;have:=kt x (by rw[W,fo];exact h);unfold uo at this;rw[J5 's'] at this;unfold Le;simpa using this
 have Z:∀x∈X.take k,Le κ x g:=λx h=>by
  have:=kt x h;unfold uo at this;rw[J5 's'] at this;unfold Le;simpa using this
 have WD:∀x∈X.drop k,Le κ g x:=λx h=>by
  have:=kf x h;unfold uo at this;rw[J5 's'] at this;exact Le.of ⇑this
 obtain⟨l,L⟩:∃l,X[X.length-1]?=XE l:=⟨X[X.length-1],ao _⟩;have ga:(J6 st)[P.length+k+(X.length-k)-1]?=XE l:=f _ _ (by
  have:P.length+k+(X.length-k)-1=P.length+(X.length-1):=by lia
  rw[this,a8 'o',cj,aI 'o'];exact L)
 have hka:=S l (aO L);have Xw:∀x∈X,Le κ x l:=λx h=>Fl C L x (by rw[dg 'o'];exact h);refine⟨l,ga,?_⟩;refine Ed (base:=P.length+X.length) (n:=Y.length) (hint:=Y.length-1) I dY ?_ hka 'o' 'o' T D ?_
 ·exact t
 refine λm hm mt mf=>⟨m,rfl,λWX=>?_,λWX=>?_⟩
 ·refine q _ (X++Y) t N rfl (by show(J6 st).toList=_;rw[d,bh]) (fV _) ?_;unfold qB;rw[bI];refine⟨C,D,λx h y c=>Le.trans (Xw x h) ?_⟩;have:=mf y (by rw[WX];exact c);unfold uo at this;rw[JU rfl] at this;exact this
 have WB:∀y∈Y.take m,Le κ y l:=λy h=>by
  have:=mt y h;unfold uo at this;rw[JU rfl] at this;exact Le.of this
 have WC:∀y∈Y.drop m,Le κ l y:=λy h=>by
  have:=mf y h;unfold uo at this;rw[JU rfl] at this;exact this
 have u:((J6 st).extract (P.length+k) (P.length+X.length)).toList=X.drop k:=by
  simp only[lS,kg];rw[d,<- eH,nY,e8 yW];have:P.length+X.length-(P.length+k)=(X.drop k).length:=by rw[cq];lia
  rw[this,nZ]
 have v:((J6 st).extract (P.length+X.length) (P.length+X.length+m)).toList=Y.take m:=by
  rw[Lr];rw[<- dY,gF,ge hm]
 have szX:((J6 st).extract (P.length+k) (P.length+X.length)).size=X.length-k:=by rw[<- aN,u,cq]
 have szY:((J6 st).extract (P.length+X.length) (P.length+X.length+m)).size=m:=by rw[<- aN,v,bT];lia
 have H:∀(B:Array be)(o:cb),oM (setPending st (((J7 st).setIfInBounds i (P.length,X.length+Y.length,pw)).eraseIdxIfInBounds (i+1))) o->Out κ (X.drop k) (Y.take m) B.toList->Q (failedOf o).isNone (setArr o (lay (J6 o) (P.length+k) B.toList)):=λB o p a=>by
  have WW:B.toList.length=(X.length-k)+m:=by rw[a.perm.length_eq,aA,cq,bT];lia
  have EN:failedOf o=YP:=p.failed.trans N;rw[EN];have vt:J6 o=J6 st:=p.arr;refine q _ (X.take k++(B.toList++Y.drop m)) (p.kind.trans t) EN p.pend ?_ ?_ ?_
  ·show(lay (J6 o) (P.length+k) B.toList).toList=_;rw[vt,zeH (by rw[WW,G];lia),d,WW];have e1:(P++(X++(Y++R))).take (P.length+k)=P++X.take k:=by
    rw[List.take_append,dg 'o',cj,List.take_append_of_le_length yW]
   have e2:(P++(X++(Y++R))).drop (P.length+k+(X.length-k+m))=Y.drop m++R:=by
    have:P.length+k+(X.length-k+m)=(P++X).length+m:=by rw[aA];lia
    rw[this,<- bh,<- eH,nY,e8 hm]
   rw[e1,e2];simp
  ·conv=>rhs;rw[<- cB k X,<- cB m Y]
   rw[bh];refine gE _ ?_;rw[<- bh];exact a.perm.append_right _
  ·unfold qB;rw[bI,bI];have Ge:∀z∈B.toList,z∈X.drop k\/z∈Y.take m:=λz hz=>aQ.mp (a.perm.mem_iff.mp hz);refine⟨C.sublist (cR k X),⟨a.srt,D.sublist (di m Y),λz hz y O=>?_⟩,λx J z hz=>?_⟩
   ·rcases Ge z hz with h|h
    ·exact(Xw z (c9 h)).trans (WC y O)
    ·exact(WB z h).trans (WC y O)
   ·rcases aQ.mp hz with hz|hz
    ·rcases Ge z hz with h|h
     ·exact(Z x J).trans (WD z h)
     ·exact(Z x J).trans (V z (cG h))
    ·exact(Z x J).trans (V z (c9 hz))
 have p1:∀x∈((J6 st).extract (P.length+k) (P.length+X.length)).toList,uc κ x:=by rw[u];exact λx h=>S x (c9 h)
 have p2:∀x∈((J6 st).extract (P.length+X.length) (P.length+X.length+m)).toList,uc κ x:=by rw[v];exact λx h=>T x (cG h)
 have p3:qB κ ((J6 st).extract (P.length+k) (P.length+X.length)).toList:=by rw[u];exact C.sublist (di k X)
 have p4:qB κ ((J6 st).extract (P.length+X.length) (P.length+X.length+m)).toList:=by rw[v];exact D.sublist (cR m Y)
 have p5:∀x∈((J6 st).extract (P.length+X.length) (P.length+X.length+m)).toList.take 1,∀y∈((J6 st).extract (P.length+k) (P.length+X.length)).toList,Le κ x y:=by
  rw[u,v,gF];intro x h y c;have:x=g:=by
   rw[ge 'o'] at h;have e:=Bu K;rw[lE] at e;rw[e] at h;simpa using h
  rw[this];exact WD y c
 have p6:∀y∈((J6 st).extract (P.length+X.length) (P.length+X.length+m)).toList,∀x∈((J6 st).extract (P.length+k) (P.length+X.length)).toList.drop (((J6 st).extract (P.length+k) (P.length+X.length)).size-1),Le κ y x:=by
  rw[u,v,szX,eH];intro y h x c;have:k+(X.length-k-1)=X.length-1:=by lia
  rw[this] at c;have e:=Bu L;rw[dg (by rw[cq];lia)] at e;rw[e] at c;rw[dG.mp c];exact WB y h
 by_cases hc:X.length-k<=m
 ·rw[JU hc];refine zkj I ?_ p1 p2 p3 p4 'o' 'o' p5 p6 λr b p a=>H r b p (by rw[u,v] at a;exact a);exact t
 ·rw[J5 hc];refine zk6 I ?_ p1 p2 p3 p4 'o' 'o' p5 p6 λr b p a=>H r b p (by rw[u,v] at a;exact a);exact t
end
def PY{G:Prop}{H:cb->Prop}(P:cb->Prop)(h:(∀x,H x->P x)->G)(k:∀x,H x->P x):G:=h k
structure Rl(rP:cb)(lo:Nat)(st:cb):Prop where
 perm:(J6 st).Perm (J6 rP)
 kind:kindOf st=kindOf rP
 failed:failedOf st=failedOf rP
 pend:J7 st=J7 rP
 fix:∀i,i<lo->(J6 st)[i]?=(J6 rP)[i]?
def Rl.refl(a:cb)(lo:Nat):Rl a lo a:=⟨jk _,rfl,rfl,rfl,λ_ _=>rfl⟩
def Rl.size{a b:cb}{lo:Nat}(r:Rl a lo b):(J6 b).size=(J6 a).size:=r.perm.size_eq
def Rl.rev{b a:cb}{lo i j:Nat}(r:Rl b lo a)(h:lo<=i)(c:j<=(J6 b).size):Rl b lo (setArr a (mirror (J6 a) i j ((j-i)/2))):=by refine⟨(mirror_perm _ _ _ _).trans r.perm,r.kind,r.failed,r.pend,λk d=>?_⟩;show(mirror (J6 a) i j ((j-i)/2))[k]?=_;rw[getElem?_mirror_all (by rw[r.size];exact c),J5 'o'];exact r.fix k d
section
variable{prog:aJ}{w:aU}{A:aX}{E:ae->ag->Prop}{s:ag}{κ:ba}{rP st:cb}{lo:Nat}{kd:KT}
def Up(κ:ba)(xs:Array be)(lo n:Nat):Prop:=∀i j,lo<=i->i<=j->j<lo+n->κ.kle (KK κ xs i) (KK κ xs j)
def Dn(κ:ba)(xs:Array be)(lo n:Nat):Prop:=∀i j,lo<=i->i<=j->j<lo+n->κ.kle (KK κ xs j) (KK κ xs i)
def Bt(a:κ.α):κ.kle a a:=κ.irrefl a
def Up.step(h:Up κ xs lo n)(f:1<=n)(a:κ.kle (KK κ xs (lo+n-1)) (KK κ xs (lo+n))):Up κ xs lo (n+1):=λi j b c g=>by
 by_cases e:j=lo+n
 ·subst e;by_cases d:i=lo+n
  ·subst d;exact Bt _
  ·exact iY (h i (lo+n-1) b 'o' 'o') a
 ·exact h i j b c 'o'
def Dn.step(h:Dn κ xs lo n)(f:1<=n)(a:κ.kle (KK κ xs (lo+n)) (KK κ xs (lo+n-1))):Dn κ xs lo (n+1):=λi j b c g=>by
 by_cases e:j=lo+n
 ·subst e;by_cases d:i=lo+n
  ·subst d;exact Bt _
  ·exact iY a (h i (lo+n-1) b 'o' 'o')
 ·exact h i j b c 'o'
def Up.one(xs:Array be):Up κ xs lo 1:=λi j c d e=>by
 have a:i=lo:=by lia
 have b:j=lo:=by lia
 rw[a,b];exact Bt _
def Dn.one(xs:Array be):Dn κ xs lo 1:=λi j c d e=>by
 have a:i=lo:=by lia
 have b:j=lo:=by lia
 rw[a,b];exact Bt _
def Fk(f:xg prog w A s κ kd)(a:∀x∈(J6 rP).toList,uc κ x)(g:kindOf rP=kd)(r:Rl rP lo st)(b:i<(J6 rP).size)(c:j<(J6 rP).size)(q:Q (XE (κ.blt (KK κ (J6 st) i) (KK κ (J6 st) j))) st):wpS (ax prog w) A E s (ltAt' i j) Q st:=by
 rw[<- r.size] at b c;obtain⟨x,d,h⟩:=xM b;obtain⟨y,e,k⟩:=xM c;have l:=a x ((dQ.mp r.perm).mem_iff.mp (aO h));have m:=a y ((dQ.mp r.perm).mem_iff.mp (aO k));have n:KK κ (J6 st) i=ky κ x:=by unfold KK ky;rw[d]
 have o:KK κ (J6 st) j=ky κ y:=by unfold KK ky;rw[e]
 rw[n,o] at q;rw[ltAt'_eq];exact aE (g8 (aE (tV d (aE (tV e (Fg f (r.kind.trans g) l m q))))))
def Up.rev(d:Dn κ xs lo m)(h:lo+m<=xs.size):Up κ (mirror xs lo (lo+m) ((lo+m-lo)/2)) lo m:=λi j a b c=>by
 rw[KK_mirror h,KK_mirror h,JU 'o',JU 'o'];exact d _ _ 'o' 'o' 'o'
set_option hygiene false in
local macro_rules|`(tactic| walk_at "asc")=>`(tactic| (
 refine aE (dN (cO (I:=λk c h_=>h_=qN/\∃ n,c=(none,n)/\n=k/\1<=n/\n<=nrem/\Up κ (arrOf qN) lo n) (Q:=λc h_=>h_=qN/\∃ n,c=(none,n)/\1<=n/\n<=nrem/\Up κ (arrOf qN) lo n/\(n=nrem\/κ.blt (KK κ (arrOf qN) (lo+n)) (KK κ (arrOf qN) (lo+n-1))=true)) ?_ ?_ ?_) ?_)
 ·rintro k c h_ h1 h2 ⟨rfl,n,rfl,rfl,g1,g2,g3⟩
  refine aE (Fk (i:=lo+n) (j:=lo+n-1) ho hs hk r1 (by lia) (by lia) ?_)
  cases e:κ.blt (KK κ (arrOf h_) (lo+n)) (KK κ (arrOf h_) (lo+n-1)) with
  | true=>exact aL ⟨rfl,n,rfl,g1,g2,g3,.inr e⟩
  | false=>exact aL ⟨rfl,n+1,rfl,rfl,by lia,by lia,g3.step (by lia) e⟩
 ·rintro c h_ ⟨rfl,n,rfl,e,g1,g2,g3⟩
  exact⟨rfl,n,rfl,g1,g2,g3,.inl (by lia)⟩
 ·exact⟨rfl,_,rfl,rfl,WU,WV,u1⟩))
def zcV(ho:xg prog w A s κ kd)(hs:∀x∈(J6 rP).toList,uc κ x)(hk:kindOf rP=kd){nrem:Nat}(WV:1<=nrem)(hN:lo+nrem<=(J6 rP).size){qN:cb}(r1:Rl rP lo qN){Q:Option Nat->cb->Prop}(q:∀m h_,Rl rP lo h_->1<=m->m<=nrem->Up κ (J6 h_) lo m->Q (XE m) h_):wpS (ax prog w) A E s (countRun' lo nrem) Q qN:=by
 rw[countRun'_eq];have u1:Up κ (J6 qN) lo 1:=Up.one _;have WU:1<=1:=aB _;walk_at "asc";rintro c h_ ⟨rfl,n1,rfl,g1,g2,g3,g4⟩;show wpS _ _ _ _ (if (n1==nrem)=Y1 then _ else _) Q h_;by_cases e0:n1=nrem
 ·rw[JU ⇑e0];exact aL (q n1 h_ r1 g1 g2 g3)
 rw[J5 ⇑e0];have qm:κ.blt (KK κ (J6 h_) (lo+n1)) (KK κ (J6 h_) (lo+n1-1))=Y1:=by
  rcases g4 with h|h
  ·exact absurd h e0
  ·exact h
 apply PY (H:=λql=>Rl rP lo ql/\Dn κ (J6 ql) lo (n1+1));intro key;show wpS _ _ _ _ (if n1>1 then _ else _) Q h_;by_cases hc:n1>1
 ·rw[JU hc];refine aE (Fk ho hs hk r1 'o' 'o' ?_);cases e:κ.blt (KK κ (J6 h_) lo) (KK κ (J6 h_) (lo+n1-1)) with
  |true=>exact aL (q n1 h_ r1 g1 g2 g3)
  | false=>
   refine aE (lf ?_);have r2:=r1.rev (i:=lo) (j:=lo+n1) (aB lo) 'o';have all:∀k,lo<=k->k<lo+n1->KK κ (J6 h_) k=KK κ (J6 h_) (lo+n1-1):=λk a b=>
    KeyOrd.kle_antisymm (g3 k (lo+n1-1) a 'o' 'o') (iY (show κ.kle (KK κ (J6 h_) (lo+n1-1)) (KK κ (J6 h_) lo) from e) (g3 lo k (aB _) a b))
   have kk:=kY (κ:=κ) (xs:=J6 h_) (i:=lo) (j:=lo+n1) (by rw[r1.size];lia) all;have d2:Dn κ (J6 (setArr h_ (mirror (J6 h_) lo (lo+n1) ((lo+n1-lo)/2)))) lo (n1+1):=by
    show Dn κ (mirror (J6 h_) lo (lo+n1) ((lo+n1-lo)/2)) lo (n1+1);refine Dn.step (λi j a b c=>?_) g1 ?_
    ·rw[kk,kk,all i a 'o',all j 'o' c];exact Bt _
    ·rw[kk,kk];exact gu qm
   generalize setArr h_ (mirror (J6 h_) lo (lo+n1) ((lo+n1-lo)/2))=ql at *;exact key _ ⟨r2,d2⟩
 ·rw[J5 hc];refine key _ ⟨r1,?_⟩;have e1:n1=1:=by lia
  subst e1;exact Dn.step (Dn.one _) (aB _) (gu qm)
 rintro ql ⟨r2,d2⟩;refine aE (jx (eB ⟨rfl,aE (dN (cO (I:=λk c h_=>Rl rP lo h_/\∃n sW,c=(YP,n,sW)/\n=k/\n<=nrem/\Dn κ (J6 h_) lo n/\sW+1<=n/\(∀i,lo+n-(sW+1)<=i->i<lo+n->KK κ (J6 h_) i=KK κ (J6 h_) (lo+n-1))) (Q:=λc h_=>Rl rP lo h_/\∃n sW,c=(YP,n,sW)/\n<=nrem/\Dn κ (J6 h_) lo n/\sW+1<=n/\(∀i,lo+n-(sW+1)<=i->i<lo+n->KK κ (J6 h_) i=KK κ (J6 h_) (lo+n-1))) ?_ ?_ ?_) ?_)⟩))
 ·rintro k c qf h1 h2 ⟨r3,n,sW,rfl,rfl,g2,g3,g4,g5⟩;refine aE (Fk (i:=lo+n) (j:=lo+n-1) ho hs hk r3 'o' 'o' ?_);cases e:κ.blt (KK κ (J6 qf) (lo+n)) (KK κ (J6 qf) (lo+n-1)) with
  | true=>
   show wpS _ _ _ _ (if sW>0 then _ else _) _ qf;by_cases hq:sW>0
   ·rw[JU hq];refine aE (lf (aL ⟨r3.rev (i:=lo+n-(sW+1)) (j:=lo+n) 'o' 'o',n+1,0,rfl,rfl,by lia,?_,by lia,?_⟩))
    ·have kk:=kY (κ:=κ) (xs:=J6 qf) (i:=lo+n-(sW+1)) (j:=lo+n) (by rw[r3.size];lia) λk a b=>g5 k a b;have d:Dn κ (mirror (J6 qf) (lo+n-(sW+1)) (lo+n) ((lo+n-(lo+n-(sW+1)))/2)) lo n:=λi j a b c=>by rw[kk,kk];exact g3 i j a b c
     refine d.step 'o' ?_;rw[kk,kk];exact gu e
    ·intro i a b;have:i=lo+(n+1)-1:=by lia
     rw[this]
   ·rw[J5 hq];refine aL ⟨r3,n+1,0,rfl,rfl,by lia,g3.step 'o' (gu e),by lia,?_⟩;intro i a b;have:i=lo+(n+1)-1:=by lia
    rw[this]
  | false=>
   refine aE (Fk (i:=lo+n-1) (j:=lo+n) ho hs hk r3 'o' 'o' ?_);cases e':κ.blt (KK κ (J6 qf) (lo+n-1)) (KK κ (J6 qf) (lo+n)) with
   |true=>exact aL ⟨r3,n,sW,rfl,g2,g3,g4,g5⟩
   | false=>
    have eq:KK κ (J6 qf) (lo+n)=KK κ (J6 qf) (lo+n-1):=κ.total _ _ e e';refine aL ⟨r3,n+1,sW+1,rfl,rfl,by lia,g3.step 'o' e',by lia,?_⟩;intro i a b;have:lo+(n+1)-1=lo+n:=by lia
    rw[this];by_cases hi:i=lo+n
    ·rw[hi]
    ·rw[eq];exact g5 i 'o' 'o'
 ·rintro c qf ⟨r3,n,sW,rfl,e,g2,g3,g4,g5⟩;exact⟨r3,n,sW,rfl,g2,g3,g4,g5⟩
 ·exact⟨r2,n1+1,0,rfl,rfl,by lia,d2,by lia,λi a b=>by
   have:i=lo+(n1+1)-1:=by lia
   rw[this]⟩
 ·rintro c qf ⟨r3,n0,sW,rfl,WV,g3,g4,g5⟩;have WU:1<=n0:=by lia
  apply PY (H:=λq_=>Rl rP lo q_/\Dn κ (J6 q_) lo n0);intro key;show wpS _ _ _ _ (if sW>0 then _ else _) Q qf;by_cases hq:sW>0
  ·rw[JU hq];refine aE (lf ?_);have r4:=r3.rev (i:=lo+n0-(sW+1)) (j:=lo+n0) 'o' 'o';have kk:=kY (κ:=κ) (xs:=J6 qf) (i:=lo+n0-(sW+1)) (j:=lo+n0) (by rw[r3.size];lia) λk a b=>g5 k a b;have d4:Dn κ (J6 (setArr qf (mirror (J6 qf) (lo+n0-(sW+1)) (lo+n0) ((lo+n0-(lo+n0-(sW+1)))/2)))) lo n0:=λi j a b c=>by
    show κ.kle (KK κ (mirror _ _ _ _) j) (KK κ (mirror _ _ _ _) i);rw[kk,kk];exact g3 i j a b c
   generalize setArr qf (mirror (J6 qf) (lo+n0-(sW+1)) (lo+n0) ((lo+n0-(lo+n0-(sW+1)))/2))=q_ at *;exact key _ ⟨r4,d4⟩
  ·rw[J5 hq];exact key _ ⟨r3,g3⟩
  rintro q_ ⟨r4,d4⟩;refine aE (lf ?_);have r1:=r4.rev (i:=lo) (j:=lo+n0) (aB lo) 'o';have u1:Up κ (J6 (setArr q_ (mirror (J6 q_) lo (lo+n0) ((lo+n0-lo)/2)))) lo n0:=Up.rev d4 (by rw[r4.size];lia);generalize setArr q_ (mirror (J6 q_) lo (lo+n0) ((lo+n0-lo)/2))=qN at *;walk_at "asc"
  ·rintro c h_ ⟨rfl,n,rfl,g1,g2,g3,_⟩;exact aL (q n _ r1 g1 g2 g3)
end
section
variable{prog:aJ}{w:aU}{A:aX}{E:ae->ag->Prop}{s:ag}{κ:ba}{rP:cb}{lo:Nat}{kd:KT}
def zif(H:xg prog w A s κ kd)(J:∀x∈(J6 rP).toList,uc κ x)(K:kindOf rP=kd)(L:1<=ok)(U:ok<=n)(V:lo+n<=(J6 rP).size)(M:Rl rP lo qN)(N:Up κ (J6 qN) lo ok)(q:∀f,Rl rP lo f->Up κ (J6 f) lo n->Q Y1 f):wpS (ax prog w) A E s (binarySort' lo n ok) Q qN:=by
 rw[binarySort'_eq];refine aE (dN (cO (I:=λk c f=>Rl rP lo f/\c=(YP,())/\1<=k/\Up κ (J6 f) lo k) (Q:=λc f=>Rl rP lo f/\c=(YP,())/\Up κ (J6 f) lo n) ?_ ?_ ?_) ?_)
 ·rintro k c g _ W ⟨h,rfl,O,m⟩;refine aE (dN (cO (I:=λj c f=>f=g/\∃l r,c=(YP,l,r)/\l<=r/\r<=k/\r-l<=k-j/\(∀i,i<l->κ.kle (KK κ (J6 g) (lo+i)) (KK κ (J6 g) (lo+k)))/\(∀i,r<=i->i<k->κ.blt (KK κ (J6 g) (lo+k)) (KK κ (J6 g) (lo+i))=Y1)) (Q:=λc f=>f=g/\∃l,c=(YP,l,l)/\l<=k/\(∀i,i<l->κ.kle (KK κ (J6 g) (lo+i)) (KK κ (J6 g) (lo+k)))/\(∀i,l<=i->i<k->κ.blt (KK κ (J6 g) (lo+k)) (KK κ (J6 g) (lo+i))=Y1)) ?_ ?_ ?_) ?_)
  ·rintro j c d _ X ⟨rfl,l,r,rfl,P,u,y,o,p⟩;show wpS _ _ _ _ (if l ≥ r then _ else _) _ d;by_cases z:l ≥ r
   ·rw[JU z];have:l=r:=by lia
    subst this;exact aL ⟨rfl,l,rfl,u,o,p⟩
   ·rw[J5 z];refine aE (Fk (i:=lo+k) (j:=lo+(l+r)/2) H J K h 'o' 'o' ?_);cases e:κ.blt (KK κ (J6 d) (lo+k)) (KK κ (J6 d) (lo+(l+r)/2)) with
    |true=>exact aL ⟨rfl,l,(l+r)/2,rfl,by lia,by lia,by lia,o,λi v R=>KeyOrd.klt_of_klt_of_kle e (m _ _ 'o' 'o' 'o')⟩
    |false=>exact aL ⟨rfl,(l+r)/2+1,r,rfl,by lia,by lia,by lia,λi v=>iY (m _ (lo+(l+r)/2) 'o' 'o' 'o') e,p⟩
  ·rintro c d ⟨rfl,l,r,rfl,P,u,y,o,p⟩;rw[d7] at y;have:l=r:=by lia
   subst this;exact⟨rfl,l,rfl,u,o,p⟩
  ·exact⟨rfl,0,k,rfl,by lia,by lia,by lia,λi v=>by lia,λi L Y=>by lia⟩
  ·rintro c d ⟨rfl,l,rfl,u,o,p⟩;show wpS (ax prog w) A E s (moveDown' (lo+k) (lo+l) >>= _) _ d;rw[moveDown'_eq];have B:lo+k<(J6 d).size:=by rw[h.size];lia
   have Z:lo+k-(lo+l)=k-l:=by lia
   refine aE (fR (aL ⟨⟨(bubble_perm _ _ _).trans h.perm,h.kind,h.failed,h.pend,λi v=>?_⟩,rfl,by lia,?_⟩))
   ·show(bubble (J6 d) (lo+k) (lo+k-(lo+l)))[i]?=_;rw[getElem?_bubble B _ 'o',J5 'o',J5 'o'];exact h.fix i v
   ·show Up κ (bubble (J6 d) (lo+k) (lo+k-(lo+l))) lo (k+1);have C:∀x,KK κ (bubble (J6 d) (lo+k) (lo+k-(lo+l))) x=if x=lo+l then KK κ (J6 d) (lo+k) else if lo+l<x/\x<=lo+k then KK κ (J6 d) (x-1) else KK κ (J6 d) x:=λx=>by
     rw[KK_bubble B 'o'];have:lo+k-(lo+k-(lo+l))=lo+l:=by lia
     rw[this]
    have S:∀x,lo<=x->x<lo+l->κ.kle (KK κ (J6 d) x) (KK κ (J6 d) (lo+k)):=λx a b=>by
     have:=o (x-lo) 'o';rw[show lo+(x-lo)=x by lia] at this;exact this
    have T:∀x,lo+l<=x->x<lo+k->κ.kle (KK κ (J6 d) (lo+k)) (KK κ (J6 d) x):=λx a b=>by
     have:=p (x-lo) 'o' 'o';rw[show lo+(x-lo)=x by lia] at this;exact gu this
    intro i j a b c;rw[C i,C j];by_cases D:i=lo+l
    ·rw[JU D];by_cases t:j=lo+l
     ·rw[JU t];exact Bt _
     ·rw[J5 t,JU 'o'];exact T (j-1) 'o' 'o'
    ·rw[J5 D];by_cases F:lo+l<i/\i<=lo+k
     ·rw[JU F,J5 'o',JU 'o'];exact m _ _ 'o' 'o' 'o'
     ·rw[J5 F];by_cases t:j=lo+l
      ·rw[JU t];exact S i a 'o'
      ·rw[J5 t];by_cases G:lo+l<j/\j<=lo+k
       ·rw[JU G];exact m _ _ a 'o' 'o'
       ·rw[J5 G];exact m _ _ a b 'o'
 ·rintro c g ⟨h,rfl,O,m⟩;rw[show max (max ok 1) n=n by lia] at m;exact⟨h,rfl,m⟩
 ·exact⟨M,rfl,by lia,by rw[show max ok 1=ok by lia];exact N⟩
 ·rintro c g ⟨h,rfl,m⟩;exact aL (q g h m)
end
def uP:Nat->List (List be)->List (Nat×Nat)
 |_,[]=>[]
 |b,X::S=>(b,X.length)::uP (b+X.length) S
theorem Jt:∀(S T:List (List be))(b:Nat),uP b (S++T)=uP b S++uP (b+S.flatten.length) T
 |[],T,b=>by simp[uP]
 | X::S,T,b=>by
  rw[kr,uP,uP,kr,Jt S T,ei,aA,iP]
theorem Cj:∀(S:List (List be))(b:Nat),(uP b S).length=S.length
 |[],_=>rfl
 |X::S,b=>by rw[uP,aT,Cj S,aT]
def se(t:Nat×Nat×Nat):Nat×Nat:=(t.1,t.2.1)
structure Pn(κ:ba)(kd:KT)(L0:List be)(st:cb)(lo:Nat)(S:List (List be))(R:List be):Prop where
 arr:(J6 st).toList=S.flatten++R
 lo:S.flatten.length=lo
 pend:(J7 st).toList.map se=uP 0 S
 ne:∀X∈S,1<=X.length
 srt:∀X∈S,qB κ X
 kind:kindOf st=kd
 failed:failedOf st=YP
 perm:(J6 st).toList.Perm L0
def Pn.size{κ:ba}{kd:KT}{b:List be}{a:cb}{lo:Nat}{S:List (List be)}{R:List be}(h:Pn κ kd b a lo S R):(J7 a).size=S.length:=by have:=congrArg jC h.pend;rw[aD,aN,Cj] at this;exact this
theorem Sj:∀(S:List (List be)),(∀X∈S,1<=X.length)->S.length<=S.flatten.length
 |[],_=>by simp
 | X::S,h=>by
  rw[ei,aA,aT];have:=h X av;have:=Sj S λY a=>h Y (al _ a);lia
theorem TF{α:Type}:∀(S:List α)(i:Nat),i+1<S.length->∃a X Y b,S=a++X::Y::b/\a.length=i
 |[],i,h=>by simp at h
 |[_],i,h=>by simp at h
 |X::Y::S,0,_=>⟨[],X,Y,S,rfl,rfl⟩
 | X::Y::S,i+1,h=>by
  obtain⟨a,A,B,b,e,l⟩:=TF (Y::S) i ⇑h;exact⟨X::a,A,B,b,by rw[e];rfl,by simp[l]⟩
theorem Vj{α β:Type}(f:α->β):∀(l:List α)(i:Nat),(l.eraseIdx i).map f=(l.map f).eraseIdx i
 |[],_=>rfl
 |_::_,0=>rfl
 |x::l,i+1=>by simp[Vj f l i]
section
variable{prog:aJ}{w:aU}{A:aX}{E:ae->ag->Prop}{s:ag}{κ:ba}{L0:List be}{st:cb}{lo:Nat}{kd:KT}
def QY(I:xg prog w A s κ kd)(J:∀x∈L0,uc κ x)(p:Pn κ kd L0 st lo S R)(K:i+1<S.length)(q:∀g r,Pn κ kd L0 g lo r R->r.length+1=S.length->Q Y1 g):wpS (ax prog w) A E s (mergeAt' i) Q st:=by
 obtain⟨c,X,Y,d,rfl,j⟩:=TF S i K;have l:=p.pend;rw[Jt,uP,uP,eR] at l;have u:∀k a b,(uP 0 c++(c.flatten.length,X.length)::(c.flatten.length+X.length,Y.length)::uP (c.flatten.length+X.length+Y.length) d)[k]?=XE (a,b)->∃v,(J7 st)[k]?=XE (a,b,v):=λk a b h=>by
  rw[<- l,bC] at h;have L:(J7 st)[k]?=(J7 st).toList[k]?:=by simp
  cases e:(J7 st).toList[k]? with
  |none=>rw[e] at h;cases h
  | some t=>
   rw[e] at h;obtain⟨x,y,z⟩:=t;injection h with h;unfold se at h;injection h with h1 h2;dsimp only at h1 h2;exact⟨z,by rw[L,e,h1,h2]⟩
 obtain⟨v,B⟩:=u i c.flatten.length X.length (by rw[a8 (by rw[Cj];lia),Cj,j,jj];rfl);obtain⟨W,C⟩:=u (i+1) (c.flatten.length+X.length) Y.length (by rw[a8 (by rw[Cj];lia),Cj,j,cj];rfl);have m:(J6 st).toList=c.flatten++(X++(Y++(d.flatten++R))):=by rw[p.arr];simp
 have n:X∈c++X::Y::d:=by simp
 have D:Y∈c++X::Y::d:=by simp
 refine Z8 I p.kind p.failed m B C (p.ne X n) (p.ne Y D) (p.srt X n) (p.srt Y D) (λx N=>J x (p.perm.mem_iff.mp (by
   rw[m];rcases aQ.mp N with h|h<;>simp[h]))) λg M O P T F G U=>?_
 have o:M.length=X.length+Y.length:=by rw[G.length_eq,aA]
 refine q g (c++M::d) ⟨?_,?_,?_,?_,?_,O,P,?_⟩ (by simp;lia)
 ·rw[F];simp
 ·rw[<- p.lo];simp[o];lia
 ·rw[T,Jt,uP,eR,o];have WN:i<(J7 st).size:=(eC.mp B).1;have V:i+1<(J7 st).size:=(eC.mp C).1;rw[Array.eraseIdxIfInBounds,dif_pos (by rw[kz];exact V),Array.toList_eraseIdx,jZ,Vj,List.map_set,l];have H:(uP 0 c).length=i:=by rw[Cj,j]
  rw[lF _ _ 'o',H,jj,fy,List.eraseIdx_append_of_length_le 'o',H,cj];show _++(_::uP _ d)=_;rw[iP];rfl
 ·intro Z f;simp only[aQ,ar] at f;rcases f with h|rfl|h
  ·exact p.ne Z (by simp[h])
  ·rw[o];have:=p.ne X n;lia
  ·exact p.ne Z (by simp[h])
 ·intro Z f;simp only[aQ,ar] at f;rcases f with h|rfl|h
  ·exact p.srt Z (by simp[h])
  ·exact U
  ·exact p.srt Z (by simp[h])
 ·rw[F];refine List.Perm.trans ?_ p.perm;rw[m];refine gE _ ?_;rw[<- bh X];exact G.append_right _
end
section
variable{prog:aJ}{w:aU}{A:aX}{E:ae->ag->Prop}{s:ag}{κ:ba}{L0:List be}{st:cb}{lo:Nat}{kd:KT}
def ZF(u:Up κ xs lo m)(h:lo+m<=xs.size):qB κ ((xs.toList.drop lo).take m):=by
 unfold qB;rw[eJ];intro i j b c d;rw[bT,cq,aN] at b c;have a:∀k,k<m->∀(a:k<((xs.toList.drop lo).take m).length),ky κ ((xs.toList.drop lo).take m)[k]=KK κ xs (lo+k):=λk e a=>by
  rw[mT,mU];unfold KK ky;rw[eS,dW 'o']
 unfold Le;rw[a i 'o',a j 'o'];exact u _ _ 'o' 'o' 'o'
def Pn.run(p:Pn κ kd L0 st lo S R)(r:Rl st lo h_)(h:lo+m<=(J6 st).size)(u:Up κ (J6 h_) lo m):∃b,Pn κ kd L0 h_ lo S b/\b.length=R.length/\qB κ (b.take m):=by
 have c:=p.lo;have g:=r.size;have a:(J6 h_).toList.length=lo+R.length:=by rw[aN,g,<- aN,p.arr,aA,c]
 have d:(J6 h_).toList.take lo=S.flatten:=by
  have e:(J6 st).toList.take lo=S.flatten:=by rw[p.arr,<- c,nZ]
  rw[<- e];apply List.ext_getElem?;intro i;by_cases f:i<lo
  ·rw[fX f,fX f,i5,i5];exact r.fix i f
  ·rw[j0 'o',j0 'o']
 have j:(J6 h_).toList=S.flatten++(J6 h_).toList.drop lo:=by
  conv=>lhs;rw[<- cB lo (J6 h_).toList]
  rw[d]
 refine⟨(J6 h_).toList.drop lo,⟨j,c,by rw[r.pend];exact p.pend,p.ne,p.srt,r.kind.trans p.kind,r.failed.trans p.failed,(dQ.mp r.perm).trans p.perm⟩,by rw[cq,a];lia,?_⟩;exact ZF u (by rw[g];exact h)
def Pn.push(p:Pn κ kd L0 st lo S R)(c:1<=m)(e:m<=R.length)(d:qB κ (R.take m)):Pn κ kd L0 (setPending st ((J7 st).push (lo,m,pw))) (lo+m) (S++[R.take m]) (R.drop m):=by
 have a:(R.take m).length=m:=by rw[bT];lia
 refine⟨?_,?_,?_,?_,?_,p.kind,p.failed,p.perm⟩
 ·show(J6 st).toList=_;rw[p.arr];simp
 ·rw[List.flatten_append,aA,p.lo];show lo+(R.take m++[]).length=_;rw[bP,a]
 ·show((J7 st).push (lo,m,pw)).toList.map se=_;rw[gq,bQ,p.pend,Jt,p.lo,eR,uP,uP,a];rfl
 ·intro X b;rcases aQ.mp b with h|h
  ·exact p.ne X h
  ·rw[dG.mp h,a];exact c
 ·intro X b;rcases aQ.mp b with h|h
  ·exact p.srt X h
  ·rw[dG.mp h];exact d
theorem Vn{α β:Type}(f:α->β)(g:α->α)(h:∀x,f (g x)=f x):∀(l:List α)(i:Nat),(l.modify i g).map f=l.map f
 |[],_=>by simp
 |x::l,0=>by simp[h]
 |x::l,i+1=>by simp[Vn f g h l i]
def Pn.power(p:Pn κ kd L0 st lo S R)(a:∀x,se (g x)=se x)(i:Nat):Pn κ kd L0 (setPending st ((J7 st).modify i g)) lo S R:=by refine⟨p.arr,p.lo,?_,p.ne,p.srt,p.kind,p.failed,p.perm⟩;show((J7 st).modify i g).toList.map se=_;rw[Array.toList_modify,Vn se g a,p.pend]
def zkQ(h:qB κ xs.toList):jM κ xs xs.size:=λi j d a=>by
 by_cases e:i=j
 ·subst e;exact Bt _
 have b:KK κ xs i=ky κ xs[i]:=by unfold KK ky;rw[dW 'o']
 have c:KK κ xs j=ky κ xs[j]:=by unfold KK ky;rw[dW a]
 rw[b,c];have:=eJ.mp h i j (by rw[aN];lia) (by rw[aN];lia) 'o';rw[eS,eS] at this;exact this
set_option maxHeartbeats 0 in
def Ug(J:xg prog w A s κ kd)(hs:jr κ a₀)(T:(J6 st).Perm a₀)(bk:kindOf st=kd)(bf:failedOf st=YP)(bn:J7 st = #[])(q:∀d,(J6 d).Perm a₀->failedOf d=YP->jM κ (J6 d) a₀.size->Q () d):wpS (ax prog w) A E s sortRuns' Q st:=by
 have v:∀x∈a₀.toList,uc κ x:=hs;have p0:Pn κ kd a₀.toList st 0 [] (J6 st).toList:=⟨rfl,rfl,by rw[bn];rfl,by simp,by simp,bk,bf,dQ.mp T⟩;have N:(J6 st).size=a₀.size:=T.size_eq;rw[sortRuns'_eq];refine aE (g8 ?_);show wpS _ _ _ _ (forIn [:(J6 st).size] (YP,0) _ >>= _) Q st;rw[N];refine aE (dN (cO (I:=λk c d=>∃lo S R,c=(YP,lo)/\Pn κ kd a₀.toList d lo S R/\k<=lo) (Q:=λc d=>∃lo S R,c=(YP,lo)/\Pn κ kd a₀.toList d lo S R/\a₀.size<=lo) ?_ ?_ ?_) ?_)
 ·rintro k c z _ hk ⟨lo,S,R,rfl,p,D⟩;have U:lo+R.length=a₀.size:=by
   have:=p.perm.length_eq;rw[p.arr,aA,p.lo,aN] at this;exact this
  have O:(J6 z).size=a₀.size:=by rw[<- aN,p.perm.length_eq,aN]
  show wpS _ _ _ _ (if lo ≥ _ then _ else _) _ z;by_cases o:lo ≥ a₀.size
  ·rw[JU (by first|exact o|(rw[N];exact o))];exact aL ⟨lo,S,R,rfl,p,o⟩
  rw[J5 (by first|exact o|(rw[N];exact o))];have V:∀x∈(J6 z).toList,uc κ x:=λx hx=>v x (p.perm.mem_iff.mp hx);refine aE (zcV (lo:=lo) (nrem:=a₀.size-lo) J V p.kind 'o' 'o' (Rl.refl z lo) λn r W Y n2 Z=>?_);apply E_ (α:=cb) (β:=Nat) (H:=λF m=>∃i,Pn κ kd a₀.toList F lo S i/\1<=m/\m<=i.length/\qB κ (i.take m)/\k<lo+m);intro G;show wpS _ _ _ _ (if n<minRun' a₀.size a₀.size 0 then _ else _) _ r;by_cases hm:n<minRun' a₀.size a₀.size 0
  ·rw[JU hm];refine aE (jx (eB ⟨rfl,aE (zif (lo:=lo) (n:=min (a₀.size-lo) (minRun' a₀.size a₀.size 0)) (ok:=n) J V p.kind Y 'o' 'o' W Z λF r3 u3=>?_)⟩));obtain⟨i,u,l3,B⟩:=p.run r3 'o' u3;have K:1<=min (a₀.size-lo) (minRun' a₀.size a₀.size 0):=by lia
   have L:min (a₀.size-lo) (minRun' a₀.size a₀.size 0)<=i.length:=by lia
   generalize min (a₀.size-lo) (minRun' a₀.size a₀.size 0)=m at *;exact G _ _ ⟨i,u,K,L,B,by lia⟩
  ·rw[J5 hm];obtain⟨i,u,l3,B⟩:=p.run W 'o' Z;exact G _ _ ⟨i,u,Y,by lia,B,by lia⟩
  rintro F m ⟨i,u,K,L,B,D⟩;refine aE (g8 ?_);cases hb:(J7 F).back? with
  |none=>exact aE (fR (aL ⟨lo+m,_,_,rfl,u.push K L B,by lia⟩))
  | some t=>
   obtain⟨s1,n1',pw0⟩:=t;refine aE (dN (cO (I:=λj c d=>c=(YP,())/\∃e,Pn κ kd a₀.toList d lo e i) (Q:=λc d=>c=(YP,())/\∃e,Pn κ kd a₀.toList d lo e i) ?_ ?_ ?_) ?_)
   ·rintro j c f _ _ ⟨rfl,e,C⟩;refine aE (g8 ?_);show wpS _ _ _ _ (match (if (J7 f).size>1 then (J7 f)[(J7 f).size-2]? else YP) with|some (fst,fst_1,l)=>_|x=>_) _ f;cases ht:(if (J7 f).size>1 then (J7 f)[(J7 f).size-2]? else YP) with
    |none=>exact aL ⟨rfl,e,C⟩
    | some t=>
     obtain⟨x,y,l⟩:=t;have P:(J7 f).size>1:=by
      by_cases P:(J7 f).size>1
      ·exact P
      ·rw[J5 P] at ht;cases ht
     show wpS _ _ _ _ (if l<=_ then _ else _) _ f;split
     ·exact aL ⟨rfl,e,C⟩
     ·exact aE (QY J v C (by rw[C.size] at *;lia) λJX S5 p5 _=>aL ⟨rfl,S5,p5⟩)
   ·rintro c f h;exact h
   ·exact⟨rfl,S,u⟩
   ·rintro c f ⟨rfl,e,C⟩;refine aE (fR (aE (fR (aL ⟨lo+m,_,_,rfl,Pn.push (Pn.power C ?_ _) K L B,by lia⟩))));rintro⟨a,b,c⟩;rfl
 ·rintro c z ⟨lo,S,R,rfl,p,D⟩;exact⟨lo,S,R,rfl,p,by rw[d7] at D;exact D⟩
 ·exact⟨0,[],_,rfl,p0,aB _⟩
 ·rintro c z ⟨lo,S,R,rfl,p,D⟩;have hR:R=[]:=by
   have h:=p.perm.length_eq;rw[p.arr,aA,p.lo] at h;have h2:a₀.toList.length=a₀.size:=aN;exact cU.mp 'o'
  refine aE (dN (cO (I:=λk c d=>c=(YP,())/\∃S,Pn κ kd a₀.toList d lo S R/\S.length<=a₀.size-k) (Q:=λc d=>c=(YP,())/\∃S,Pn κ kd a₀.toList d lo S R/\S.length<=1) ?_ ?_ ?_) ?_)
  ·rintro k c r _ hk ⟨rfl,e,g,M⟩;refine aE (g8 ?_);show wpS _ _ _ _ (if (J7 r).size<=1 then _ else _) _ r;by_cases o:(J7 r).size<=1
   ·rw[JU o];exact aL ⟨rfl,e,g,by rw[<- g.size];exact o⟩
   ·rw[J5 o];have O:=g.size;refine aE (QY J v g ?_ λF S3 u h3=>aL ⟨rfl,S3,u,by lia⟩)
    repeat' split
    all_goals lia
  ·rintro c r ⟨rfl,e,g,M⟩;exact⟨rfl,e,g,by rw[d7] at M;lia⟩
  ·refine⟨rfl,S,p,?_⟩;have h1:=Sj S p.ne;have h:=p.perm.length_eq;rw[p.arr,aA] at h;have h2:a₀.toList.length=a₀.size:=aN;lia
  ·rintro c r ⟨rfl,e,g,M⟩;have vt:=g.arr;rw[hR,bP] at vt;have O:(J6 r).size=a₀.size:=by rw[<- aN,g.perm.length_eq,aN]
   refine aL (q r (dQ.mpr g.perm) g.failed ?_);rw[<- O];apply zkQ;rw[vt]
   match e,M with
   |[],_=>exact eU
   |[X],_=>rw[ei,List.flatten_nil,bP];exact g.srt X av
end
def list_sort_big(l:κ.OneLt)(f:s.heap.get? a=XE (seqObj "list" vs.toArray n))(m:jr κ (pairsOf vs))(o:∀p r b,vs=p::r::b->keyKind' (p::r::b).toArray=pure oneType')
  (t:vs.length<=4000000) (q:∀c:cb,(J6 c).Perm (pairsOf vs)->jM κ (J6 c) (pairsOf vs).size->P (Fin.done (Flow.ret cZ)) { heap:=sortedHeap s.heap a vs (gH (λx=>x.snd) (J6 c)),gens:=s.gens,drawn:=s.drawn,toks:=s.toks,os:=s.os }):aq (ax prog w) A (eF.«list.sort» { pos:=[c8 a] }) P E s:=by
 by_cases u:vs.length<64
 ·exact list_sort_treeK l f m o u q
 rw[list_sort_plain];have v:(4000000:Nat)<=J8:=by decide
 obtain⟨v1,d,b,rfl⟩:∃v1 d b,vs=v1::d::b:=by
  match vs,u with
  |[],h=>exact absurd (by show 0<64;decide) h
  |[_],h=>exact absurd (by show 1<64;decide) h
  |v1::d::b,_=>exact⟨v1,d,b,rfl⟩
 generalize j:v1::d::b=vs at *;have y:=bM (bH λ_=>#[]) f rfl;have z:=ah (seqObj "list" #[] 0) (ah (seqObj "tuple" vs.toArray 0) y);refine aa (jl f rfl (aa (iQ f rfl (aa (jE y rfl (aa (jw (aa (iS (bL ?_) 's')) (by simpa using aG t v))))) (by simpa using aG t v) (by show 0<=J8+1;lia))));have B:¬ vs.toArray.size<2:=by rw[aP];lia
 show aq (ax prog w) A (if vs.toArray.size<2 then _ else _) P E _;rw[J5 B,<- j,o v1 d b j.symm,j];refine aa (am ?_);rw[J5 B];show aq (ax prog w) A (sortRuns'.run (lU oneType' (vs.toArray.zip vs.toArray) #[] 7 YP) >>= _) P E { heap:=((s.heap.update a (bH λx=>#[])).push (seqObj "tuple" vs.toArray 0)).push (seqObj "list" #[] 0),gens:=s.gens,drawn:=s.drawn,toks:=s.toks,os:=s.os };refine aa (ci (Ug (Q:=λ_ c=>(J6 c).Perm (pairsOf vs)/\failedOf c=YP/\jM κ (J6 c) (pairsOf vs).size) (xg.one l) (a₀:=pairsOf vs) m (jk _) rfl rfl rfl λc g i k=>⟨g,i,k⟩) ?_ λ_ _ h=>h);rintro⟨_,c⟩ C ⟨rfl,g,i,k⟩;have D:(gH (λx=>x.snd) (J6 c)).size<=4000000:=by
  rw[lG,g.size_eq];show(vs.toArray.zip vs.toArray).size<=_;rw[n6,aP];lia
 refine aa (jE z rfl (aa (iQ z rfl ?_ (by show 0<=J8;lia) (by show(gH _ _).size<=J8+1;lia))));dsimp only at i;show aq (ax prog w) A (match failedOf c with|some e=>_|x=>_) P E _;rw[i];show aq (ax prog w) A (if ((if _ then n else n+1) !=(if _ then n else n+1))=Y1 then _ else _) P E _;rw[J5 'd'];exact am (q c g k)
def DR:ae->Option n_
 |.str x _=>XE x.cps.toList
 |_=>YP
def allS:List ae->Option l_
 |[]=>XE []
 | v::vs=>match DR v,allS vs with
  |some a,XE r=>XE (a::r)
  |_,_=>YP
def Bf(h:aR):ae->Option l_
 | .ref t=>match h.get? t with
  | some o=>match o.data with
   |.seq e_ _=>allS e_.toList
   |_=>YP
  |none=>YP
 |_=>YP
def llt_irrefl(a:l_):¬ a<a:=fq a
def llt_trans{a b c:l_}(d:a<b)(e:b<c):a<c:=iU d e
def llt_total{a b:l_}(c:¬ a<b)(d:¬ b<a):a=b:=kA (iG.mp d) (iG.mp c)
def Bp(h:aR):ba where
 α:=l_
 blt:=λa b=>decide (a<b)
 irrefl:=λa=>decide_eq_false (llt_irrefl a)
 trans:=λa b c h1 h2=>decide_eq_true (llt_trans (of_decide_eq_true h1) (of_decide_eq_true h2))
 negTrans:=λa b c h=>by
  by_cases h1:a<b
  ·exact .inl (decide_eq_true h1)
  ·right;have hac:=of_decide_eq_true h;by_cases h2:b<a
   ·exact decide_eq_true (llt_trans h2 hac)
   ·rw[<- llt_total h1 h2];exact h
 total:=λa b h1 h2=>llt_total (of_decide_eq_false h1) (of_decide_eq_false h2)
 keyOf:=Bf h
 dflt:=[]
def lexR:l_->l_->Option Bool
 |a::as,b::bs=>if a=b then lexR as bs else XE (decide (a<b))
 |_,_=>YP
theorem lexR_lt:∀c bs:l_,(match lexR c bs with|some r=>r|none=>decide (c.length<bs.length))=decide (c<bs)
 |[],[]=>by simp[lexR]
 |[],b::bs=>by simp[lexR]
 |a::c,[]=>by simp[lexR]
 | a::c,b::bs=>by
  unfold lexR;by_cases e:a=b
  ·subst e;rw[JU rfl];have:=lexR_lt c bs;rw[aT,aT];have d:decide (c.length+1<bs.length+1)=decide (c.length<bs.length):=by simp
   rw[d,this];simp[lH]
  ·rw[J5 e];show decide (a<b)=_;simp[lH,e]
theorem Vk
  (m:∀x y i a b{Q:ForInStep (Option Bool×Unit)->ag->Prop},DR x=XE a->DR y=XE b->Q (if a=b then .yield (YP,()) else .done (XE (decide (a<b)),())) s->aq M A (f ((x,y),i) (YP,())) Q E s):
  ∀(xs d:List ae)(c bs:l_)(j:Nat){Q:Option Bool×Unit->ag->Prop},allS xs=XE c->allS d=XE bs->Q (lexR c bs,()) s->aq M A (forIn ((xs.zip d).zipIdx j) (YP,()) f) Q E s
 | [],d,c,bs,j,Q,h1,h2,q=>by
  cases h1;exact am (by cases bs<;>exact q)
 | x::xs,[],c,bs,j,Q,h1,h2,q=>by
  cases h2;exact am (by cases c<;>exact q)
 | x::xs,y::d,c,bs,j,Q,h1,h2,q=>by
  unfold allS at h1 h2;split at h1
  ·rename_i a g n h;split at h2
   ·rename_i b k o l;cases h1;cases h2;rw[jN,iX,h9];refine aa (m x y j a b n o ?_);unfold lexR at q;by_cases e:a=b
    ·rw[JU e] at q ⊢;exact Vk m xs d g k (j+1) h l q
    ·rw[J5 e] at q ⊢;exact am q
   ·cases h2
  ·cases h1
theorem SX{M:iu}{A:aX}{E:ae->ag->Prop}{s:ag}{α β:Type}{f:α->Sem β}(g:α->β):∀(l:List α){Q:List β->ag->Prop},(∀v∈l,∀(a:β->ag->Prop),a (g v) s->aq M A (f v) a E s)->Q (l.map g) s->aq M A (List.mapM f l) Q E s
 |[],Q,_,q=>by rw[List.mapM_nil];exact am q
 | v::l,Q,h,q=>by
  rw[List.mapM_cons];exact aa (h v av _ (aa (SX g l (λu b=>h u (al _ b)) (am q))))
def Ss{M:iu}{A:aX}{E:ae->ag->Prop}{s:ag}{α β:Type}{f:α->Sem β}(g:α->β)(l:List α){Q:Array β->ag->Prop}(h:∀v∈l,∀(a:β->ag->Prop),a (g v) s->aq M A (f v) a E s)(q:Q (l.map g).toArray s):aq M A (Array.mapM f l.toArray) Q E s:=by rw[Array.mapM_eq_mapM_toList];refine aa (SX g l h (am q))
section
variable{prog:aJ}{w:aU}{A:aX}{E:ae->ag->Prop}{s:ag}
def str_of(h:DR v=XE a):∃x t,v=.str x t/\x.cps.toList=a:=by
 cases v with
 |str x t=>exact⟨x,t,rfl,by cases h;rfl⟩
 |_=>cases h
def YY(c:DR x=XE a)(d:DR y=XE b)(q:Q (decide (a<b)) s):aq (ax prog w) A (oneLt' o x y) Q E s:=by
 obtain⟨x,t,rfl,rfl⟩:=str_of c;obtain⟨y,u,rfl,rfl⟩:=str_of d;cases o with
 |true=>exact strKind_oneLt prog w A E s _ _ _ _ rfl rfl q
 | false=>
  rw[oneLt'_eq,J5 's'];refine aa (show aq (ax prog w) A (cy CmpOp.Lt _ _) _ E s from P.lt_str ?_);exact am q
structure TupS(h:aR)(v:ae)(ks:l_):Prop where
 ok:∃t o e_ c,v=.ref t/\h.get? t=XE o/\o.cls=.type "tuple"/\o.data=.seq e_ c/\allS e_.toList=XE ks
noncomputable def B5(h:aR)(v:ae):Option ae:=match v with
 | .ref t=>match h.get? t with
  | some o=>match o.data with
   |.seq e_ _=>e_[0]?
   |_=>YP
  |none=>YP
 |_=>YP
def Ut(g:h.get? t=XE o)(a:o.data=.seq e_ c):B5 h (.ref t)=e_[0]?:=by show(match h.get? t with|some o=>(match o.data with|.seq e_ _=>e_[0]?|_=>YP)|none=>YP)=_;rw[g];dsimp only;rw[a]
def QI(e:Bf h v=XE ks):∃t o a c,v=.ref t/\h.get? t=XE o/\o.data=.seq a c/\allS a.toList=XE ks:=by
 cases v with
 | ref t=>
  unfold Bf at e;dsimp only at e;cases g:h.get? t with
  |none=>rw[g] at e;cases e
  | some o=>
   rw[g] at e;dsimp only at e;cases b:o.data with
   |seq a c=>rw[b] at e;exact⟨t,o,a,c,rfl,g,b,e⟩
   |_=>rw[b] at e;cases e
 |_=>cases e
def Mr(ok:TupS h v ks)(d:ks≠[]):∃x tk,B5 h v=XE (.str x tk):=by
 obtain⟨t,o,f,c,rfl,g,k,i,b⟩:=ok;rw[Ut g i,<- i5];cases e:f.toList with
 |nil=>rw[e] at b;cases b;exact absurd rfl d
 | cons x r=>
  rw[e] at b;unfold allS at b;split at b
  ·rename_i a l j m;obtain⟨y,tk,rfl,_⟩:=str_of j;exact⟨y,tk,rfl⟩
  ·cases b
theorem Mo:∀{l:List ae}{b:l_},allS l=XE b->l.length=b.length
 |[],b,h=>by cases h;rfl
 | v::l,b,h=>by
  unfold allS at h;split at h
  ·rename_i a r d c;cases h;rw[aT,aT,Mo c]
  ·cases h
def z8Y{vs:List ae}(S:2<=vs.length)(j:∀v∈vs,∃k,TupS s.heap v k/\k≠[]){Q:KT->ag->Prop}(q:∀kd:KT,xg prog w A s (Bp s.heap) kd->Q kd s):aq (ax prog w) A (keyKind' vs.toArray) Q E s:=by
 show aq (ax prog w) A (_ >>= _) Q E s;refine aa (Ss (B5 s.heap) vs (λv f l I=>?_) ?_)
 ·obtain⟨k,⟨t,o,T,c,rfl,g,U,K,ha⟩,m⟩:=j v f;show aq (ax prog w) A (typeOf (.ref t) >>= _) l E s;refine aa (wpAny_typeOf_ref g ?_);rw[U];show aq (ax prog w) A (lg (.ref t) >>= _) l E s;refine aa (jl g K (am ?_));rw[<- Ut g K];exact I
 ·have V:((vs.map (B5 s.heap)).toArray.all λx=>x.isSome)=Y1:=by
   rw[ny,ay];intro x d;obtain⟨v,f,rfl⟩:=az.mp d;obtain⟨k,C,m⟩:=j v f;obtain⟨y,n,e⟩:=Mr C m;rw[e];rfl
  rw[JU V];refine aa (eB ?_);have W:∀u∈(vs.map (B5 s.heap)).filterMap id,∃y n,u=.str y n:=λu X=>by
   obtain⟨x,d,e⟩:=jH.mp X;obtain⟨v,f,rfl⟩:=az.mp d;obtain⟨k,C,m⟩:=j v f;obtain⟨y,n,D⟩:=Mr C m;rw[D] at e;injection e with e;exact⟨y,n,e.symm⟩
  have F:(vs.map (B5 s.heap)).filterMap id≠[]:=by
   match vs,S,j with
   | v::_,_,j=>
    obtain⟨k,C,m⟩:=j v av;obtain⟨y,n,D⟩:=Mr C m;rw[bJ,D];simp
  rw[List.filterMap_toArray];generalize (vs.map (B5 s.heap)).filterMap id=p at *;refine aa ?_;show aq (ax prog w) A (Array.mapM typeOf p.toArray >>= _) _ E s;refine aa (Ss (λ_=>fu "str") p (λv f l I=>?_) ?_)
  ·obtain⟨y,n,rfl⟩:=W v f;exact am I
  ·have Y:((p.map λ_=>fu "str").toArray)[0]?=XE (fu "str"):=by
    cases p with
    |nil=>exact absurd rfl F
    |cons _ _=>rfl
   rw[Y];have J:((p.map λ_=>fu "str").toArray.all λx=>x==fu "str")=Y1:=by
    rw[ny,ay];intro x d;obtain⟨_,_,rfl⟩:=az.mp d;rfl
   show aq (ax prog w) A (pure (if ((p.map λ_=>fu "str").toArray.all λx=>x==fu "str")=Y1 then XE (fu "str") else YP)) _ E s;rw[J];refine am (am (q _ ?_));intro x y L l d z B;obtain⟨(G:l_),d⟩:=d;obtain⟨(H:l_),z⟩:=z;have Z:ky (Bp s.heap) x=G:=by unfold ky;rw[d];rfl
   have eb:ky (Bp s.heap) y=H:=by unfold ky;rw[z];rfl
   rw[Z,eb] at B;obtain⟨t,o,T,c,J,g1,d1,M⟩:=QI d;obtain⟨t2,o2,sX,c2,D,g2,d2,N⟩:=QI z;rw[J,D];show aq (ax prog w) A (lg (.ref t) >>= _) l L s;refine aa (jl g1 d1 (aa (jl g2 d2 (aa (Vk ?_ _ _ G H 0 M N ?_)))))
   ·intro x y i a b Q d z q;obtain⟨x,t,rfl,rfl⟩:=str_of d;obtain⟨y,u,rfl,rfl⟩:=str_of z;show aq (ax prog w) A (eqBool (.str x t) (.str y u) >>= _) Q L s;refine aa (kl ?_);by_cases e:x=y
    ·subst e;rw[JU rfl] at q;rw[decide_eq_true rfl];exact am q
    ·have ne:x.cps.toList≠y.cps.toList:=λh=>e (by
      cases x;cases y;dsimp only at h;rw[kB.mp h])
     rw[J5 ne] at q;rw[decide_eq_false e];exact aa (YY rfl rfl (am q))
   ·have O:=Mo M;have P:=Mo N;rw[aN] at O P;have R:=lexR_lt G H;rw[<- O,<- P] at R
    replace B:l (decide (G<H)) s:=B
    rw[<- R] at B;generalize lexR G H=r at *;cases r with
    |none=>exact am B
    |some r=>exact am B
end
def keyT(h:aR)(v:ae):l_:=(Bf h v).getD []
def UR(h:p∈(pairsOf vs).toList):p.1=p.2/\p.1∈vs:=by
 have e:(pairsOf vs).toList=vs.zip vs:=by simp[pairsOf]
 rw[e] at h;have a:vs.zip vs=vs.map λv=>(v,v):=by
  clear h e
  induction vs with
  |nil=>rfl
  |cons v r ih=>rw[jN,ih];rfl
 rw[a] at h;obtain⟨v,b,rfl⟩:=az.mp h;exact⟨rfl,b⟩
def zcD(vs:List ae):(pairsOf vs).toList.map (λx=>x.2)=vs:=by
 have e:(pairsOf vs).toList=vs.zip vs:=by simp[pairsOf]
 rw[e]
 induction vs with
 |nil=>rfl
 |cons v r ih=>rw[jN,bJ,ih (by simp[pairsOf])]
def z71(F:s.heap.get? a=XE (seqObj "list" vs.toArray n))(hv:∀v∈vs,∃f,TupS s.heap v f/\(2<=vs.length->f≠[]))(S:vs.length<=4000000)
  (q:∀d:Array ae,d.toList.Perm vs->d.toList.Pairwise (λx y=>¬ keyT s.heap y<keyT s.heap x)->P (Fin.done (Flow.ret cZ)) { heap:=sortedHeap s.heap a vs d,gens:=s.gens,drawn:=s.drawn,toks:=s.toks,os:=s.os }):aq (ax prog w) A (eF.«list.sort» { pos:=[c8 a] }) P E s:=by
 rw[list_sort_plain];have T:(4000000:Nat)<=J8:=by decide
 have U:=bM (bH λ_=>#[]) F rfl;have G:=ah (seqObj "list" #[] 0) (ah (seqObj "tuple" vs.toArray 0) U);have l:∀v∈vs,∃f,TupS (((s.heap.update a (bH λx=>#[])).push (seqObj "tuple" vs.toArray 0)).push (seqObj "list" #[] 0)) v f/\(2<=vs.length->f≠[])/\Bf (((s.heap.update a (bH λx=>#[])).push (seqObj "tuple" vs.toArray 0)).push (seqObj "list" #[] 0)) v=Bf s.heap v:=λv h=>by
  obtain⟨f,⟨t,o,m,c,rfl,g,K,L,M⟩,qU⟩:=hv v h;have ne:a≠t:=λe=>by
   subst e;rw[F] at g;cases g;exact absurd K 'd'
  have V:=ah (seqObj "list" #[] 0) (ah (seqObj "tuple" vs.toArray 0) ((bb s.heap (bH λ_=>#[]) ne).trans g));refine⟨f,⟨t,o,m,c,rfl,V,K,L,M⟩,qU,?_⟩;show(match Heap.get? _ t with|some o=>(match o.data with|.seq m _=>allS m.toList|_=>YP)|none=>YP)=(match s.heap.get? t with|some o=>(match o.data with|.seq m _=>allS m.toList|_=>YP)|none=>YP);rw[V,g]
 refine aa (jl F rfl (aa (iQ F rfl (aa (jE U rfl (aa (jw (aa (iS (bL ?_) 's')) (by simpa using aG S T))))) (by simpa using aG S T) (by show 0<=J8+1;lia))));show aq (ax prog w) A _ P E { heap:=((s.heap.update a (bH λx=>#[])).push (seqObj "tuple" vs.toArray 0)).push (seqObj "list" #[] 0),gens:=s.gens,drawn:=s.drawn,toks:=s.toks,os:=s.os };generalize hH:((s.heap.update a (bH λx=>#[])).push (seqObj "tuple" vs.toArray 0)).push (seqObj "list" #[] 0)=H at *;have B:∀b:cb,(J6 b).Perm (pairsOf vs)->failedOf b=YP->jM (Bp H) (J6 b) (pairsOf vs).size->(gH (λx=>x.snd) (J6 b)).toList.Perm vs/\(gH (λx=>x.snd) (J6 b)).toList.Pairwise (λx y=>¬ keyT s.heap y<keyT s.heap x):=λb r _ u=>by
  have W:=dQ.mp r;refine⟨?_,?_⟩
  ·rw[nB];have:=W.map (λx:be=>x.2);rw[zcD] at this;exact this
  ·rw[nB,eJ];intro i j X I uk;rw[aD,aN] at X I;rw[iZ,iZ];have Y:=u i j 'o' (by rw[<- r.size_eq];exact I);have Z:∀k(h:k<(J6 b).size),KK (Bp H) (J6 b) k=keyT s.heap ((J6 b).toList[k]'(by rw[aN];exact h)).2:=λk h=>by
    unfold KK;rw[dW h];have hm:(J6 b)[k]∈(pairsOf vs).toList:=W.mem_iff.mp (by rw[<- eS];exact bO _);obtain⟨h1,z⟩:=UR hm;obtain⟨f,_,_,h3⟩:=l _ z;dsimp only;show(Bf H (J6 b)[k].1).getD []=_;rw[h3,eS,<- h1];rfl
   rw[Z i X,Z j I] at Y;exact of_decide_eq_false Y
 have N:jr (Bp H) (pairsOf vs):=λp J=>by
  obtain⟨h1,z⟩:=UR J;obtain⟨f,⟨t,o,m,c,e,g,K,L,M⟩,_⟩:=l _ z;refine⟨f,?_⟩;show Bf H p.1=XE f;rw[e];show(match H.get? t with|some o=>(match o.data with|.seq m _=>allS m.toList|_=>YP)|none=>YP)=_;rw[g];dsimp only;rw[L];exact M
 have up:∀d:Array ae,H.update a (bH λ_=>d)=sortedHeap s.heap a vs d:=λd=>by rw[<- hH];rfl
 by_cases z:vs.length<2
 ·have C:vs.toArray.size<2:=by rw[aP];exact z
  show aq (ax prog w) A (if vs.toArray.size<2 then _ else _) P E _;rw[JU C];refine aa (am ?_);rw[JU C];have pz:(pairsOf vs).size=vs.length:=by simp[pairsOf]
  obtain⟨O,R⟩:=B (lU general' (pairsOf vs) #[] 7 YP) (jk _) rfl (λi j uk I=>by
   have:i=j:=by lia
   subst this;exact Bt _)
  refine aa (am ?_);have J:(gH (λx=>x.snd) (J6 (lU general' (pairsOf vs) #[] 7 YP))).size<=4000000:=by
   rw[lG];show(pairsOf vs).size<=_;lia
  refine aa (jE G rfl (aa (iQ G rfl ?_ (by show 0<=J8;lia) (by show(gH _ _).size<=J8+1;exact aG J 'o'))));show aq (ax prog w) A (if ((if _ then n else n+1) !=(if _ then n else n+1))=Y1 then _ else _) P E _;rw[J5 'd'];refine am ?_;have:=q _ O R;rw[<- up] at this;exact this
 ·have C:¬ vs.toArray.size<2:=by rw[aP];exact z
  show aq (ax prog w) A (if vs.toArray.size<2 then _ else _) P E _;rw[J5 C];refine aa (z8Y (s:={ heap:=H,gens:=s.gens,drawn:=s.drawn,toks:=s.toks,os:=s.os }) 'o' (λv h=>by obtain⟨f,k1,k2,_⟩:=l v h;exact⟨f,k1,k2 'o'⟩) λkd ho=>?_);rw[J5 C];show aq (ax prog w) A (sortRuns'.run (lU kd (vs.toArray.zip vs.toArray) #[] 7 YP) >>= _) P E _;refine aa (ci (Ug (kd:=kd) (κ:=Bp H) (Q:=λ_ b=>(J6 b).Perm (pairsOf vs)/\failedOf b=YP/\jM (Bp H) (J6 b) (pairsOf vs).size) ho (a₀:=pairsOf vs) N (jk _) rfl rfl rfl λb r D u=>⟨r,D,u⟩) ?_ λ_ _ h=>h);rintro⟨_,b⟩ s' ⟨rfl,r,D,u⟩;dsimp only at r D u;obtain⟨O,R⟩:=B b r D u;have J:(gH (λx=>x.snd) (J6 b)).size<=4000000:=by
   rw[lG,r.size_eq];show(vs.toArray.zip vs.toArray).size<=_;rw[n6,aP];lia
  refine aa (jE G rfl (aa (iQ G rfl ?_ (by show 0<=J8;lia) (by show(gH _ _).size<=J8+1;lia))));show aq (ax prog w) A (match failedOf b with|some e=>_|x=>_) P E _;rw[D];show aq (ax prog w) A (if ((if _ then n else n+1) !=(if _ then n else n+1))=Y1 then _ else _) P E _;rw[J5 'd'];refine am ?_;have:=q _ O R;rw[<- up] at this;exact this
def TupS.mono(k:∀b o,h.get? b=XE o->h'.get? b=XE o)(x:TupS h v ks):TupS h' v ks/\keyT h' v=keyT h v:=by obtain⟨t,o,a,c,rfl,g,e,f,i⟩:=x;have d:=k t o g;refine⟨⟨t,o,a,c,rfl,d,e,f,i⟩,?_⟩;show((match h'.get? t with|some o=>(match o.data with|.seq a _=>allS a.toList|_=>YP)|none=>YP):Option _).getD []=((match h.get? t with|some o=>(match o.data with|.seq a _=>allS a.toList|_=>YP)|none=>YP):Option _).getD [];rw[d,g]
def sorted_tups(u:s.heap.IsList l vs.toArray)(g:∀v∈vs,∃c,TupS s.heap v c/\(2<=vs.length->c≠[]))(i:vs.length<=4000000)
  (h:∀a:Array ae,a.toList.Perm vs->a.toList.Pairwise (λx y=>¬ keyT s.heap y<keyT s.heap x)->Q (.ref (s.heap.objs.size+1)) { heap:=sortedAll s.heap vs a,gens:=s.gens,drawn:=s.drawn,toks:=s.toks,os:=s.os }):aq (ax prog w) A (call (.builtin "sorted") [.ref l]) Q E s:=by
 have j:vs.length<=J8:=aG i 's';refine kh kind_sorted plain_sorted entry_sorted (args_sorted1 _) ?_;unfold eF.«sorted»;refine aa (m:=checkCount "sorted" 1 1 _) (am ?_);refine aa (collect_list u (aa (iS ?_ j)) j);have k:∀b o,s.heap.get? b=XE o->(((s.heap.push (seqObj "list" #[] 0)).update s.heap.objs.size (bH λx=>x++vs.toArray)).push (seqObj "list" vs.toArray 0)).get? b=XE o:=λb o e=>by
  have z:s.heap.objs.size≠b:=λq=>absurd (aK e) (by rw[<- q];exact cw _);exact ah _ ((bb _ _ z).trans (ah _ e))
 have n:(((s.heap.push (seqObj "list" #[] 0)).update s.heap.objs.size (bH λx=>x++vs.toArray)).push (seqObj "list" vs.toArray 0)).get? ((s.heap.push (seqObj "list" #[] 0)).update s.heap.objs.size (bH λx=>x++vs.toArray)).objs.size=XE (seqObj "list" vs.toArray 0):=aM _ rfl;have B:((s.heap.push (seqObj "list" #[] 0)).update s.heap.objs.size (bH λx=>x++vs.toArray)).objs.size=s.heap.objs.size+1:=by rw[gN,cJ]
 refine aa (bL (dM slot_list_sort ⟨_,n,rfl⟩ entry_list_sort (z71 n (λv d=>by
  obtain⟨c,f,p⟩:=g v d;exact⟨c,(f.mono k).1,p⟩) i λa r C=>⟨_,rfl,?_⟩) (args_list_sort _)))
 refine am ⟨_,rfl,?_⟩;have t:∀v∈a.toList,keyT (((s.heap.push (seqObj "list" #[] 0)).update s.heap.objs.size (bH λx=>x++vs.toArray)).push (seqObj "list" vs.toArray 0)) v=keyT s.heap v:=λv d=>by
  obtain⟨c,f,p⟩:=g v (r.mem_iff.mp d);exact(f.mono k).2
 have D:a.toList.Pairwise (λx y=>¬ keyT s.heap y<keyT s.heap x):=by
  refine kC ?_ C;intro x y F G H;rw[<- t x F,<- t y G];exact H
 have:=h a r D;unfold sortedAll at this;rw[<- B] at this;exact this
end TS
namespace DL
open PySem
def byT(w:aU):Bool:=w.params.followText "set-order"
def Yi(e:Int×ae):au:=match e.2 with
 |.str x _=>x
 |_=>⟨#[]⟩
def o8(P:aJ)(w:aU)(a:af)(ks:List au)(h:aR):Prop:=
 ∃o es ep t,h.get? a=XE o/\o.ExactSet/\o.data=.set es ep t/\ElemsOf (strKind P w) es.toList/\(es.toList.map Yi).Perm ks/\ks.Nodup/\es.size<scanBound/\t.fits es.size=Y1/\(byT w=Y2->t.led=Y1)/\(es.size≠0->t.plain=Y2)
section
variable{P:aJ}{w:aU}{a:af}{ks:List au}
def o8.keep(k:∀o,h.get? a=XE o->h'.get? a=XE o):o8 P w a ks h->o8 P w a ks h':=λ⟨o,b,c,t,d,r⟩=>⟨o,b,c,t,k o d,r⟩
def o8.size(x:o8 P w a ks h):∃o b c t,h.get? a=XE o/\o.data=.set b c t/\b.size=ks.length:=by obtain⟨o,b,c,t,d,g,e,i,f,_⟩:=x;exact⟨o,b,c,t,d,e,by rw[<- f.length_eq];simp⟩
end
section
end
section
abbrev PvS(os:List au):Nat->ae->Prop:=λi v=>∃tk:Tok,v=.str (os.getD i ⟨#[]⟩) tk
end
section
variable{P:aJ}{w:aU}{s:ag}{a:af}{ks:List au}
structure ItX(P:aJ)(w:aU)(a:af)(ks:List au)(s:ag)(I:af)(s1:ag):Prop where
 ex:∃(os:List au)(fp:List af)(St:Nat->aR->Prop),os.Perm ks/\I∈fp/\(∀b∈fp,b<s1.heap.objs.size)/\(∀b∈fp,b=a\/s.heap.objs.size<=b)/\(∀B:aX,B.handled=YP->Walks P w B I fp [I] os.length (PvS os) St)/\St 0 s1.heap
 keep:∀b o,s.heap.get? b=XE o->s1.heap.get? b=XE o
 ty:∃ob,s1.heap.get? I=XE ob/\ob.cls=.type "set_iterator"
 new:s.heap.objs.size<=I
 gens:s1.gens=s.gens
 os:s1.os=s.os
end
end DL
namespace DL
open PySem PyProof.Rows
section
end
end DL
namespace DL
open PySem L2 PyProof.Rows
def vO(x:n_):l_->l_
 |[]=>[x]
 |y::r=>if x<y then x::y::r else if x=y then y::r else y::vO x r
def rA(ss:l_):l_:=ss.foldl (λl x=>vO x l) []
theorem pd:∀{l:l_},y∈vO x l↔y=x\/y∈l
 |[]=>by simp[vO]
 | z::r=>by
  unfold vO;split
  ·simp
  ·split
   ·rename_i h;subst h;simp
   ·rw[ar,pd,ar];exact⟨λh=>by rcases h with h|h|h<;>simp[h],λh=>by rcases h with h|h|h<;>simp[h]⟩
theorem UC:∀{l:l_},l.Pairwise (· < ·)->(vO x l).Pairwise (· < ·)
 |[],_=>by simp[vO]
 | z::r,h=>by
  obtain⟨b,c⟩:=bK.mp h;unfold vO;split
  ·rename_i a;exact bK.mpr ⟨λy hy=>by
    rcases ar.mp hy with rfl|hy
    ·exact a
    ·exact iU a (b y hy),h⟩
  ·rename_i a;split
   ·exact h
   ·rename_i d;refine bK.mpr ⟨λy hy=>?_,UC c⟩;rcases pd.mp hy with rfl|hy
    ·exact cH λq=>d (kA (iG.mp q) (iG.mp a))
    ·exact b y hy
def Br(a:l_):y∈rA a↔y∈a:=by
 have:∀(a l:l_),y∈a.foldl (λl x=>vO x l) l↔y∈l\/y∈a:=by
  intro a
  induction a with
  |nil=>intro l;simp
  |cons x a ih=>intro l;rw[fE,ih,pd,ar];exact⟨λh=>by rcases h with(h|h)|h<;>simp[h],λh=>by rcases h with h|h|h<;>simp[h]⟩
 rw[rA,this];simp
def Fw(a:l_):(rA a).Pairwise (· < ·):=by
 have:∀(a l:l_),l.Pairwise (· < ·)->(a.foldl (λl x=>vO x l) l).Pairwise (· < ·):=by
  intro a
  induction a with
  |nil=>intro l h;exact h
  |cons x a ih=>intro l h;exact ih _ (UC h)
 exact this a [] eU
theorem Fz:∀{l m:l_},l.Pairwise (· < ·)->m.Pairwise (· < ·)->(∀x,x∈l↔x∈m)->l=m
 |[],[],_,_,_=>rfl
 |[],y::m,_,_,h=>absurd ((h y).mpr av) 'd'
 |x::l,[],_,_,h=>absurd ((h x).mp av) 'd'
 | x::l,y::m,hl,hm,h=>by
  obtain⟨c,f⟩:=bK.mp hl;obtain⟨d,g⟩:=bK.mp hm;have b:x=y:=by
   rcases ar.mp ((h x).mp av) with e|e
   ·exact e
   ·rcases ar.mp ((h y).mpr av) with e'|e'
    ·exact e'.symm
    ·exact absurd (iU (d x e) (c y e')) (fq _)
  subst b;rw[Fz f g λz=>⟨λa=>by
    rcases ar.mp ((h z).mp (al _ a)) with e|e
    ·subst e;exact absurd (c z a) (fq _)
    ·exact e,λa=>by
    rcases ar.mp ((h z).mpr (al _ a)) with e|e
    ·subst e;exact absurd (d z a) (fq _)
    ·exact e⟩]
abbrev toS(cs:n_):au:=⟨cs.toArray⟩
theorem Vd:∀(p:au)(l:List au),risingS p l=Y1->(p::l).Nodup->((p::l).map (·.cps.toList)).Pairwise (· < ·)
 |p,[],_,_=>by simp
 | p,x::r,h,nd=>by
  unfold risingS at h;rw[br,ef,ltCps_eq,decide_eq_false_iff_not] at h;obtain⟨c,d⟩:=bA.mp nd;have a:=Vd x r h.2 d;have b:=cH λq=>c (by
   have:=kA (iG.mp h.1) (iG.mp q);have e:p=x:=by
    obtain⟨f⟩:=p;obtain⟨g⟩:=x;rw[show f=g from kB.mp this]
   rw[e];exact av)
  refine bK.mpr ⟨λy hy=>?_,a⟩;rcases ar.mp hy with rfl|hy
  ·exact b
  ·exact iU b ((bK.mp a).1 y hy)
def o8.nd(x:o8 P w a ks h):ks.Nodup:=by obtain⟨_,_,_,_,_,_,_,_,_,b,_⟩:=x;exact b
section
variable{t:DA}
theorem Vc:∀{vs:List ae}{a:List au},lL vs a->oE (a.map V.str) vs
 |_,_,.nil=>.nil
 |_,_,.cons y t h=>.cons ⟨t,rfl⟩ (Vc h)
end
section
theorem Ve{K:aj}{H:Hp}{Xa μ:List af}:∀a:l_,oC K H Xa μ (a.map D.str) (a.map λcs=>V.str (toS cs))
 |[]=>.nil
 |cs::r=>.cons L3 (Ve r)
def Pr(o:Bool)(r:R (List D)):R D:=r.bnd λXu O1=>match vf Xu with
 |some ss=>if ss.length<1000 then (if o=Y1 then .ok (.own O1.length) (O1++[(rA ss).map .str]) else .ok (.lst ((rA ss).map .str)) O1) else .bad
 |none=>.bad
theorem strL_map:∀a:l_,vf (a.map D.str)=XE a
 |[]=>rfl
 |cs::r=>by show(vf (r.map D.str)).map _=_;rw[strL_map r];rfl
end
section
variable{t:DA}
def P7(o:Bool)(t:DA):DE:=λσ O=>(t σ O).bnd λxs O1=>match xs with
 | [x]=>match (match r_ O1 x with|some ds=>XE ds|none=>BC x) with
  |some ds=>Pr o (.ok ds O1)
  |none=>.bad
 |_=>.bad
end
end DL
namespace DL
open PySem L2
structure Nx(l:List au):Prop
section
variable{X:Cx}{Ex:Nat->Hp->Prop}{elt tg iter:aS}{ifs:List aS}{gs:List bN}{scope:cf}{pos tL py:Pos}{x y:au}{i k:Nat}{ext:List au}{it0:DI}{g:Tg}{ts:List DT}{cs:List Cl}{te:DE}
abbrev HR(X:Cx)(ext:List au)(scope:cf)(tg:aS)(g:Tg)(ifs:List aS)(ts:List DT)(gs:List bN)(cs:List Cl)(elt:aS)(te:DE):Prop:=∀cells C s H fp,PG (qR X (X.N++ext) scope cells C s H fp) tg (g.rd X.K)/\cu (λe t=>rF (qR X (X.N++ext) scope cells C s H fp) qD e t) ifs ts/\oU (qR X (X.N++ext) scope cells C s H fp) gs cs/\PD (qR X (X.N++ext) scope cells C s H fp) qD elt te
def zfV(_:Nx ext)(o:Bool)(a:X.calm=Y1)(b:yu X.env.scope scope (X.N++ext) (qz (⟨it0,g,ts⟩::cs)))(c:tu X Ex tg iter it0)(d:HR X ext scope tg g ifs ts gs cs elt te)(e:ext.length=k:=by rfl)(f:∀x,cg iter X.env x=pure x:=by intro _;rfl):
  PD X Ex (.ListComp elt (⟨tg,iter,ifs,0⟩::gs) scope pos) (qE o k it0 g ts cs te):=e▸zjr o ext a c b d f
def z7B(_:Nx ext)(o:Bool)(a:X.calm=Y1)(b:X.N.Nodup)(c:X.N[i]?=XE y)(d:X.env.scope.names.lookup y=XE .local)(e:yu X.env.scope scope (X.N++ext) (qz (⟨it0,g,ts⟩::cs)))(f:tu X Ex tg iter it0)(h:HR X ext scope tg g ifs ts gs cs elt te)
  (j:swapsWith (.ListComp elt (⟨tg,iter,ifs,0⟩::gs) scope pos) (XE (.Name y py)) tL.line X.env=pure Y1) (l:ext.length=k:=by rfl) (m:∀x,cg iter X.env x=pure x:=by intro _;rfl):
  uA X Ex (.Assign [.Name y py] (.ListComp elt (⟨tg,iter,ifs,0⟩::gs) scope pos) tL) (p_ i (qE o k it0 g ts cs te)):=l▸z8L o ext a b c d f e h j m
end
noncomputable def xp(c:DT)(b:DS):Nat->Sg->Ow->RS
 |0,_,_=>.bad
 | f+1,σ,O=>(c σ O).bnS λk O1=>if k=Y1 then (match b σ O1 with
   |.nx σ' O'=>xp c b f σ' O'
   |.ct σ' O'=>xp c b f σ' O'
   |.bk σ' O'=>.nx σ' O'
   |r=>r) else .nx σ O1
def Ls(f:Nat)(c:DT)(b:DS):DS:=xp c b f
section
variable{X:Cx}{Ex:Nat->Hp->Prop}{pos:Pos}
def zcA(f:Nat)(y:jG (ax X.prog X.w) X.A X.env X.xe)(B:rF X Ex c tc)(C:r8 X Ex body tb):uA X Ex (.While c body [] pos) (Ls f tc tb):=
 yK (zfy y B.out C.out) λa g b O E h H j l q=>by
  refine⟨λm h H=>∃a g b O,oD X.K H a g b h/\oB X.K H a g O/\oG Ex X.K H a g (xp tc tb m b O) E,⟨f,a,g,b,O,j,l,q⟩,?_⟩;rintro m h H ⟨a,g,b,O,j,l,q⟩;cases m with
  |zero=>exact ai q
  | succ f=>
   refine xV.goS j l q λk n t o u G v p=>?_;cases k with
   |false=>exact p h t o .refl u v
   | true=>
    rw[JU rfl];refine⟨λh H=>∃a g b O,oD X.K H a g b h/\oB X.K H a g O/\oG Ex X.K H a g (xp tc tb f b O) E,λ_ _ z=>⟨f,fi _,z⟩,a,o,b,n,u,v,?_⟩;have p:oG Ex X.K t a o (match tb b n with|.nx σ' O'=>xp tc tb f σ' O'|.ct σ' O'=>xp tc tb f σ' O'|.bk σ' O'=>.nx σ' O'|r=>r) E:=p;cases i:tb b n with
    |nx σ' O'=>rw[i] at p;exact λD F s x e c=>⟨a,s,σ',O',e,c,oG.ext p x⟩
    |ct σ' O'=>rw[i] at p;exact λD F s x e c=>⟨a,s,σ',O',e,c,oG.ext p x⟩
    |bk σ' O'=>rw[i] at p;exact p
    |rt d O'=>rw[i] at p;exact p
    |exc c' O'=>rw[i] at p;exact p
    |bad=>rw[i] at p;exact p
end
end DL
namespace DL
open PySem L2 PyProof.Rows
abbrev DK:=Sum Int n_
noncomputable def xI:D->Option DK
 |.int i=>XE (.inl i)
 |.str cs=>XE (.inr cs)
 |_=>YP
def DH(k:DK):D->Bool
 |.map [j] _=>decide (j=k)
 |_=>Y2
def ED:List D->List DK
 |.map [k] _::r=>k::ED r
 |_=>[]
def EE:List D->List D
 |.map _ [d]::r=>d::EE r
 |_=>[]
def tT(p:DK×D):D:=.map [p.1] [p.2]
theorem LG:∀a:List (DK×D),ED (a.map tT)=a.map (·.1)
 |[]=>rfl
 |p::r=>by show p.1::ED (r.map tT)=_;rw[LG r];rfl
theorem LP:∀a:List (DK×D),EE (a.map tT)=a.map (·.2)
 |[]=>rfl
 |p::r=>by show p.2::EE (r.map tT)=_;rw[LP r];rfl
def Iz:∀{a b:DK},kD a=kD b->a=b
 |.inl i,.inl j,h=>by cases h;rfl
 | .inr x,.inr y,h=>by
  have h:=jB h;have:x=y:=⇑h
  rw[this]
 |.inl _,.inr _,h=>by cases h
 |.inr _,.inl _,h=>by cases h
def Dp(tk tv:DE):Em:=λσ O Xu=>(tk σ O).bnd λx O1=>match xI x with
 |some k=>(tv σ O1).bnd λd O2=>if Xu.length<1000/\Xu.any (DH k)=Y2 then .ok (Xu++[.map [k] [d]]) O2 else .bad
 |none=>.bad
def D2(ke ve:aS):xm where
 ex:=λgens scope pos=>.DictComp ke ve gens scope pos
 emit:=λXu env=>do
  let kv <- eval ke env;let vv <- holding [kv] (eval ve env)
  match Xu with
  | .ref d=>do
   standAt { ke.pos with endLine:=ve.pos.endLine,endCol:=ve.pos.endCol }
   holding [kv,vv] (dictSet d kv vv)
  |_=>unsupported "internal:dictcomp"
 new:=newDict
 ho:=λ_ _ _=>.dK []
 G:=λK _ _ A Xa H μ Xu=>∃(ps:List (DK×D))(vs:List V),Xu=ps.map tT/\H A=XE (.dK ((ps.map λp=>kD p.1).zip vs))/\ps.length=vs.length/\oC K H (A::Xa) μ (ps.map (·.2)) vs
def zfg(j l:aS):B6 (D2 j l) where
 cl:=λ_ _ _=>rfl
 turn:=λc b f k o g i z m p n d=>by
  show compTurn (.DictComp j l c b f) k o g i=_;unfold compTurn B1;rcases d with d|⟨A,B,C,d⟩
  ·simp only[n,d];rfl
  ·simp only[n,d,bne_self_eq_false,bZ,if_false,bind_assoc,pure_bind]
   first|rfl|congr 1
 keep:=λ⟨q,r,e,s,t,u⟩ v x=>⟨q,r,e,x.keep _ _ s v,t,u.ext x⟩
 new:=λh=>cx (h _ rfl λH h a w e=>by
  refine⟨bX _,beq_eq_false_iff_ne.mpr (bw (bq w)),[],.nil,?_⟩;exact⟨_,#[],0,e,⟨rfl,rfl,rfl⟩,rfl,λ_ y=>by simp at y,Pairs.nil,ix⟩)
 g0:=⟨[],[],rfl,rG,rfl,.nil⟩
 q1:=λ_ _ _ _ _ _ _=>rfl
 u1:=λ_ _ _ _ _ _ _ _=>rfl
 d1:=λ_ _ _ _ _ _ _ _ _=>rfl
 u2:=λ_ _ _ _ _ _ _ _=>rfl
 d2:=λ_ _ _ _ _ _ _ _ _=>rfl
def Am(f:H A=XE (.dK i_)):∀P2,oQ H P2->oQ (upd H A o) P2:=by
 rintro P2 ⟨g,a,h,i⟩;have j:P2≠A:=by rintro rfl;rw[f] at a;cases a
 refine⟨g,by rw[pX j];exact a,h,λb k e=>?_⟩;obtain⟨c,l,rfl,d,m⟩:=i b k e;have n:c≠A:=by rintro rfl;rw[f] at d;cases d
 exact⟨c,l,rfl,by rw[pX n];exact d,m⟩
theorem Tv:∀(ps:List (DK×D))(vs:List V),(ps.map tT).any (DH k)=Y2->ue ((ps.map λp=>kD p.1).zip vs) (kD k)=YP
 |[],_,_=>rfl
 |_::_,[],_=>rfl
 | p::r,v::vs,h=>by
  rw[bJ,fZ,jm] at h;obtain⟨a,b⟩:=h;have n:¬ p.1=k:=λe=>by
   have:decide (p.1=k)=Y2:=a;rw[decide_eq_true e] at this;cases this
  show ue ((kD p.1,v)::(r.map λp=>kD p.1).zip vs) (kD k)=YP;rw[Ef (λe=>n (Iz e))];exact Tv r vs b
def Lf{K:aj}{H:Hp}{Xa μ:List af}{x:D}{k:DK}{v:V}(e:xI x=XE k)(h:Xe K H Xa μ x v):v=kV (kD k):=by
 cases x with
 |int i=>cases e;unfold Xe at h;exact h
 |str cs=>cases e;unfold Xe at h;exact h
 |_=>cases e
section
variable{X:Cx}{A:af}{Xa:List af}{ke ve:aS}{gens:List bN}{tk tv:DE}
def zcO{Z:L2.St->Hp->List af->Prop}{k:Nat}{e:aS}(V:X.xe=λ_ _=>False)(L:PD X qD ke tk)(M:PD X qD ve tv)(hk:gens[k]?=YP):Av X Z (D2 ke ve) A Xa e gens (Dp tk tv) k []:=by
 intro a s i H j l O Xu Q E _ B q;unfold B1;rw[hk];show aq _ _ (do
  let kv <- eval ke X.env;let vv <- holding [kv] (eval ve X.env)
  (do
   standAt { ke.pos with endLine:=ve.pos.endLine,endCol:=ve.pos.endCol }
   holding [kv,vv] (dictSet A kv vv))) _ _ s
 obtain⟨b,C,rfl,hA,N,dA⟩:=B.grown;unfold vh Dp at q;cases D:tk l O with
 |exc c O1=>rw[D] at q;exact q.elim
 |bad=>rw[D] at q;exact q.elim
 | ok x O1=>
  rw[D] at q;have f:zF X (D2 ke ve) A Xa a i H j (qz []) (match xI x with
   |some k=>(tv l O1).bnd λd n=>if (b.map tT).length<1000/\(b.map tT).any (DH k)=Y2 then .ok (b.map tT++[.map [k] [d]]) n else .bad
   |none=>.bad) Q:=q
  cases P:xI x with
  |none=>rw[P] at f;exact f.elim
  | some kk=>
   rw[P] at f;refine aa (Bw V (L.out a s i H (λv g=>∃h,Ext H j g h/\oB X.K g (A::Xa) h O1/\Xe X.K g (A::Xa) h x v) B.inv ⟨A::Xa,j,l,O,B.env,B.cells,by rw[D];exact λv H' R x c r=>⟨R,x,c,r⟩⟩)
    λu s1 ⟨v,g,I1,ru,h,W,c1,r1⟩=>?_)
   cases F:tv l O1 with
   |exc c n=>rw[F] at f;exact f.elim
   |bad=>rw[F] at f;exact f.elim
   | ok d n=>
    rw[F] at f;have G:zF X (D2 ke ve) A Xa a i H j (qz []) (if (b.map tT).length<1000/\(b.map tT).any (DH kk)=Y2 then .ok (b.map tT++[.map [kk] [d]]) n else .bad) Q:=f;by_cases I:(b.map tT).length<1000/\(b.map tT).any (DH kk)=Y2
    ·rw[JU I] at G;refine aa (bL (Bw V (M.out a s1 i g (λv J=>∃o,Ext g h J o/\oB X.K J (A::Xa) o n/\Xe X.K J (A::Xa) o d v) I1 ⟨A::Xa,h,l,O1,B.env.ext W,c1,by rw[F];exact λv H' R x c r=>⟨R,x,c,r⟩⟩)
      λu2 s2 ⟨Y,J,I2,Ni,o,x2,c2,r2⟩=>?_))
     refine aa (eZ (bL ?_));have nA:A∉j:=λm=>B.cells.nh A m 'd';have S:=W.trans x2;have t:=S.keep A _ hA nA;have T:=dA.ext S;have ek:=Lf P r1;subst ek;obtain⟨z,hd,ws,w,dd⟩:=HU I2.hok t;have y:((b.map λp=>kD p.1).zip C).length=b.length:=by rw[ic,aD,<- N,Nat.min_self]
     have U:b.length<1000:=by have:=I.1;rwa [aD] at this
     have hz:ws.length<=J8:=by rw[<- w.length];exact z
     refine wpAny_dictSet_pairs (DZ ru) dd λh' zY sb=>?_;have he:∃q,h'.get? A=XE q:=let ⟨q,_,_,hq,_⟩:=zY;⟨q,hq⟩;have xZ:(yD ((b.map λp=>kD p.1).zip C) (kD kk) Y).length<=J8:=aG (VO _ _ _) (by rw[y];exact aG U 's');have I3:=LM (t':=s2.toks+1) I2 (by rw[t];exact eQ) sb he (Im xZ hd (w.put _ Ni) zY);rw[zg2 _ (Tv b C I.2)] at I3;refine G _ i _ o I3 (S.ea.trans (.putX (Am t))) (c2.putX (Am t)) ⟨b++[(kk,d)],C++[Y],by rw[bQ];rfl,?_,by simp[N],?_⟩ rfl λ_ _=>rfl
     ·rw[rG,bQ,List.zip_append (by rw[aD];exact N)];rfl
     ·rw[bQ];exact(T.append (.cons r2 .nil)).mv (Ea.putX (Am t)).mv
    ·rw[J5 I] at G;exact G.elim
end
def Inv.swapK(I:L2.Inv X Xd σ H s)(e:H a=XE u0)(h:(∃i,u0=.dK i) \/ ∃o i,u0=.frz o (.dK i))(r:∀o u,X.H₀ a≠XE (.frz o u))(j:oR X.prog X.w (upd H a u1) s.heap a u1):L2.Inv X Xd σ (upd H a u1) s:=by
 have k:∀{b:af}{d:List V},H b=XE (.tup d)->b≠a:=λ{b d}z q=>by
  rw[q,e] at z;rcases h with⟨_,rfl⟩|⟨_,_,rfl⟩<;>cases z
 have f:∀{b:af},H b=YP->upd H a u1 b=YP:=λ{b}z=>by rw[pX (bw (sk e z))];exact z
 refine⟨I.ok,I.os,I.bare,⟨I.base.keep,I.base.slot,λb o g n t=>f (I.base.free b o g n t),I.base.there,λb d g=>?_,λb o u g=>?_,λb v g=>?_⟩,I.loc,I.cell,f I.free,λx c g=>f (I.freeC x c g),λp y=>let ⟨g1,g2,g3⟩:=I.pin p y;⟨g1,f g2,g3⟩,λb u g=>?_,I.len,I.tk⟩
 ·have z:=I.base.tups b d g;rw[pX (k z)];exact z
 ·have n:b≠a:=λq=>r o u (q▸g);rw[pX n];exact I.base.frzs b o u g
 ·obtain⟨m,z⟩:=I.base.tbls b v g;refine⟨m,?_⟩;rw[pX (λq=>?_)];exact z;rw[q,e] at z;rcases h with⟨_,rfl⟩|⟨_,_,rfl⟩<;>cases z
 ·by_cases l:b=a
  ·subst l;rw[rG] at g;cases g;exact j
  ·rw[pX l] at g;refine(I.hok b u g).stay (λ_ _ _ z=>z) (λA z=>?_) λA d z=>?_
   ·rw[pX (λq=>?_)];exact z;rw[q,e] at z;rcases h with⟨_,rfl⟩|⟨_,_,rfl⟩<;>cases z
   ·rw[pX (k z)];exact z
def Inv.nofrz(I:L2.Inv X Xd σ H s)(e:H a=XE (.dK i_)):∀o u,X.H₀ a≠XE (.frz o u):=λo u z=>by
 have:=I.base.frzs a o u z;rw[e] at this;cases this
def Inv.frzK(I:L2.Inv X Xd σ H s)(e:H a=XE (.dK i_)):∃o,L2.Inv X Xd σ (upd H a (.frz o (.dK i_))) s:=by obtain⟨z,d,f,b,c⟩:=HU I.hok e;obtain⟨o,h,i,g,r⟩:=id c;exact⟨o,Inv.swapK I e (.inl ⟨_,rfl⟩) (Inv.nofrz I e) ⟨g,z,d,f,b,c⟩⟩
def Inv.thawK(I:L2.Inv X Xd σ H s)(e:H a=XE (.frz o (.dK i_)))(c:∀o u,X.H₀ a≠XE (.frz o u)):L2.Inv X Xd σ (upd H a (.dK i_)) s:=by obtain⟨z,d,f,b,g⟩:=DQ I.hok (.inr ⟨o,e⟩);exact Inv.swapK I e (.inr ⟨_,_,rfl⟩) c ⟨z,d,f,b,g⟩
def z8l{K:aj}{H:Hp}{Xa μ:List af}{O:Ow}{L:af}{a:List (DK×D)}{vs:List V}{o:Obj}(c:oB K H (L::Xa) μ O)(b:L∉Xa)(h:H L=XE (.frz o (.dK ((a.map λp=>kD p.1).zip vs))))(d:a.length=vs.length)(q:oC K H (L::Xa) μ (a.map (·.2)) vs):
  Xe K H Xa μ (.map (ED (a.map tT)) (EE (a.map tT))) (.ref L):=by rw[LG,LP];exact⟨L,vs,rfl,⟨o,by rw[bB];exact h⟩,b,λm=>c.nh L m 'd',by rw[aD];exact d,q.mv .unhide⟩
def B7(ext:Nat)(it0:DI)(g:Tg)(ts:List DT)(cs:List Cl)(tk tv:DE):DE:=λσ O=>(Cf ext it0 g ts cs (Dp tk tv) σ O).bnd λXu O1=>.ok (.map (ED Xu) (EE Xu)) O1
section
variable{X:Cx}{Ex:Nat->Hp->Prop}
def X3{h i d a:aS}{b:List aS}{f:List bN}{scope:cf}{pos:Pos}{ext:List au}{g:Tg}{ts:List DT}{cs:List Cl}{tk tv:DE}
  (j:∀cells C s H c,PG (qR X (X.N++ext) scope cells C s H c) d (g.rd X.K)/\cu (λe t=>rF (qR X (X.N++ext) scope cells C s H c) qD e t) b ts/\oU (qR X (X.N++ext) scope cells C s H c) f cs/\PD (qR X (X.N++ext) scope cells C s H c) qD h tk/\PD (qR X (X.N++ext) scope cells C s H c) qD i tv) {Z:af->Hp->L2.St->Hp->List af->Prop} (cells Cn s H c):
  PG (qR X (X.N++ext) scope cells Cn s H c) d (g.rd X.K)/\cu (λe t=>rF (qR X (X.N++ext) scope cells Cn s H c) qD e t) b ts/\oU (qR X (X.N++ext) scope cells Cn s H c) f cs/\∀A Xa k,(⟨d,a,b,0⟩::f:List bN)[k]?=YP->Av (qR X (X.N++ext) scope cells Cn s H c) (Z A H) (D2 h i) A Xa ((D2 h i).ex (⟨d,a,b,0⟩::f) scope pos) (⟨d,a,b,0⟩::f) (Dp tk tv) k []:=
 let ⟨h1,h2,h3,h4,h5⟩:=j cells Cn s H c
 ⟨h1,h2,h3,λ_ _ _ l=>zcO rfl h4 h5 l⟩
def zeP(ext:List au)(B:X.calm=Y1)(D:tu X Ex tg iter it0)(E:yu X.env.scope scope (X.N++ext) (qz (⟨it0,g,ts⟩::cs)))
  (F:∀cells C s H a,PG (qR X (X.N++ext) scope cells C s H a) tg (g.rd X.K)/\cu (λe t=>rF (qR X (X.N++ext) scope cells C s H a) qD e t) ifs ts/\oU (qR X (X.N++ext) scope cells C s H a) gs cs/\PD (qR X (X.N++ext) scope cells C s H a) qD ke tk/\PD (qR X (X.N++ext) scope cells C s H a) qD ve tv)
  (G:∀x,cg iter X.env x=pure x:=by intro _;rfl):PD X Ex (.DictComp ke ve (⟨tg,iter,ifs,0⟩::gs) scope pos) (B7 ext.length it0 g ts cs tk tv):=by
 refine⟨?_⟩;rintro j s b_ H Q I ⟨f,μ,M,O,P,k,q⟩;show aq _ _ (comprehension (.DictComp ke ve (⟨tg,iter,ifs,0⟩::gs) scope pos) scope X.env _ newDict Y2 (eval iter X.env)) _ _ s;unfold B7 at q;refine Jh (zfg ke ve) (use:=YP) B D E (λcells R s H a _ _ _=>X3 F cells R s H a) G I P k ?_;cases h:Cf ext.length it0 g ts cs (Dp tk tv) M O with
 |bad=>rw[h] at q;exact q
 |exc c' O'=>rw[h] at q;exact q
 | ok Xu O'=>
  rw[h] at q;rintro L l r v x c ⟨w,y,rfl,i,S,T⟩ s' C U V W Y Z ce pn;obtain⟨m,hn⟩:=V;have n1:L∉f:=λm=>k.ht L m v;refine⟨m,hn,λh' CS=>?_⟩;obtain⟨o,J⟩:=Inv.frzK (Inv.bare U CS W Y Z ce pn) i;have z:Ea L l r (upd l L (.frz o (.dK ((w.map λp=>kD p.1).zip y)))) r:=.putX (Am i);have A:=c.putX (o:=.frz o (.dK ((w.map λp=>kD p.1).zip y))) (Am i);have d:=x.ea.trans z;exact⟨.ref L,_,J,rfl,post.ok q ⟨d.pre,λb u g n ht=>d.kept b u g n (sk g v) ht,d.fresh,d.there,d.tab⟩ A.unhide (z8l A n1 rG S (T.mv z.mv))⟩
end
def zic{b:l_}{a:List au}(d:a.Perm (b.map toS))(f:b.Nodup)(g:sortedS a=Y1):a=(rA b).map toS:=by
 have i:(b.map toS).Nodup:=by
  rw[List.nodup_iff_pairwise_ne] at f ⊢;rw[gw];refine f.imp λh e=>h ?_;have e:(toS _).cps=(toS _).cps:=congrArg Str.cps e;simpa using e
 have j:(a.map (·.cps.toList)).Pairwise (· < ·):=by
  cases a with
  |nil=>exact eU
  |cons p l=>exact Vd p l g (d.nodup_iff.mpr i)
 have k:a.map (·.cps.toList)=rA b:=Fz j (Fw b) λx=>by
  rw[Br,az];constructor
  ·rintro⟨o,m,rfl⟩;obtain⟨r,n,rfl⟩:=az.mp (d.mem_iff.mp m);exact n
  ·intro q;exact⟨toS x,d.mem_iff.mpr (az.mpr ⟨x,q,rfl⟩),rfl⟩
 rw[<- k,bB];refine(List.map_id a).symm.trans (jq λo _=>?_);obtain⟨c⟩:=o;rfl
def xJ(k:DK):List DK->List D->Option D
 |j::ks,d::ds=>if j=k then XE d else xJ k ks ds
 |_,_=>YP
theorem Uc{K:aj}{H:Hp}{Xa μ:List af}{k:DK}{d:D}:∀{a:List DK}{ds:List D}{vs:List V},a.length=vs.length->oC K H Xa μ ds vs->xJ k a ds=XE d->∃v,ue ((a.map kD).zip vs) (kD k)=XE v/\Xe K H Xa μ d v
 |[],_,_,_,_,h=>by unfold xJ at h;cases h
 |_::_,[],_,_,_,h=>by unfold xJ at h;cases h
 |j::a,d'::ds,[],hl,_,_=>by cases hl
 | j::a,d'::ds,v::vs,hl,dd,h=>by
  obtain⟨g,i,b,c,f⟩:=(show ∃w r,v::vs=w::r/\Xe K H Xa μ d' w/\oC K H Xa μ ds r from dd);cases b;unfold xJ at h;show ∃w,ue ((kD j,v)::(a.map kD).zip vs) (kD k)=XE w/\_;by_cases e:j=k
  ·rw[JU e] at h;cases h;exact⟨v,FA (p:=(kD j,v)) (congrArg kD e),c⟩
  ·rw[J5 e] at h;rw[Ef (p:=(kD j,v)) (λz=>e (Iz z))];exact Uc (mE hl) f h
def DY(td ty:DE):DE:=λσ O=>(td σ O).bnd λx O1=>match x with
 | .map ks ds=>(ty σ O1).bnd λy O2=>match xI y with
  | some k=>match xJ k ks ds with
   |some d=>.ok d O2
   |none=>.bad
  |none=>.bad
 |_=>.bad
section
variable{X:Cx}{Ex:Nat->Hp->Prop}{o i:aS}{pos:Pos}{td ty:DE}
def zfa{o i:aS}{pos:Pos}{td ty:TE}(n:PE X o td)(p:PE X i ty)(q:Dx i):PE X (.Subscript o i pos) (λσ H Q=>td σ H λx d=>ty σ d λy c=>∃a f k v,x=.ref a/\Rd c a (.dK f)/\y=kV k/\ue f k=XE v/\Q v c):=by intro b s σ H Q I h;refine LK (T := "dict") hV.lookup q (pS (n b s σ H _ I h) λu r ⟨x,d,t,w,A⟩=>pS (p b r σ d _ t A) λK L ⟨y,c,j,B,a,f,k,v,C,e,D,l,E⟩=>?_);subst C D;obtain rfl:u=c8 a:=w;obtain⟨z,M,F,g,m⟩:=DQ j.hok e;obtain⟨N,G,J⟩:=oZ.some_of (v:=v) (o:=valueAt F k) (by rw[<- l];exact g.val k);exact⟨m.mapOf.typeIs,ko (DZ B) m.mapOf G ⟨v,c,j.tok _,J,E⟩⟩
def ziF(g:PD X Ex o td)(h:PD X Ex i ty)(j:Dx i):PD X Ex (.Subscript o i pos) (DY td ty):=
 rS (zfa g.out h.out j) λl G I O J H Q m n q=>rd.go m n q λd K v L M s x t r p=>by
  cases d with
  | map ks ds=>
   refine rd.go s t p λy N w P R S u z A b=>?_;have f:=Xe.ext u r;unfold Xe at f;obtain⟨a,T,rfl,B,U,V,C,D⟩:=f;cases c:xI y with
   |none=>rw[c] at b;exact b.elim
   | some k=>
    rw[c] at b;dsimp only at b;cases e:xJ k ks ds with
    |none=>rw[e] at b;exact b.elim
    | some d=>
     rw[e] at b;obtain⟨v,E,F⟩:=Uc C D e;exact⟨a,_,kD k,v,rfl,.inr B,Lf c A,E,post.here b z F⟩
  |_=>exact ai p
end
section
variable{X:Cx}{Ex:Nat->Hp->Prop}
def zkO:bo "sum" = XE (.builtin "sum"):=by boot_by_name
def zcs(f:X.calm=Y1):oO X (.builtin "sum") (λxs H Q=>∃(p:af)(ns:List Int),xs=[.ref p]/\qY X.K H p (ns.map V.int)/\Q (.int ns.sum) H):=by
 intro b s t H xs v Q I r h;obtain⟨p,ns,rfl,g,q⟩:=h;obtain⟨u,rfl,i⟩:=vC r;cases i;obtain⟨w,j,k,x⟩:=I.list g;have c:=VF j;obtain⟨a,d⟩:=c.allInts.items;have l:ns=a.toList.map (·.1):=by rw[<- c.numsOf,<- ml,<- d]
 have e:=k.isList;rw[d] at e;refine wT I (sum_intListG (I.ok.hd f) e λy m t' n z=>?_);have o:preSum (numAt a) a.size=ns.sum:=by
  rw[preSum_eq,dg 'd',l]
 rw[o];exact⟨.int _,H,I.kept (t':=m) n,⟨_,rfl⟩,q⟩
def Ba:Ow->List D->R D:=λO xs=>match xs with
 | [x]=>match r_ O x with
  | some ds=>match yg ds with
   |some ns=>.ok (.int ns.sum) O
   |none=>.bad
  |none=>.bad
 |_=>.bad
def ZV:vg X Ex (λxs H Q=>∃(p:af)(ns:List Int),xs=[.ref p]/\qY X.K H p (ns.map V.int)/\Q (.int ns.sum) H) Ba:=by
 intro H a i O xs j Q c d q;unfold Ba at q;split at q
 ·rename_i x;obtain⟨v,rfl,b⟩:=uE d;split at q
  ·rename_i k e;obtain⟨p,l,rfl,f,g⟩:=xq c b e;split at q
   ·rename_i ns h;refine⟨p,ns,rfl,?_,post.here q c sV⟩;rw[<- LW g h];exact f
   ·exact ai q
  ·exact ai q
 ·exact ai q
end
section
variable{X:Cx}{Ex:Nat->Hp->Prop}
def zcH(_:Nx ext)(b:X.calm=Y1)(c:yu X.env.scope scope (X.N++ext) (qz (⟨it0,g,ts⟩::cs)))(d:tu X Ex tg iter it0)
  (f:∀cells C s H a,PG (qR X (X.N++ext) scope cells C s H a) tg (g.rd X.K)/\cu (λe t=>rF (qR X (X.N++ext) scope cells C s H a) qD e t) ifs ts/\oU (qR X (X.N++ext) scope cells C s H a) gs cs/\PD (qR X (X.N++ext) scope cells C s H a) qD ke tk/\PD (qR X (X.N++ext) scope cells C s H a) qD ve tv)
  (h:ext.length=k:=by rfl) (i:∀x,cg iter X.env x=pure x:=by intro _;rfl):PD X Ex (.DictComp ke ve (⟨tg,iter,ifs,0⟩::gs) scope pos) (B7 k it0 g ts cs tk tv):=h▸zeP ext b d c f i
end
end DL
namespace DL
open PySem L2
open PyProof.Rows (AllBare)
structure B_(Cl:Nat->ae)(P:aJ)(w:aU)(K:aj)(mg:au->Option ae)(base:aR)(x:au)(k n:Nat)(Pt:af)(F:pY):Prop where
 ex:∃f fd ps,mg x=XE (.ref f)/\cV K (.ref f)=Y1/\Binds K fd ps []/\oP P w K mg base (rK P w Cl) k f fd ps (DJ K (Xk Cl) n Pt F)
structure yF(K:aj)(mg:au->Option ae)(x:au)(st:cT)(c:af):Prop where
 ex:∃f fd,mg x=XE (.ref f)/\L2.Fun K x x st f fd/\fd.code=.ref c
def sj(Pt iT n:Nat)(F:pY)(t:DA):DE:=λσ O=>match σ[iT]? with
 |some (XE (.tab p))=>if p=Pt then o_ n F t σ O else .bad
 |_=>.bad
def AA{Cl:Nat->ae}{X:Cx}{E:XK}{x:au}{k j n Pt i:Nat}{F:pY}{p pos:Pos}{e:aS}{a:List aS}{t:DA}(c:B_ Cl X.prog X.w X.K X.mg X.base x k n Pt F)(o:Bn (rK X.prog X.w Cl) X E)(r:oF j X.A)(s:k<=j)(u:Gl X x)(y:tw X (Xk Cl E) (e::a) t)
  (z:rH x:=by decide) (B:aF (e::a) X.env=(Y2,eval e X.env)::aF a X.env:=by rfl) (C:(backTo pos (aF a X.env)).any (·.1)=Y2:=by rfl):
  PD X (Xk Cl E) (.Call (.Name x p) (e::a) [] pos) (sj Pt i n F t):=by
 obtain⟨f,Y,Z,D,I,J,G⟩:=c.ex;refine rS (LU (dvs:=[]) (ds:=[]) (G.mono s) r u D I J .nil o y.out z B C) λb L M O b_ H Q l N q=>?_;obtain⟨P,q⟩:oQ H Pt/\qW (Xk Cl E) X.K H b L (o_ n F t M O) Q:=by
  unfold sj at q;split at q
  ·rename_i p R;by_cases g:p=Pt
   ·rw[JU g] at q;obtain⟨v,_,d⟩:=l.at_ i _ R;unfold Xe at d;rw[g] at d;exact⟨d.2,q⟩
   ·rw[J5 g] at q;exact ai q
  ·exact ai q
 refine uS.go l N q λds S vs H1 T e2 U V m h=>?_;obtain⟨W,h⟩:=post.ite h;refine⟨by rw[bP,<- m.length];exact W,b,T,ds,S,?_,V,U.tab _ P,h⟩;rw[bP];exact m
def X8{Cl:Nat->ae}{P:aJ}{w:aU}{K:aj}{e:au->Option ae}{base:aR}{k i:Nat}{f Pt:af}{g:dL}{x z:au}{b:cT}{N d:List au}{t:DS}(h:L2.Fun K x x b f g)(S:rO N d (qc b))(j:N[i]?=XE z)(l:¬ sD (qc b) z)
  (m:∀(c:ae)(A:aX)(a:List Env)(s:ag)(H:Hp)(E:XK),oF k (A.deeper (aV x (qc b) s.heap.objs.size f c))->r8 (uz Cl P w K e base N x (qc b) f c A a s H E) (Xk Cl E) (sT b) t):
  oP P w K e base (rK P w Cl) (k+1) f g d (DJ K (Xk Cl) d.length Pt (vN N.length i Pt t)):=by obtain⟨q,r,u,n,v,y,c,B,C,rfl,o,p⟩:=h.ex;exact zkA o p S j l (m c)
structure KH where
 params:eG
 body:aS
 scope:cf
 tE:DE
def zkb(X:Cx)(L:KH)(c:af)(ct:ae):Obj:={ cls:=.type "function",data:=.func (cr "<lambda>" (X.env.qual ++ "<lambda>") L.params L.body L.scope (rX X.env.cells L.scope.names []) ((X.mg "__name__").getD .none) (.ref c) ct) }
def o5(X:Cx)(L:KH)(H:Hp)(a:af):Prop:=∃c φ ct,H a=XE (.ext λh=>h.get? a=XE (zkb X L c ct))/\H c=XE (.ext φ)/\∀h:aR,φ h->∃q,h.CodeRec (.ref c) q
structure zoM(Cl:Nat->ae)(X:Cx)(k:Nat)(L:KH):Prop where
 ls:Jl X.env.scope L.scope
 df:defaultsOf L.params X.env=([],[])
 bl:∀(name qual:au)(cl:List (au×af))(pm cd ct:ae),bindArgs (cr name qual L.params L.body L.scope cl pm cd ct) ⟨[],[]⟩=pure []
 E:∀(q:au)(lam:af)(cd:ae)(cl:List (au×af))(A:aX)(outer:List Env)(s:ag)(H:Hp)(E:XK),oF k (A.deeper (tx q L.scope s.heap.objs.size lam cd cl))->PD (Dr (rK X.prog X.w Cl) X.prog X.w X.K X.mg X.base X.N (tx q L.scope s.heap.objs.size lam cd cl) A outer s H E) (Xk Cl E) L.body L.tE
section
variable{X:Cx}{H H':Hp}
def o5.ext(h:o5 X L H a)(x:Ext H [] H' []):o5 X L H' a:=by obtain⟨c,b,d,e,f,g⟩:=h;exact⟨c,b,d,x.keep _ _ e 'd',x.keep _ _ f 'd',g⟩
end
structure KJ(X:Cx)(H0:Hp)(l:af)(ls:List KH)(as:List af)(H:Hp):Prop where
 nl:H0 l=YP
 ea:Ea l H0 [] H []
 at_:H l=XE (.lst (as.map V.ref))
 lam:cu (λL a=>o5 X L H a) ls as
 nd:as.Nodup
def KJ.ext(b:KJ X H0 l ls as H)(μ:List af):Ext H0 μ H μ:=
 ⟨⟨[],by simp⟩,λc o h _ a=>b.ea.kept c o h 'd' (sk h b.nl) a,λ_ m=>.inl m,b.ea.there,b.ea.tab⟩
def KJ.cells(b:KJ X H0 l ls as H)(c:oB K H0 Xa μ O):oB K H Xa μ O:=by refine⟨c.len,c.nd,c.nh,λa m=>b.ea.there a (c.ht a m),λk a e=>?_⟩;obtain⟨f,g,h,d,i⟩:=c.at_ k a e;exact⟨f,g,h,b.ea.kept a _ d 'd' (sk d b.nl) (by intro j z;cases z),i.ext (b.ext μ)⟩
def oD.take(e:oD K H Xa μ σ b_)(n:Nat):oD K H Xa μ (σ.take n) (b_.take n):=
 ⟨by simp[e.len],λi d h=>by
  rw[jK] at h;split at h
  ·rename_i a;obtain⟨v,b,c⟩:=e.at_ i d h;exact⟨v,by rw[jK,JU a];exact b,c⟩
  ·cases h⟩
def oD.drop(e:oD K H Xa μ σ b_)(i:Nat):oD K H Xa μ (σ.set i YP) b_:=
 ⟨by simp[e.len],λj d h=>by
  by_cases a:i=j
  ·subst a;by_cases b:i<σ.length
   ·rw[aY b] at h;cases h
   ·rw[bg.mpr (by simp;lia)] at h;cases h
  ·rw[aZ a] at h;exact e.at_ j d h⟩
section
end
def o5.mono(h:o5 X L H a)(k:∀b d,H b=XE (.ext d)->H' b=XE (.ext d)):o5 X L H' a:=by obtain⟨c,d,e,f,g,i⟩:=h;exact⟨c,d,e,k _ _ f,k _ _ g,i⟩
end DL
namespace DL
open PySem L2 PySem.Spec PyProof.Rows
open Sem (wp)
theorem UA(b:List ae):∀(k:Nat)(a:List ae),(aw k b.toArray).foldl (· ++ ·) a.toArray=(a++(aw k b).flatten).toArray
 |0,a=>by simp
 | k+1,a=>by
  rw[eo,fE,show a.toArray++b.toArray=(a++b).toArray from by simp,UA b k (a++b),eo];simp
def UU(a:List ae)(k:Nat):(aw k a.toArray).foldl (· ++ ·) #[]=((aw k a).flatten).toArray:=by have:=UA a k [];simpa using this
theorem Ci{α:Type}(l:List α):∀k:Nat,(aw k l).flatten.length=k*l.length
 |0=>by simp
 |k+1=>by rw[eo,ei,aA,Ci l k,Nat.succ_mul,im]
theorem oE.flat(r:oE vs us):∀k:Nat,oE (aw k vs).flatten (aw k us).flatten
 |0=>.nil
 |k+1=>by rw[eo,eo,ei,ei];exact r.append (oE.flat r k)
theorem oC.flat{K:aj}{H:Hp}{Xa μ:List af}{ds:List D}{vs:List V}(r:oC K H Xa μ ds vs):∀k:Nat,oC K H Xa μ (aw k ds).flatten (aw k vs).flatten
 |0=>.nil
 |k+1=>by rw[eo,eo,ei,ei];exact r.append (oC.flat r k)
def zfs(l:af)(items:Array ae)(n:Nat)(u:Tok)(dd:Option af)(sl):
  j9 (eF.«tuple.__mul__» ⟨[.ref l,.int 1 u],[]⟩) (λ_ R s=>s.heap.get? l=XE { cls:=.type "tuple",dict:=dd,data:=.seq items n,slots:=sl }/\R (.ok (.ret (.ref l))) s):=
 .of_wp λa w A R s h=>by obtain⟨b,g,d,c,e⟩:=s;obtain⟨f,h⟩:=h;wp_walk;exact⟨_,rfl,h⟩
def zg0(l:af)(items:List ae)(n:Nat)(x:Int)(u:Tok)(dd:Option af)(sl)(h0:items≠[])(b:items.length<=1000)(r:2<=x)(c:x<=64):
  j9 (eF.«tuple.__mul__» ⟨[.ref l,.int x u],[]⟩) (λ_ R s=>s.heap.get? l=XE { cls:=.type "tuple",dict:=dd,data:=.seq items.toArray n,slots:=sl }/\R (.ok (.ret (c8 s.heap.objs.size))) { s with heap:=s.heap.push { cls:=.type "tuple",data:=.seq ((aw x.toNat items).flatten).toArray } }):=
 .of_wp λa w A R s h=>by
  obtain⟨t,g,d,v,y⟩:=s;obtain⟨z,h⟩:=h;have B:items.toArray ≠ #[]:=by intro e;exact h0 ⇑e
  have C:(items.toArray.size:Int)*x<=64000:=by
   rw[aP]
   calc (items.length:Int)*x<=1000*x:=Int.mul_le_mul_of_nonneg_right 'o' 'o'
    _<=64000:=by lia
  have f:¬ (decide (x < -2 ^ 63)||decide (x ≥ 2 ^ 63))=Y1:=by simp;lia
  have i:¬ ((items.toArray.size:Int)*x>(2 ^ 63-1)/8):=by
   have:((2 ^ 63-1)/8:Int)=1152921504606846975:=by decide
   lia
  have j:gX ((items.toArray.size:Int)*x)=Y2:=by
   unfold gX;have:J8=16777216:=fT;rw[this];exact decide_eq_false 'o'
  have k:=UU items x.toNat;have o:(items.toArray.isEmpty||x==1)=Y2:=by
   have:(x==1)=Y2:=by simp;lia
   rw[this];simpa using h0
  have p:(decide (x<=0)||items.toArray.isEmpty)=Y2:=by
   have:decide (x<=0)=Y2:=decide_eq_false 'o';rw[this];simpa using h0
  wp_walk
  rw[J5 f]
  wp_walk
  rw[J5 (by rw[o];decide)];rw[J5 (by rw[p];decide)];rw[J5 i];dsimp only;rw[J5 (show ¬ gX ((items.toArray.size:Int)*x)=Y1 by rw[j];decide),k];have q:((aw x.toNat items).flatten).toArray.size<=J8:=by
   have:J8=16777216:=fT;rw[aP,Ci];have:x.toNat<=64:=by lia
   calc x.toNat*items.length<=64*1000:=jy this b
    _<=_:=by lia
  exact aa (m:=Builtin.Tuple.tupleExact _) (cx (am ⟨_,rfl,h⟩) q)
def z7X(a:Int)(t:Tok)(l:af)(items:Array ae)(n:Nat)(dd:Option af)(sl):
  j9 (eF.«int.__rmul__» ⟨[.int a t,.ref l],[]⟩) (λ_ R s=>s.heap.get? l=XE { cls:=.type "list",dict:=dd,data:=.seq items n,slots:=sl }/\R (.ok (.ret gO)) s):=
 .of_wp λb w A R s h=>by obtain⟨c,g,d,e,f⟩:=s;obtain⟨i,h⟩:=h;wp_walk;exact⟨_,rfl,h⟩
def zg7(l:af)(items:List ae)(n:Nat)(x:Int)(u:Tok)(dd:Option af)(sl)(h0:items≠[])(a:items.length<=1000)(r:1<=x)(e:x<=64):
  j9 (eF.«list.__mul__» ⟨[.ref l,.int x u],[]⟩) (λ_ R s=>s.heap.get? l=XE { cls:=.type "list",dict:=dd,data:=.seq items.toArray n,slots:=sl }/\R (.ok (.ret (c8 s.heap.objs.size))) { s with heap:=s.heap.push { cls:=.type "list",data:=.seq ((aw x.toNat items).flatten).toArray } }):=
 .of_wp λb w A R s h=>by
  obtain⟨t,g,d,v,y⟩:=s;obtain⟨z,h⟩:=h;have c:x.toNat<=64:=by lia
  have B:items.toArray.size*x.toNat<=64000:=by
   rw[aP]
   calc items.length*x.toNat<=1000*64:=jy a c
    _<=64000:=by lia
  have f:¬(!Builtin.List.listFitsIndex x)=Y1:=by
   unfold Builtin.List.listFitsIndex;simp;lia
  have i:¬items.toArray.size*x.toNat>(2 ^ 63-1)/8:=by
   have:((2 ^ 63-1)/8:Nat)=1152921504606846975:=by decide
   lia
  have j:¬eM (items.toArray.size*x.toNat)=Y1:=by
   unfold eM;have k:J8=16777216:=fT;rw[k];simpa using(by lia:items.toArray.size*x.toNat<=16777216)
  have o:=UU items x.toNat;have p:items.toArray.isEmpty=Y2:=⇑h0
  have q:((aw x.toNat items).flatten).toArray.size<=J8:=by
   have:J8=16777216:=fT;rw[aP,Ci]
   calc x.toNat*items.length<=64*1000:=jy c a
    _<=_:=by lia
  wp_walk
  rw[J5 i];dsimp only;rw[J5 j,p,J5 's',o];exact aa (m:=newObj _ _) (cx (am ⟨_,rfl,h⟩) q)
section
variable{X:Cx}{Ex:Nat->Hp->Prop}
def Qg(K:aj):R2:=λx y H Q=>∃a xs i,x=.ref a/\y=.int i/\xs≠[]/\xs.length<=1000/\i<=64/\
 ((rW K H a xs/\i=1/\Q (.ref a) H)\/(rW K H a xs/\2<=i/\∀p,H p=YP->Q (.ref p) (upd H p (.tup (aw i.toNat xs).flatten)))\/(qY K H a xs/\1<=i/\∀p,H p=YP->Q (.ref p) (upd H p (.lst (aw i.toNat xs).flatten))))
def zhA:qI X (dU .Mult) (Qg X.K):=by
 intro E s W H x y v u Q I M N h;obtain⟨a,m,i,rfl,rfl,O,P,G,h⟩:=h;cases M;obtain⟨t,rfl⟩:=N;have J:∀{d:List ae},oE m d->d≠[]/\d.length<=1000:=λ{d}r=>by
  have p:=r.length;refine⟨λe=>O ?_,by lia⟩;subst e;exact cU.mp ⇑p
 have L:i.toNat*m.length<=J8:=by
  have:J8=16777216:=fT;have R:i.toNat<=64:=by lia
  calc i.toNat*m.length<=64*1000:=jy R P
   _<=_:=by lia
 rcases h with⟨w,rfl,q⟩|⟨w,B,q⟩|⟨w,B,q⟩
 ·obtain⟨d,r,⟨⟨z,f,g,j⟩,c,k,n,l⟩,_⟩:=I.tuple w;simp only at k l;subst k l;exact ie (T := "tuple") (U := "int") 's' ⟨_,c,rfl⟩ (λA=>iw A 1 t) Wc i6 eI V0 iH.lookup
   (gL eI (iw s 1 t) iI (iA _ _) (VY 1 t a d.toArray n f j)
    ⟨c,rfl,⟨_,c,rfl⟩,gL gi ⟨_,c,rfl⟩ kR (kE _ _) (zfs a d.toArray n t f j) ⟨c,.ref a,H,I,rfl,q⟩⟩)
 ·obtain⟨d,r,⟨⟨z,f,g,j⟩,c,k,n,l⟩,_⟩:=I.tuple w;simp only at k l;subst k l;obtain⟨C,D⟩:=J r;refine ie (T := "tuple") (U := "int") 's' ⟨_,c,rfl⟩ (λA=>iw A i t) Wc i6 eI V0 iH.lookup
   (gL eI (iw s i t) iI (iA _ _) (VY i t a d.toArray n f j)
    ⟨c,rfl,⟨_,c,rfl⟩,gL gi ⟨_,c,rfl⟩ kR (kE _ _) (zg0 a d n i t f j C D B G) ⟨c,?_⟩⟩)
  exact⟨.ref s.heap.objs.size,_,I.laid (t':=s.toks) (o:=.tup (aw i.toNat m).flatten) (λb S q=>ah _ q) (aB _) ⟨by rw[Ci];exact L,_,oE.flat r _,oW.new _ _⟩,rfl,q _ (I.hok.fresh (aB _))⟩
 ·obtain⟨d,r,V,_⟩:=I.list w;obtain⟨⟨z,f,g,j⟩,c,k,n,l⟩:=V.isList;simp only at k l;subst k l;obtain⟨C,D⟩:=J r;refine ie (T := "list") (U := "int") 's' ⟨_,c,rfl⟩ (λA=>iw A i t) PySem.noFill_list_mul i6 eI PySem.repeat_list iH.lookup
   (gL eI (iw s i t) iI (iA _ _) (z7X i t a d.toArray n f j)
    ⟨c,rfl,⟨_,c,rfl⟩,gL PySem.F.slot_list_mul ⟨_,c,rfl⟩ PySem.F.entry_list_mul (PySem.F.args_list_mul_2 _ _) (zg7 a d n i t f j C D B G) ⟨c,?_⟩⟩)
  exact⟨.ref s.heap.objs.size,_,I.laid (t':=s.toks) (o:=.lst (aw i.toNat m).flatten) (λb S q=>ah _ q) (aB _) ⟨by rw[Ci];exact L,_,_,oE.flat r _,aM _ rfl⟩,rfl,q _ (I.hok.fresh (aB _))⟩
noncomputable def HZ(o:Bool):Ow->D->D->R D:=λO x y=>match y with
 | .int i=>if i<=64 then match x with
  |.tup ds=>if ds≠[]/\ds.length<=1000/\1<=i then .ok (.tup (aw i.toNat ds).flatten) O else .bad
  |.lst ds=>if ds≠[]/\ds.length<=1000/\1<=i then (if o=Y1 then .ok (.own O.length) (O++[(aw i.toNat ds).flatten]) else .ok (.lst (aw i.toNat ds).flatten) O) else .bad
  |_=>.bad
  else .bad
 |_=>.bad
def zfQ(o:Bool):sF X Ex (Qg X.K) (HZ o):=by
 intro H j n O x y v w Q c m t q;unfold HZ at q;split at q
 ·rename_i i;obtain⟨u,q⟩:=post.ite q;unfold Xe at t;subst t;have z:∀{b:List D}{k:List V},oC X.K H j n b k->b≠[]->k≠[]:=λ{b k}d h e=>h (by have:=d.length;rw[e] at this;simpa using this);cases x with
  | tup b=>
   obtain⟨⟨r,s,A⟩,q⟩:=post.ite q;have B:=m;unfold Xe at m;obtain⟨a,k,rfl,l,g⟩:=m;refine⟨a,k,i,rfl,rfl,z g r,by rw[<- g.length];exact s,u,?_⟩;by_cases e:i=1
   ·subst e;refine .inl ⟨l.sq,rfl,post.here q c ?_⟩;have:(aw (1:Int).toNat b).flatten=b:=by simp
    rw[this];exact B
   ·exact .inr (.inl ⟨l.sq,by lia,λp f=>post.ok q (.laid f) (c.laid f) (Xe.newT c f (g.flat _))⟩)
  | lst b=>
   obtain⟨⟨r,s,A⟩,q⟩:=post.ite q;unfold Xe at m;obtain⟨a,k,rfl,l,g⟩:=m;refine⟨a,k,i,rfl,rfl,z g r,by rw[<- g.length];exact s,u,.inr (.inr ⟨l.sq,A,λp f=>?_⟩)⟩;cases o with
   |false=>exact post.ok (show qW Ex X.K H j n (.ok (.lst (aw i.toNat b).flatten) O) Q from q) (.laid f) (c.laid f) (Xe.newL c f (g.flat _))
   | true=>
    have q:qW Ex X.K H j n (.ok (.own O.length) (O++[(aw i.toNat b).flatten])) Q:=q;exact post.ok q (.cell f) (c.cell f (g.flat _)) (Jy c.len)
  |_=>exact ai q
 ·exact ai q
end
end DL
namespace DL
open PySem L2 PySem.Spec PyProof.Rows
open Sem (wp)
open AutoSeq1 (wpAny_loadPart')
end DL
namespace DL
open PySem L2 PySem.Spec PyProof.Rows
section
end
end DL
namespace DL
open PySem L2
section
variable{Ex:Nat->Hp->Prop}
def oG.seq(q:oG Ex K H Xa μ (pL t u σ O) E):oG Ex K H Xa μ (t σ O) { E with nx:=λf H'=>J3 Ex K u E f H' }:=by
 unfold pL at q;cases e:t σ O with
 | nx σ' O'=>
  rw[e] at q;exact λi H' g h a b=>⟨Xa,g,σ',O',a,b,q.ext h⟩
 |rt d O'=>rw[e] at q;exact q
 |bk σ' O'=>rw[e] at q;exact q
 |ct σ' O'=>rw[e] at q;exact q
 |exc c O'=>rw[e] at q;exact q
 |bad=>rw[e] at q;exact q
end
end DL
namespace DL
open PySem L2 PySem.Spec PyProof.Rows
noncomputable def P0:List ae->List Int->Bool
 |[],[]=>Y1
 |.int i _::vs,k::ks=>i==k&&P0 vs ks
 |_,_=>Y2
def X9(o:Obj)(ks:List Int):Bool:=(match o.cls with|.type n=>n == "tuple"|_=>Y2)&&o.dict.isNone&&(match o.data with|.seq e_ _=>P0 e_.toList ks&&decide (e_.size<=1000)|_=>Y2)
structure zoO(K:aj)(mg:au->Option ae)(x:au)(ks:List Int):Prop where
 ex:∃e o,mg x=XE (.ref e)/\K.lookup e=XE o/\X9 o ks=Y1
end DL
namespace DL
open PySem L2 PyProof.Rows
def Af:List D->Option (List l_)
 |[]=>XE []
 | .tup ds::r=>match vf ds,Af r with
  |some ks,XE t=>XE (ks::t)
  |_,_=>YP
 |_::_=>YP
def Dv(x:l_):List l_->List l_
 |[]=>[x]
 |y::l=>if y<x then y::Dv x l else x::y::l
def Bd(l:List l_):List l_:=l.foldr Dv []
def toT(ks:l_):D:=.tup (ks.map .str)
def E8:Ow->List D->R D:=λO xs=>match xs with
 | [x]=>match r_ O x with
  | some ds=>match Af ds with
   |some rE=>if (2<=rE.length->(rE.all λks=>!ks.isEmpty)=Y1)/\rE.length<=4000000 then .ok (.lst ((Bd rE).map toT)) O else .bad
   |none=>.bad
  |none=>.bad
 |_=>.bad
abbrev ya(a b:l_):Prop:=¬ b<a
def ya.trans{a b c:l_}(g:ya a b)(d:ya b c):ya a c:=λh=>by
 by_cases e:b<a
 ·exact g e
 ·by_cases f:a<b
  ·exact d (TS.llt_trans h f)
  ·rw[TS.llt_total f e] at h;exact d h
theorem Mw(x:l_):∀l,(Dv x l).Perm (x::l)
 |[]=>fV _
 | y::l=>by
  unfold Dv;split
  ·exact((Mw x l).cons y).trans (List.Perm.swap x y l)
  ·exact fV _
theorem Mu:∀l,(Bd l).Perm l
 |[]=>fV _
 |x::l=>(Mw x (Bd l)).trans ((Mu l).cons x)
theorem Uk(x:l_):∀l,l.Pairwise ya->(Dv x l).Pairwise ya
 |[],_=>kQ _ _
 | y::l,h=>by
  unfold Dv;have a:=bK.mp h;split
  ·rename_i c;refine bK.mpr ⟨λz hz=>?_,Uk x l a.2⟩;rcases ar.mp ((Mw x l).mem_iff.mp hz) with rfl|hz
   ·exact λd=>TS.llt_irrefl _ (TS.llt_trans d c)
   ·exact a.1 z hz
  ·rename_i b;refine bK.mpr ⟨λz hz=>?_,h⟩;rcases ar.mp hz with rfl|hz
   ·exact b
   ·exact ya.trans b (a.1 z hz)
theorem Mf:∀l,(Bd l).Pairwise ya
 |[]=>eU
 |x::l=>Uk x _ (Mf l)
theorem U5:∀{a b:List l_},a.Pairwise ya->b.Pairwise ya->a.Perm b->a=b
 |[],b,_,_,p=>p.nil_eq
 |x::a,[],_,_,p=>absurd p.symm.nil_eq 'd'
 | x::a,y::b,ha,hb,p=>by
  have c:=bK.mp ha;have d:=bK.mp hb;have e:x=y:=by
   have f:ya y x:=by
    rcases ar.mp (p.mem_iff.mp av) with h|h
    ·rw[h];exact TS.llt_irrefl _
    ·exact d.1 x h
   have g:ya x y:=by
    rcases ar.mp (p.mem_iff.mpr av) with h|h
    ·rw[h];exact TS.llt_irrefl _
    ·exact c.1 y h
   exact TS.llt_total f g
  subst e;rw[U5 c.2 d.2 (List.Perm.cons_inv p)]
def Bb{α:Type}(R:V->α->Prop):List V->List α->Prop
 |[],[]=>True
 |v::vs,k::ks=>R v k/\Bb R vs ks
 |_,_=>False
def KZ(K:aj)(H:Hp)(v:V)(ks:l_):Prop:=∃t,v=.ref t/\rW K H t (ks.map λcs=>V.str ⟨cs.toArray⟩)
def vT:ae->V
 |.ref t=>.ref t
 |_=>.non
theorem Jv:∀{a:l_}{b:List ae},oE (a.map λcs=>V.str ⟨cs.toArray⟩) b->TS.allS b=XE a
 |[],_,.nil=>rfl
 | k::a,u::us,.cons r h=>by
  obtain⟨c,rfl⟩:=r;unfold TS.allS;rw[Jv h];rfl
section
variable{X:Cx}{Ex:Nat->Hp->Prop}{H:Hp}{Xa μ:List af}
def Qo(K:aj):List V->Hp->VK->Prop:=λxs H Q=>∃p vs rE,∃R:V->l_->Prop,xs=[.ref p]/\qY K H p vs/\Bb R vs rE/\(∀v k,R v k->KZ K H v k/\(2<=vs.length->k≠[]))/\vs.length<=4000000/\∀l su AO,Bb R su AO->AO.Perm rE->AO.Pairwise ya->H l=YP->Q (.ref l) (upd H l (.lst su))
theorem RD{b:List (af×Obj)}{σ:L2.St}{s:ag}(I:L2.Inv X b σ H s){R:V->l_->Prop}{B:Prop}(d:∀v k,R v k->KZ X.K H v k/\(B->k≠[])):∀{vs:List V}{c:List l_}{a:List ae},Bb R vs c->oE vs a->a.map (TS.keyT s.heap)=c/\∀u∈a,R (vT u) (TS.keyT s.heap u)/\RelV (vT u) u/\∃f,TS.TupS s.heap u f/\(B->f≠[])
 |[],[],_,_,.nil=>⟨rfl,λ_ h=>by cases h⟩
 |[],_::_,_,h,_=>h.elim
 |v::vs,[],_,h,_=>h.elim
 | v::vs,k::c,u::us,⟨h1,h2⟩,.cons r hv=>by
  obtain⟨e,m⟩:=RD I d h2 hv;obtain⟨⟨t,rfl,p⟩,q⟩:=d v k h1;cases r;obtain⟨a,i,⟨o,g,w,n,j⟩,_⟩:=I.tuple p;have x:TS.TupS s.heap (.ref t) k:=⟨t,o,a.toArray,n,rfl,g,w,j,by simpa using Jv i⟩;have l:TS.keyT s.heap (.ref t)=k:=by
   show((match s.heap.get? t with|some o=>(match o.data with|.seq a _=>TS.allS a.toList|_=>YP)|none=>YP):Option _).getD []=_;rw[g];dsimp only;rw[j];dsimp only;rw[show TS.allS a.toArray.toList=XE k from by simpa using Jv i];rfl
  refine⟨by rw[bJ,l,e],λu hu=>?_⟩;rcases ar.mp hu with rfl|hu
  ·exact⟨by rw[l];exact h1,rfl,k,x,q⟩
  ·exact m u hu
theorem Ur{R:V->l_->Prop}{f:ae->l_}:∀{l:List ae},(∀u∈l,R (vT u) (f u))->Bb R (l.map vT) (l.map f)
 |[],_=>trivial
 |u::l,h=>⟨h u av,Ur λv a=>h v (al _ a)⟩
theorem Tr:∀{l:List ae},(∀u∈l,RelV (vT u) u)->oE (l.map vT) l
 |[],_=>.nil
 |u::l,h=>.cons (h u av) (Tr λv a=>h v (al _ a))
def zbH:oO X (.builtin "sorted") (Qo X.K):=by intro f s C H D E Q I r h;obtain⟨p,F,G,R,rfl,k,l,m,n,q⟩:=h;obtain⟨u,rfl,o⟩:=vC r;cases o;obtain⟨g,i,t,J⟩:=I.list k;obtain⟨w,c⟩:=RD I m l i;have b:=i.length.symm;refine TS.sorted_tups t.isList (λv x=>let ⟨ks,k1,k2⟩:=(c v x).2.2;⟨ks,k1,λz=>k2 'o'⟩) 'o' λa d y=>?_;obtain⟨e,A⟩:=sortedAll_at s.heap g a;have B:=I.hok.fresh (fU _);have j:∀u∈a.toList,u∈g:=λu h=>d.mem_iff.mp h;refine⟨.ref _,_,I.laid (λ_ _ z=>sortedAll_old z) (fU _) ?_,rfl,q _ _ _ (Ur λu h=>(c u (j u h)).1) (by rw[<- w];exact d.map _) (gw.mpr y) B⟩;refine⟨?_,a.toList,e,Tr λu h=>(c u (j u h)).2.1,by rw[A]⟩;rw[aD,d.length_eq,b];exact aG n 's'
theorem LZ:∀{ds:List D}{a:l_},vf ds=XE a->ds=a.map D.str
 |[],a,h=>by cases h;rfl
 | d::ds,a,h=>by
  cases d with
  | str cs=>
   unfold vf at h;cases e:vf ds with
   |none=>rw[e] at h;cases h
   |some r=>rw[e] at h;cases h;rw[LZ e];rfl
  |_=>cases h
theorem T4:∀{ds:List D}{a:List l_},Af ds=XE a->ds.length=a.length
 |[],a,h=>by cases h;rfl
 | d::ds,a,h=>by
  cases d with
  | tup xs=>
   unfold Af at h;split at h
   ·rename_i c t e b;cases h;rw[aT,aT,T4 b]
   ·cases h
  |_=>cases h
theorem R8{K:aj}{B:Prop}:∀{ds:List D}{vs:List V}{a:List l_},oC K H Xa μ ds vs->Af ds=XE a->(∀k∈a,B->k≠[])->Bb (λv k=>Xe K H Xa μ (toT k) v/\(B->k≠[])) vs a
 | [],vs,a,h,e,_=>by
  cases e;subst h;trivial
 | d::ds,vs,a,h,e,qU=>by
  obtain⟨v,r,rfl,b,c⟩:=h;cases d with
  | tup xs=>
   unfold Af at e;split at e
   ·rename_i f t g i;cases e;refine⟨⟨?_,qU f av⟩,R8 c i λk j=>qU k (al _ j)⟩;have:=LZ g;unfold toT;rw[<- this];exact b
   ·cases e
  |_=>cases e
theorem TZ{α:Type}{R:V->α->Prop}:∀{vs:List V}{a:List α},Bb R vs a->vs.length=a.length
 |[],[],_=>rfl
 |[],_::_,h=>h.elim
 |_::_,[],h=>h.elim
 |_::_,_::_,h=>by rw[aT,aT,TZ h.2]
theorem UZ{K:aj}{B:Prop}:∀{vs:List V}{a:List l_},Bb (λv k=>Xe K H Xa μ (toT k) v/\(B->k≠[])) vs a->oC K H Xa μ (a.map toT) vs
 |[],[],_=>by unfold oC;rfl
 |[],_::_,h=>h.elim
 |v::vs,[],h=>h.elim
 | v::vs,k::a,h=>by
  exact⟨v,vs,rfl,h.1.1,UZ h.2⟩
def zhF:vg X Ex (Qo X.K) E8:=by
 intro H Xa μ O C D Q c d q;unfold E8 at q;split at q
 ·rename_i x;obtain⟨v,rfl,o⟩:=uE d;split at q
  ·rename_i E e;obtain⟨p,f,rfl,r,g⟩:=xq c o e;split at q
   ·rename_i a h;obtain⟨⟨s,i⟩,q⟩:=post.ite q;have b:f.length=a.length:=by rw[<- g.length,T4 h]
    have u:∀k∈a,2<=f.length->k≠[]:=λk w i e=>by
     have:=ay.mp (s 'o') k w;rw[e] at this;cases this
    have j:=R8 g h u;refine⟨p,f,a,_,rfl,r,j,λv k m=>⟨?_,m.2⟩,?_,λl F G y z A b=>?_⟩
    ·obtain⟨t,I,rfl,n,B⟩:=Bm m.1 rfl;have:=IZ B (strL_map k);rw[this] at n;exact⟨t,rfl,n⟩
    ·rw[TZ j];exact i
    ·have e:=U5 A (Mf a) (z.trans (Mu a).symm);subst e;exact post.ok q (.laid b) (c.laid b) (Xe.newL c b (UZ y))
   ·exact ai q
  ·exact ai q
 ·exact ai q
end
end DL
namespace DL
open PySem L2
open PyProof.Rows (AllBare)
section
variable{prog:aJ}{w:aU}{A:aX}{s:ag}{R:Result->ag->Prop}
def zfU(f:A.depth<recursionLimit)
  (g:s.heap.get? lam=XE { cls:=.type "function",data:=.func (cr name qual params body scope cl pm cd ct) }) (i:s.heap.CodeRec cd q) (j:scope.isCoroutine=Y2) (k:scope.isGenerator=Y2) (l:scope.kind=.function) (m:∀x∈scope.names,x.2 ≠ .cell) (n:scope.names.lookup x=XE .local)
  (p:bindArgs (cr name qual params body scope cl pm cd ct) ⟨[u],[]⟩=pure [(x,u)]) (r:s.heap.NoLimit)
  (h:∀h' tk,0<tk->h'.Ns s.heap.objs.size (λy=>[(x,u)].lookup y)->(∀b o,s.heap.get? b=XE o->h'.get? b=XE o)->
   aq (ax prog w) (A.deeper (tx q scope s.heap.objs.size lam cd cl)) (eval body (tx q scope s.heap.objs.size lam cd cl)) (λv s'=>R (.ok (.ret v)) s') (λ_ _=>False) { s with heap:=h',toks:=tk }):
  codeAny (ax prog w) A (.call (.ref lam) ⟨[u],[]⟩) R s:=by
 refine kT ?_;show aq _ A.in1 (callAny (.ref lam) ⟨[u],[]⟩) _ _ s;refine aa (wpAny_load g ?_);obtain⟨c,H,I,J,t,B,C,D⟩:=i;subst t;simp only[callFunction,j,k];refine aa (bF B C D (aa (am ?_)));rw[p];refine aa (am (aa (lQ m (λy E=>?_) (λa F G=>?_) l)))
 ·have e:y=(x,u):=⇑E
  rw[e];exact n
 have d:∀b o,s.heap.get? b=XE o->a.get? b=XE o:=λb o e=>G.extBut b o (bq (aK e)) (ah _ e);refine aa (wpAny_enterFrame (r.keeps d) f (am ⟨rfl,?_⟩));exact lR (ci (h a _ (cN _) F d) (λ_ _ z=>z) λ_ _ z=>z.elim)
end
noncomputable def G_(P:aJ)(w:aU)(K:aj)(mg:au->Option ae)(base:aR)(N:List au)(env:Env)(A:aX)(outer:List Env)(s:ag)(H:Hp):Cx where
 prog:=P
 w:=w
 K:=K
 mg:=mg
 base:=base
 A:=A.deeper env
 N:=N
 s₀:=s
 H₀:=H
 env:=env
 outer:=outer
 stack:=env::outer
 ex:=[]
 calm:=Y1
 fn:=λ_=>Y2
 pn:=[]
 xe:=λ_ _=>False
structure PX(out sc:cf)(x:au):Prop where
 kind:sc.kind=.function
 co:sc.isCoroutine=Y2
 gen:sc.isGenerator=Y2
 nd:(sc.names.map (·.1)).Nodup
 cell:∀y∈sc.names,y.2 ≠ .cell
 one:sc.names.lookup x=XE .local
 loc:∀y∈sc.names,y.2=.local->y.1=x
 frees:∀y∈sc.names,y.2=.free->out.names.lookup y.1=XE .cell\/out.names.lookup y.1=XE .free
section
variable{P:aJ}{w:aU}{K:aj}{mg:au->Option ae}{base:aR}{N:List au}{A:aX}{outer:List Env}{s:ag}{H:Hp}{q x:au}{scope:cf}{lam:af}{cd:ae}{cl:List (au×af)}{σ:St}{h':aR}{tk:Nat}{v:V}{u:ae}
def zeL(f:o0 P w K mg base A outer s H)(C:A.handled=YP)(D:scope.kind=.function)(t:∀y,sD scope y->scope.names.lookup y=XE .free\/y=x)(B:scope.names.lookup x=XE .local)(E:x∉N)
  (cells:∀x c,cl.lookup x=XE c->(∃v,s.heap.IsCell c v)/\H c=YP) (inj:∀x y c,cl.lookup x=XE c->cl.lookup y=XE c->x=y) (k:∀x,scope.names.lookup x=XE .free->∃c,cl.lookup x=XE c)
  (h:∀(i:Nat)x v,N[i]?=XE x->σ[i]?=XE (XE v)->scope.names.lookup x=XE .free->∃u c,RelV v u/\cl.lookup x=XE c/\s.heap.IsCell c (XE u)) (l:σ.length=N.length) (F:RelV v u)
  (G:h'.Ns s.heap.objs.size (λy=>[(x,u)].lookup y)) (kp:∀b o,s.heap.get? b=XE o->h'.get? b=XE o) (I:0<tk):
  L2.Inv (G_ P w K mg base (N++[x]) (tx q scope s.heap.objs.size lam cd cl) A outer s H) [] (σ++[XE v]) H { s with heap:=h',toks:=tk }:=by
 have a:∀{c:af}{v:Option ae},s.heap.IsCell c v->h'.IsCell c v:=λ{c v}⟨o,ho,r⟩=>⟨o,kp c o ho,r⟩;have m:∀b:af,b∉(G_ P w K mg base (N++[x]) (tx q scope s.heap.objs.size lam cd cl) A outer s H).ex:=λb z=>absurd (show b∈([]:List af) from z) 'd';refine⟨⟨f.mod,D,rfl,rfl,aB _,inj,λy J=>?_,λy c z _=>absurd (show Y2=Y1 from z) 's',λ_=>C,je f.frames,.inr ⟨rfl,rfl⟩,λb z=>absurd z (m b),f.bs,f.bsz,λb _ _=>m b,λb z=>absurd z (m b),f.funs,f.frf⟩,
  rfl,f.bare,Un.kept kp,⟨_,G,λi y L d j M=>?_⟩,λy c g=>?_,f.hok.fresh (aB _),λy c g=>(cells y c g).2,λp O=>absurd (show p∈([]:List (af×Obj)) from O) 'd',f.hok.kept kp,by show(σ++[XE v]).length=(N++[x]).length;simp[l],I⟩
 ·have n:scope.names.lookup y=XE .cell\/scope.names.lookup y=XE .free:=J;rcases t y (n.elim (λz=>.inr (.inl z)) λz=>.inr (.inr z)) with z|z
  ·exact k y z
  ·rw[z,B] at n;rcases n with z|z<;>cases z
 ·have d:(N++[x])[i]?=XE y:=d;by_cases Q:i<N.length
  ·rw[aI Q] at d;rw[aI 'o'] at j;rcases t y M with z|z
   ·obtain⟨u,c,r,R,S⟩:=h i y L d j z;exact⟨u,r,.inr ⟨.inr z,c,R,a S⟩⟩
   ·rw[z] at d;exact absurd (aO d) E
  ·rw[a8 'o'] at d j;have e:i-N.length=0:=by
    have:=(ak.mp d).1;simp at this;lia
   rw[e] at d;rw[show i-σ.length=0 by lia] at j;cases d;cases j;exact⟨u,F,.inl ⟨B,by simp[fj]⟩⟩
 ·obtain⟨⟨v,z⟩,_⟩:=cells y c g;exact⟨v,a z⟩
def zkF(d:oF (k+1) A)(f:o0 P w K mg base A outer s H)
  (m:s.heap.get? lam=XE { cls:=.type "function",data:=.func (cr name qual params body scope cl pm cd ct) }) (n:s.heap.CodeRec cd q) (p:scope.isCoroutine=Y2) (r:scope.isGenerator=Y2) (j:scope.kind=.function) (B:∀x∈scope.names,x.2 ≠ .cell)
  (C:bindArgs (cr name qual params body scope cl pm cd ct) ⟨[u],[]⟩=pure [(x,u)]) (D:∀y,sD scope y->scope.names.lookup y=XE .free\/y=x) (l:scope.names.lookup x=XE .local) (E:x∉N)
  (cells:∀x c,cl.lookup x=XE c->(∃v,s.heap.IsCell c v)/\H c=YP) (inj:∀x y c,cl.lookup x=XE c->cl.lookup y=XE c->x=y) (g:∀x,scope.names.lookup x=XE .free->∃c,cl.lookup x=XE c)
  (a:∀(i:Nat)x v,N[i]?=XE x->σ[i]?=XE (XE v)->scope.names.lookup x=XE .free->∃u c,RelV v u/\cl.lookup x=XE c/\s.heap.IsCell c (XE u)) (h:σ.length=N.length) (F:RelV v u)
  (G:oF k (A.deeper (tx q scope s.heap.objs.size lam cd cl))->PD (G_ P w K mg base (N++[x]) (tx q scope s.heap.objs.size lam cd cl) A outer s H) qD body t)
  (I:oD K H Xa μ σd (σ++[XE v])) (L:oB K H Xa μ O) (M:qW qD K H Xa μ (t σd O) Q):codeAny (ax P w) A (.call (.ref lam) ⟨[u],[]⟩) (CR BO outer P w H s Q E0) s:=by refine zfU d.depth m n p r j B l C (f.mod.nolimit.keeps λb o e=>(f.bs b o e).1) λh' tk R S T=>?_;refine ci ((G (d.deeper _)).out [] _ (σ++[XE v]) H Q (zeL f d.hd j D l E cells inj g a h F S T R) ⟨Xa,μ,σd,O,I,L,M⟩) (λv U ⟨W,X,J,Y,z⟩=>?_) λe U z=>z;exact⟨⟨W,X,J.os,J.bare,J.base,J.hok,Y,z⟩,J.tk⟩
end
end DL
namespace DL
open PySem L2 PyProof.Rows
def minGo(tE:DE)(σ:Sg):List D->D->Int->Ow->R D
 |[],b,_,O=>.ok b O
 | x::xs,b,k,O=>match tE (σ++[XE x]) O with
  |.ok (.int j) O1=>if j<k then minGo tE σ xs x j O1 else minGo tE σ xs b k O1
  |_=>.bad
def DB(tE:DE)(σ:Sg)(O:Ow):List D->R D
 |[]=>.bad
 | x::xs=>match tE (σ++[XE x]) O with
  |.ok (.int j) O1=>minGo tE σ xs x j O1
  |_=>.bad
def DP(Pt iT:Nat)(te tE:DE):DE:=λσ O=>match σ[iT]? with
 | some (XE (.tab p))=>if p=Pt then (te σ O).bnd λx O1=>match x with
  |.lst ds=>DB tE σ O1 ds
  |_=>.bad else .bad
 |_=>.bad
def oD.snoc{K:aj}{H:Hp}{Xa μ:List af}{σ:Sg}{a:L2.St}{d:D}{v:V}(e:oD K H Xa μ σ a)(q:Xe K H Xa μ d v):oD K H Xa μ (σ++[XE d]) (a++[XE v]):=by
 refine⟨by simp[e.len],λi x h=>?_⟩;have j:=e.len;by_cases b:i<σ.length
 ·rw[aI b] at h;obtain⟨w,c,f⟩:=e.at_ i x h;exact⟨w,by rw[aI 'o'];exact c,f⟩
 ·rw[a8 'o'] at h;have g:i-σ.length=0:=by
   have:=(ak.mp h).1;simp at this;lia
  rw[g] at h;cases h;exact⟨v,by rw[a8 'o',show i-a.length=0 by lia];rfl,q⟩
section
variable{X:Cx}{Ex:Nat->Hp->Prop}{Xa:List af}{σ:Sg}{b_:L2.St}{tE:DE}{lam cc:af}{lo:Obj}
def K_(X:Cx)(lam:af)(lo:Obj)(cc:af)(Xa:List af)(σ:Sg)(b_:L2.St)(tE:DE):Prop:=
 ∀(Xd:List (af×Obj))(s:ag)(H:Hp)(μ:List af)(O:Ow)(d:D)(v:V)(u:ae)(Q:VK),L2.Inv X Xd b_ H s->(lam,lo)∈Xd->(∃φ,H cc=XE (.ext φ)/\∀h:aR,φ h->∃q,h.CodeRec (.ref cc) q)->oD X.K H Xa μ σ b_->oB X.K H Xa μ O->Xe X.K H Xa μ d v->RelV v u->
  qW qD X.K H Xa μ (tE (σ++[XE d]) O) Q->aq (ax X.prog X.w) X.A.in1 (call (.ref lam) [u]) (EP X Xd b_ Q) (λ_ _=>False) s
def YD{K:aj}{H:Hp}{μ:List af}{d:D}{O:Ow}:qW qD K H Xa μ (.ok d O) (λv a=>∃b,Ext H μ a b/\oB K a Xa b O/\Xe K a Xa b d v):=λv f e x c r=>⟨e,x,c,r⟩
def Tp{K:aj}{H H':Hp}{μ d:List af}{O:Ow}(c:oB K H Xa μ O)(x:Ext H μ H' d){a:aR->Prop}(h:H cc=XE (.ext a)):H' cc=XE (.ext a):=by refine x.kept cc _ h (λm=>?_) (by intro g z;cases z);obtain⟨k,f,e⟩:=cE.mp m;obtain⟨i,j,_,b,_⟩:=c.at_ k cc (by rw[ao f,e]);rw[h] at b;cases b
variable{l:af}{vs:List V}{ds:List D}{Q:VK}{Xd:List (af×Obj)}{E:ae->ag->Prop}
def TU{a S:af}{c oI:Obj}{j:Nat}{s:ag}{H:Hp}{μ:List af}{O:Ow}{d:D}{R:ae->ae->ag->Prop}(pQ:X.calm=Y1)(hK:K_ X lam lo cc Xa σ b_ tE)
  (I:L2.Inv X ((S,c)::(a,oI)::(lam,lo)::Xd) b_ H s) (BK:sS X ((S,c)::(lam,lo)::Xd) H a) (hl:l≠a) (i:s.heap.IsListIter a l j) (la:LstAt X.K H Xa μ l vs) (dd:oC X.K H Xa μ ds vs) (ev:oD X.K H Xa μ σ b_) (cl:oB X.K H Xa μ O) (uJ:∃F,H cc=XE (.ext F)/\∀h:aR,F h->∃q,h.CodeRec (.ref cc) q)
  (G:ds[j]?=XE d) {k:Int} {O1:Ow} (hE:tE (σ++[XE d]) O=.ok (.int k) O1)
  (h:∀(v:ae)(tk:Tok)(f:Obj)(s':ag)(H':Hp)(m:List af)(x:V),L2.Inv X ((S,c)::(a,f)::(lam,lo)::Xd) b_ H' s'->s'.heap.IsListIter a l (j+1)->Ext H μ H' m->oB X.K H' Xa m O1->RelV x v->Xe X.K H' Xa m d x->R v (.int k tk) s') {E2:ae->ag->Prop}:
  aq (ax X.prog X.w) X.A.in1 (pyNext (.ref a)) (λo s1=>∃v,o=XE v/\aq (ax X.prog X.w) X.A.in1 (call (.ref lam) [v]) (λr n=>R v r n) (λ_ _=>False) s1) E2 s:=by
 obtain⟨g,J,pl,hz⟩:=I.list la.sq;have W:=j7 (prog:=X.prog) (w:=X.w) (A:=X.A.in1) (I.ok.hd pQ) a l hl g.toArray;have L:ds.length=g.length:=by rw[dd.length,J.length]
 have hj:j<g.length:=by have:=(ak.mp G).1;lia
 refine wT I (W.item j _ _ _ ⇑hj ⟨i,pl.isList⟩ λv M t hP xY rZ qt=>?_);have hv:g[j]?=XE v:=⇑hP
 obtain⟨N,P,f2,f3,f4,f5⟩:=BK;have I0:L2.Inv X ((S,c)::(lam,lo)::Xd) b_ H s:=I.pins_of λp hp=>I.pin p (aC _ (by
  rcases ar.mp hp with rfl|hp
  ·exact .head _
  ·exact .tail _ (.tail _ hp)))
 have y:L2.Inv X ((S,c)::(lam,lo)::Xd) b_ H { s with heap:=M,toks:=t }:=I0.turned (t':=t) (it:=a) (λb o hb e=>rZ b o ⇑hb e) N P f3 f4 f5;obtain⟨f,N7,BH,T⟩:=id xY.1;have I2:L2.Inv X ((S,c)::(a,f)::(lam,lo)::Xd) b_ H { s with heap:=M,toks:=t }:=y.pins_of λp hp=>by
  rcases ar.mp hp with rfl|hp
  ·exact y.pin _ (aC _ (.head _))
  ·rcases ar.mp hp with rfl|hp
   ·exact⟨N7,N,P,f2,λv z=>by rw[T] at z;cases z⟩
   ·exact y.pin p (aC _ (.tail _ hp))
 obtain⟨x,hx,U⟩:=dd.get G;obtain⟨u,Y,Z⟩:∃u,g[j]?=XE u/\RelV x u:=J.get hx;rw[hv] at Y;cases Y;refine⟨v,rfl,ci (hK _ _ H μ O d x v (λv B=>∃C,Ext H μ B C/\oB X.K B Xa C O1/\Xe X.K B Xa C (.int k) v) I2 (.tail _ (.tail _ (.head _))) uJ ev cl U Z (by rw[hE];exact YD)) (λr n ⟨v2,H2,I3,r2,pW,x2,c2,d2⟩=>?_) λ_ _ z=>z⟩;unfold Xe at d2;subst d2;obtain⟨t2,rfl⟩:=r2;exact h v t2 f n H2 pW x I3 ⟨f,(I3.pin (a,f) (aC _ (.tail _ (.head _)))).1,BH,T⟩ x2 c2 Z (U.ext x2)
def ZM{a S:af}(pQ:X.calm=Y1)(hK:K_ X lam lo cc Xa σ b_ tE)(hl:l≠a)(A1:S≠a){s0:ag}:
  ∀(r j:Nat)(s:ag)(H:Hp)(μ:List af)(O:Ow)(b:D)(N:V)(m:ae)(f:Int)(k:Tok)(c:Nat)(oI:Obj),ds.length-j=r->j<=ds.length->
   L2.Inv X ((S,seqObj "list" #[m,.int f k] c)::(a,oI)::(lam,lo)::Xd) b_ H s->sS X ((lam,lo)::Xd) H a->sS X ((lam,lo)::Xd) H S->s.heap.IsListIter a l j->LstAt X.K H Xa μ l vs->oC X.K H Xa μ ds vs->oD X.K H Xa μ σ b_->oB X.K H Xa μ O->(∃L,H cc=XE (.ext L)/\∀h:aR,L h->∃q,h.CodeRec (.ref cc) q)->
   RelV N m->Xe X.K H Xa μ b N->qW Ex X.K H Xa μ (minGo tE σ (ds.drop j) b f O) Q->
   codeAny (ax X.prog X.w) X.A (.builtin "min.loop" ⟨[.ref a,.ref lam,.ref S],[]⟩) (λr s'=>match r with|.ok (.ret u)=>EP X Xd b_ Q u s'|_=>False) s:=by
 have vp:(toString "min" ++ toString ".loop":String) = "min.loop":=by decide
 intro r
 induction r with
 | zero=>
  intro j s H μ O b N m f k c oI hr hj I n fS M la dd ev cl uJ rb db q;have GI:j=ds.length:=by lia
  have nS:=I.pin (S,seqObj "list" #[m,.int f k] c) (aC _ (.head _));obtain⟨e_,rv,pl,hz⟩:=I.list la.sq;have W:=j7 (prog:=X.prog) (w:=X.w) (A:=X.A.in1) (I.ok.hd pQ) a l hl e_.toArray;have hlen:ds.length=e_.length:=by rw[dd.length,rv.length]
  refine gf ez ?_;rw[eT bG _];show aq _ X.A.in1 (seqItems? (.ref S) >>= _) _ _ _;refine aa (cK nS.1 rfl ?_);show aq _ X.A.in1 (tryCatch (pyNext (.ref a)) _ >>= _) _ _ _;refine aa (d9 (wT I (W.done _ _ _ ⟨by rw[show e_.toArray.size=j by simp;lia];exact M,pl.isList⟩ λh' Ct rZ qt=>?_)));have I0:L2.Inv X ((lam,lo)::Xd) b_ H s:=I.pins_of λp hp=>I.pin p (aC _ (.tail _ (.tail _ hp)));obtain⟨f0,f1,f2,f3,f4,f5⟩:=n;have I1:L2.Inv X ((lam,lo)::Xd) b_ H { s with heap:=h',toks:=Ct }:=I0.turned (t':=Ct) (it:=a) (λb o Z e=>rZ b o ⇑Z e) f0 f1 f3 f4 f5;have BJ:=rZ S _ ⇑A1 nS.1;have s1:=fh h' S (bH λ_=>(#[]:Array ae));obtain⟨g0,g1,g2,g3,g4,g5⟩:=fS;show aq _ X.A.in1 (updateSeq S (λ_=>#[]) >>= _) _ _ _;refine aa ?_;refine fD BJ rfl (aa (eu (am ?_)));have C:=I1.turned (h':=h'.update S (bH λ_=>(#[]:Array ae))) (t':=Ct) (it:=S) (λb o Z e=>(s1.2 b Z).trans e) g0 g1 g3 g4 g5;have I3:L2.Inv X Xd b_ H _:=C.pins_of λp hp=>C.pin p (aC _ (.tail _ hp));rw[GI,nD] at q;exact⟨N,H,I3,rb,post.here q cl db⟩
 | succ r ih=>
  intro j s H μ O b N m f k c oI hr hj I n fS M la dd ev cl uJ rb db q;have qm:j<ds.length:=by lia
  have nS:=I.pin (S,seqObj "list" #[m,.int f k] c) (aC _ (.head _));have nI:=I.pin (a,oI) (aC _ (.tail _ (.head _)));obtain⟨d,hd⟩:∃d,ds[j]?=XE d:=⟨_,ao qm⟩;rw[cm qm,(ak.mp hd).2] at q;unfold minGo at q;split at q
  case h_2=>exact ai q
  rename_i g O1 hE;refine gf ez ?_;rw[eT bG _];show aq _ X.A.in1 (seqItems? (.ref S) >>= _) _ _ _;refine aa (cK nS.1 rfl ?_);show aq _ X.A.in1 (tryCatch (pyNext (.ref a)) _ >>= _) _ _ _;have OH:sS X ((S,seqObj "list" #[m,.int f k] c)::(lam,lo)::Xd) H a:=⟨n.1,n.2.1,n.2.2.1,n.2.2.2.1,n.2.2.2.2.1,λp hp=>by
   rcases aQ.mp hp with hp|hp
   ·exact n.2.2.2.2.2 p (bS _ hp)
   ·rcases ar.mp hp with rfl|hp
    ·exact A1
    ·exact n.2.2.2.2.2 p (aC _ hp)⟩
  refine aa (d9 (ci (TU pQ hK I OH hl M la dd ev cl uJ hd hE (R:=λv u s'=>∃tk y T d_ x,u=.int g tk/\L2.Inv X ((S,seqObj "list" #[m,.int f k] c)::(a,y)::(lam,lo)::Xd) b_ T s'/\s'.heap.IsListIter a l (j+1)/\Ext H μ T d_/\oB X.K T Xa d_ O1/\RelV x v/\Xe X.K T Xa d_ d x)
   λv tk y s' T d_ x a1 a2 a3 a4 a5 a6=>⟨tk,y,T,d_,x,rfl,a1,a2,a3,a4,a5,a6⟩) (λo s1 ho=>?_) λ_ _ z=>z))
  obtain⟨v,rfl,sO⟩:=ho;show aq _ X.A.in1 (tryCatch (holding [v] (call (.ref lam) [v])) _ >>= _) _ _ _;refine aa (d9 (bL (ci sO (λu F he=>?_) λ_ _ hF=>hF.elim)));obtain⟨B,y,G,pW,x,rfl,C,AY,U,BM,rx,dx⟩:=he;have Y:=C.pin (S,seqObj "list" #[m,.int f k] c) (aC _ (.head _));have Nq:=C.pin (a,y) (aC _ (.tail _ (.head _)));have J9:=la.mv U.mv (hid':=Xa);have xf:=dd.ext U;have G5:=ev.ext U;have GS:∃L,G cc=XE (.ext L)/\∀h:aR,L h->∃q,h.CodeRec (.ref cc) q:=let ⟨L,h1,h2⟩:=uJ;⟨L,Tp cl U h1,h2⟩;have Xm:sS X ((lam,lo)::Xd) G a:=⟨Nq.2.1,n.2⟩;have J:sS X ((lam,lo)::Xd) G S:=⟨Y.2.1,fS.2⟩;have q2:=post.ext q U;show aq _ X.A.in1 (tryCatch (holding [v,.int g B] (richCompare .Lt (.int g B) (.int f k) >>= _)) _ >>= _) _ _ _;refine aa (d9 (bL (aa (CmpOf.ints_lt (prog:=X.prog) (w:=X.w) (A:=X.A.in1) (P:=λ(i:Nat)v=>∃t,v=.int (if i=0 then g else f) t) (λi=>if i=0 then g else f) (λi v h=>h) 0 1 _ _ _ _ _ ⟨B,rfl⟩ ⟨k,rfl⟩ ?_))));refine aa (bL (cQ ?_));refine aa (eu (am ?_));by_cases tY:g<f
  ·have s1:=fh F.heap S (bH λ_=>#[v,.int g B]);obtain⟨c2,um⟩:∃c2,(F.heap.update S (bH λ_=>#[v,.int g B])).get? S=XE (seqObj "list" #[v,.int g B] c2):=⟨_,get?_update_seq Y.1 λ_=>#[v,.int g B]⟩;rw[JU tY] at q2;simp only[nN,tY,decide_true,if_true,bZ,if_false];refine aa ?_;refine fD Y.1 rfl (aa (eu ?_));rw[vp];have I3:L2.Inv X ((a,y)::(lam,lo)::Xd) b_ G F:=C.pins_of λp hp=>C.pin p (aC _ (.tail _ hp));have I4:L2.Inv X ((a,y)::(lam,lo)::Xd) b_ G { F with heap:=F.heap.update S (bH λ_=>#[v,.int g B]),toks:=F.toks }:=I3.turned (t':=F.toks) (it:=S) (λb o Z e=>(s1.2 b Z).trans e) J.1 J.2.1 J.2.2.2.1 J.2.2.2.2.1 (λp hp=>by
    rcases aQ.mp hp with hp|hp
    ·exact J.2.2.2.2.2 p (bS _ hp)
    ·rcases ar.mp hp with rfl|hp
     ·exact A1.symm
     ·exact J.2.2.2.2.2 p (aC _ hp))
   have I5:L2.Inv X ((S,seqObj "list" #[v,.int g B] c2)::(a,y)::(lam,lo)::Xd) b_ G _:=I4.pins_of λp hp=>by
    rcases ar.mp hp with rfl|hp
    ·exact⟨um,Y.2.1,Y.2.2.1,Y.2.2.2.1,λv z=>nomatch z⟩
    ·exact I4.pin p (aC _ hp)
   obtain⟨oq,NZ,NY,NX⟩:=id AY;exact am ⟨fN bG _,ih (j+1) _ G pW O1 d x v g B c2 y 'o' qm I5 Xm J ⟨oq,(s1.2 a A1.symm).trans NZ,NY,NX⟩ J9 xf G5 BM GS rx dx q2⟩
  ·rw[J5 tY] at q2;simp only[nN,tY,decide_false,bZ,if_false,if_true];refine aa (eu ?_);rw[vp];exact am ⟨fN bG _,ih (j+1) F G pW O1 b N m f k c y 'o' qm C Xm J AY J9 xf G5 BM GS rb (db.ext U) q2⟩
def zfD{s:ag}{H:Hp}{μ:List af}{O:Ow}(pQ:X.calm=Y1)(hK:K_ X lam lo cc Xa σ b_ tE)(I:L2.Inv X ((lam,lo)::Xd) b_ H s)(W:LstAt X.K H Xa μ l vs)(dd:oC X.K H Xa μ ds vs)(ev:oD X.K H Xa μ σ b_)(cl:oB X.K H Xa μ O)
  (uJ:∃J,H cc=XE (.ext J)/\∀h:aR,J h->∃q,h.CodeRec (.ref cc) q) (q:qW Ex X.K H Xa μ (DB tE σ O ds) Q):aq (ax X.prog X.w) X.A (call (.builtin "min") [.ref l] [(gT "key",.ref lam)]) (EP X Xd b_ Q) E s:=by
 have vp:(toString "min" ++ toString ".loop":String) = "min.loop":=by decide
 obtain⟨e_,rv,pl,hz⟩:=I.list W.sq;have WY:=pl.isList;obtain⟨ol,EJ,_⟩:=id WY;have Y:l<s.heap.objs.size:=aK EJ;cases ds with
 |nil=>exact ai q
 |cons d t5=>
 have q:qW Ex X.K H Xa μ (match tE (σ++[XE d]) O with|.ok (.int j) L=>minGo tE σ t5 d j L|_=>.bad) Q:=q;split at q
 case h_2=>exact ai q
 rename_i g L hE;refine kmb_tree nE mW mX (kmb_min_key _ _) ?_;show aq _ X.A.in1 (fz "min" ["key", "default"] 0 ⟨[],[(gT "key",.ref lam)]⟩ >>= _) _ _ s;refine aa (k9 (show fz "min" ["key", "default"] 0 ⟨[],[(gT "key",.ref lam)]⟩=pure [XE (.ref lam),YP] from rfl) ?_);refine aa (am ?_);refine aa (eV WY ?_);refine aa (iS ?_ (bX _));rw[vp];generalize n:s.heap.objs.size=a at *;generalize Z:s.heap.push { cls:=.type "list_iterator",data:=.fields #[.ref l,.int 0 0] } = h1 at *;have hS:h1.objs.size=a+1:=by rw[<- Z,size_push',n]
 generalize hSS:h1.objs.size=S at *;have WZ:l≠a:=bq Y;have M:S≠a:=by rw[hS];exact dO (fi _)
 have kp:∀b o,s.heap.get? b=XE o->(h1.push (seqObj "list" #[] 0)).get? b=XE o:=λb o e=>ah _ (by rw[<- Z];exact ah _ e);have gI:(h1.push (seqObj "list" #[] 0)).get? a=XE { cls:=.type "list_iterator",data:=.fields #[.ref l,.int 0 0] }:=ah _ (by rw[<- Z,<- n];exact aM _ rfl);have gS:(h1.push (seqObj "list" #[] 0)).get? S=XE (seqObj "list" #[] 0):=by rw[<- hSS];exact aM _ rfl
 have c:sS X ((lam,lo)::Xd) H a:=I.fpOk (ir n) (I.hok.fresh (ir n));have N:sS X ((lam,lo)::Xd) H S:=I.fpOk (by rw[hS,n];exact fU _) (I.hok.fresh (by rw[hS,n];exact fU _));have I1:L2.Inv X ((lam,lo)::Xd) b_ H { s with heap:=h1.push (seqObj "list" #[] 0),toks:=s.toks }:=I.kept (t':=s.toks) kp;have I2:L2.Inv X ((S,seqObj "list" #[] 0)::(a,{ cls:=.type "list_iterator",data:=.fields #[.ref l,.int 0 0] })::(lam,lo)::Xd) b_ H { s with heap:=h1.push (seqObj "list" #[] 0),toks:=s.toks }:=I1.pins_of λp hp=>by
  rcases ar.mp hp with rfl|hp
  ·exact⟨gS,N.1,N.2.1,N.2.2.1,λv z=>nomatch z⟩
  ·rcases ar.mp hp with rfl|hp
   ·exact⟨gI,c.1,c.2.1,c.2.2.1,λv z=>nomatch z⟩
   ·exact I1.pin p (aC _ hp)
 refine am ⟨fN bG _,?_⟩;refine eL (R:=λr t=>match r with|.ok (.ret u)=>EP X Xd b_ Q u t|_=>False) ?_ (λr t h=>by
  cases r with
  |error e=>exact h.elim
  |ok f=>cases f<;>first|exact h|exact h.elim)
 refine gf ez ?_;rw[eT bG _];show aq _ X.A.in1 (seqItems? (.ref _) >>= _) _ _ _;refine aa (cK gS rfl ?_);show aq _ X.A.in1 (tryCatch (pyNext (.ref a)) _ >>= _) _ _ _;have OH:sS X ((S,seqObj "list" #[] 0)::(lam,lo)::Xd) H a:=⟨c.1,c.2.1,c.2.2.1,c.2.2.2.1,c.2.2.2.2.1,λp hp=>by
  rcases aQ.mp hp with hp|hp
  ·exact c.2.2.2.2.2 p (bS _ hp)
  ·rcases ar.mp hp with rfl|hp
   ·exact M
   ·exact c.2.2.2.2.2 p (aC _ hp)⟩
 refine aa (d9 (ci (TU pQ hK I2 OH WZ (j:=0) ⟨_,gI,rfl,rfl⟩ W dd ev cl uJ rfl hE (R:=λv u t=>∃tk i y C x,u=.int g tk/\L2.Inv X ((S,seqObj "list" #[] 0)::(a,i)::(lam,lo)::Xd) b_ y t/\t.heap.IsListIter a l (0+1)/\Ext H μ y C/\oB X.K y Xa C L/\RelV x v/\Xe X.K y Xa C d x)
  λv tk i t y C x a1 a2 a3 a4 a5 a6=>⟨tk,i,y,C,x,rfl,a1,a2,a3,a4,a5,a6⟩) (λo s1 ho=>?_) λ_ _ z=>z))
 obtain⟨v,rfl,sO⟩:=ho;show aq _ X.A.in1 (tryCatch (holding [v] (call (.ref lam) [v])) _ >>= _) _ _ _;refine aa (d9 (bL (ci sO (λu F he=>?_) λ_ _ hF=>hF.elim)));obtain⟨k,i,P,pW,x,rfl,T,AY,G,BM,rx,dx⟩:=he;have B:=T.pin (S,seqObj "list" #[] 0) (aC _ (.head _));have Nq:=T.pin (a,i) (aC _ (.tail _ (.head _)));have s1:=fh F.heap S (bH λ_=>#[v,.int g k]);obtain⟨U,um⟩:∃U,(F.heap.update S (bH λ_=>#[v,.int g k])).get? S=XE (seqObj "list" #[v,.int g k] U):=⟨_,get?_update_seq B.1 λ_=>#[v,.int g k]⟩;show aq _ X.A.in1 (updateSeq S (λ_=>#[v,.int g k]) >>= _) _ _ _;refine aa ?_;refine fD B.1 rfl ?_;rw[vp];have m:sS X ((lam,lo)::Xd) P S:=⟨B.2.1,N.2⟩;have I4:L2.Inv X ((a,i)::(lam,lo)::Xd) b_ P F:=T.pins_of λp hp=>T.pin p (aC _ (.tail _ hp));have I5:=I4.turned (h':=F.heap.update S (bH λ_=>#[v,.int g k])) (t':=F.toks) (it:=S) (λb o hb e=>(s1.2 b hb).trans e) m.1 m.2.1 m.2.2.2.1 m.2.2.2.2.1 (λp hp=>by
  rcases aQ.mp hp with hp|hp
  ·exact m.2.2.2.2.2 p (bS _ hp)
  ·rcases ar.mp hp with rfl|hp
   ·exact M.symm
   ·exact m.2.2.2.2.2 p (aC _ hp))
 have I6:L2.Inv X ((S,seqObj "list" #[v,.int g k] U)::(a,i)::(lam,lo)::Xd) b_ P _:=I5.pins_of λp hp=>by
  rcases ar.mp hp with rfl|hp
  ·exact⟨um,B.2.1,B.2.2.1,B.2.2.2.1,λv z=>nomatch z⟩
  ·exact I5.pin p (aC _ hp)
 obtain⟨oq,NZ,NY,NX⟩:=id AY;exact am ⟨fN bG _,ZM (ds:=d::t5) (vs:=vs) pQ hK WZ M (s0:=s) _ 1 _ P pW L d x v g k U i rfl (Nat.succ_le_succ (bX _)) I6 ⟨Nq.2.1,c.2⟩ m ⟨oq,(s1.2 a M.symm).trans NZ,NY,NX⟩ (W.mv G.mv (hid':=Xa)) (dd.ext G) (ev.ext G) BM (let ⟨J,h1,h2⟩:=uJ;⟨J,Tp cl G h1,h2⟩) rx dx (post.ext q G)⟩
def zhq(hr:oF (k+2) X.A)(pQ:X.calm=Y1)(L:uf X.mg X.base c Pt)(sh:X.env.code=.ref c)(b:PX X.env.scope scope x)(uW:defaultsOf params X.env=([],[]))
  (Dc:∀(name n:au)(cl:List (au×af))(pm o ct u:ae),bindArgs (cr name n params body scope cl pm o ct) ⟨[u],[]⟩=pure [(x,u)]) (AQ:x∉X.N) (he:PD X Ex e te)
  (hE:∀(q:au)(lam:af)(o:ae)(cl:List (au×af))(A:aX)(outer:List Env)(s:ag)(H:Hp),oF k (A.deeper (tx q scope s.heap.objs.size lam o cl))->PD (G_ X.prog X.w X.K X.mg X.base (X.N++[x]) (tx q scope s.heap.objs.size lam o cl) A outer s H) qD body tE)
  (hg:Gl X "min") (hm:X.mg "min" = YP) (F:aF [e] X.env=[(Y2,eval e X.env)]:=by rfl):PD X Ex (.Call (.Name "min" pn) [e] [⟨XE (gT "key"),.Lambda params body scope pl,kq⟩] pp) (DP Pt iT te tE):=by
 refine⟨?_⟩;rintro Xd s b_ H Q I ⟨Xa,μ,σ,O,ev,c1,q⟩;obtain⟨ti,q⟩:oQ H Pt/\qW Ex X.K H Xa μ ((te σ O).bnd λx f=>match x with|.lst ds=>DB tE σ f ds|_=>.bad) Q:=by
  unfold DP at q;split at q
  ·rename_i p hp;by_cases G:p=Pt
   ·rw[JU G] at q;obtain⟨v,_,d⟩:=ev.at_ iT _ hp;unfold Xe at d;rw[G] at d;exact⟨d.2,q⟩
   ·rw[J5 G] at q;exact ai q
  ·exact ai q
 have J:∀{cells:List (au×af)},(∀y∈scope.names,y.2=.free->∃c,cells.lookup y.1=XE c)->∀x c,(rX cells scope.names []).lookup x=XE c->cells.lookup x=XE c:=λ{cells}i x c e=>by
  rcases FK _ _ (bu e) with m|⟨m,z⟩
  ·cases m
  ·obtain⟨c',xy⟩:=i (x,.free) m rfl;have um:cells.lookup x=XE c':=xy;rw[um] at z ⊢;rw[z];rfl
 have i:∀y∈scope.names,y.2=.free->∃c,X.env.cells.lookup y.1=XE c:=λy M hf=>I.ok.has y.1 (b.frees y M hf);have zo:∀x,scope.names.lookup x=XE .free->∃c,(rX X.env.cells scope.names []).lookup x=XE c:=λx e=>by
  have m:=FI (cells:=X.env.cells) scope.names [] (bu e);exact⟨_,yL (FU _ _ b.nd 'd' (by intro p hp;cases hp)) m⟩
 have EM:∀x,scope.names.lookup x=XE .free->X.env.scope.names.lookup x=XE .cell\/X.env.scope.names.lookup x=XE .free:=λx e=>b.frees (x,.free) (bu e) rfl;have rY:∀y,sD scope y->scope.names.lookup y=XE .free\/y=x:=λy M=>by
  rcases M with z|z|z
  ·exact .inr (b.loc _ (bu z) rfl)
  ·exact absurd rfl (b.cell _ (bu z))
  ·exact .inl z
 refine fv (Bk I hg hm Iq ?_ 's' 's');refine callWith_kw ?_ (by rw[F];rfl) (by rw[F];rfl);rw[F];show aq _ _ (spliced ((Y2,eval e X.env)::backTo pp [])) _ _ s;refine jI (pS (he.out Xd s b_ H _ I (rd.go (Q1:=λP h=>∃j f a,oD X.K h Xa a σ b_/\Ext H μ h a/\oB X.K h Xa a f/\Xe X.K h Xa a j P/\qW Ex X.K h Xa a (match j with|.lst ds=>DB tE σ f ds|_=>.bad) Q) ev c1 q λj f P h a R S T r1 U=>⟨j,f,a,R,S,T,r1,U⟩)) λu1 s1 ⟨P,h,I1,W,j,f,a,R,S,T,Y,U⟩=>?_);refine j4 ?_;refine kws_cons (Rz I1 L sh (S.tab _ ti) (MY i) uW λlam o zp h' tk H' I3 ext cells Kj x9 qQ uw=>?_);refine kws_nil ?_;obtain⟨cc,φ,rfl,uJ,NK⟩:=uw;have OI:=R.ext (ext a);have Z:=cells Xa a f T;have q3:=post.ext U (ext a);have Xs:=Y.ext (ext a);cases j with
 | lst ds=>
  unfold Xe at Xs;obtain⟨l,vs,rfl,la,dd⟩:=Xs;cases W;have B:sS X Xd H' lam:=I1.fpOk x9 Kj;have I4:L2.Inv X ((lam,_)::Xd) b_ H' { s1 with heap:=h',toks:=tk }:=I3.pins_of λp hp=>by
   rcases ar.mp hp with rfl|hp
   ·exact⟨qQ,B.1,B.2.1,B.2.2.1,λv z=>nomatch z⟩
   ·exact I3.pin p (aC _ hp)
  refine zfD (cc:=cc) pQ ?_ I4 la dd OI Z ⟨φ,uJ,NK⟩ q3;intro Wv s5 H5 Aa O5 d5 v5 u5 Q5 g Gz C_ Kx cl5 dx5 rx5 q5;obtain⟨φ5,C_,NJ⟩:=C_;obtain⟨qn,NW⟩:=NJ _ (g.hok cc _ C_).1;have hg5:=(g.pin _ (aC _ Gz)).1;refine jc (eL (zkF (k:=k) (t:=tE) (Xa:=Xa) (μ:=Aa) (σd:=σ++[XE d5]) (O:=O5) (Q:=Q5) (N:=X.N) (σ:=b_) hr.in1 g.env0.in1 hg5 NW b.co b.gen b.kind b.cell (Dc _ _ _ _ _ _ _) rY b.one AQ (Vu g Un.refl (J i)) (Tw g (J i)) zo (Va g Un.refl (J i) zo EM) g.len rx5 (hE _ _ _ _ _ _ _ _) (Kx.snoc dx5) cl5 q5) λr s8 C=>?_);cases r with
  |error e=>exact C.elim
  | ok B=>
   cases B with
   |ret u=>exact g.after C
   |next=>exact ai C
   |brk=>exact ai C
   |cont=>exact ai C
 |_=>exact ai q3
end
end DL
namespace DL
open PySem L2
mutual
def nm:D->Bool
 |.map _ _=>Y2
 |.dct=>Y2
 |.exn _=>Y2
 |.lst ds=>nms ds
 |.tup ds=>nms ds
 |_=>Y1
def nms:List D->Bool
 |[]=>Y1
 |d::ds=>nm d&&nms ds
end
section
variable{K:aj}{H:Hp}{Xa μ:List af}{p:af}{i_:List (Key×V)}
def PJ(b:H p=XE (.frz o (.dK i_)))(h:Rd H a u)(c:∀i_,u ≠ .dK i_)(d:∀o v,u ≠ .frz o v):a≠p:=by
 rintro rfl;rcases h with h|⟨o,h⟩
 ·rw[b] at h;cases h;exact d _ _ rfl
 ·rw[b] at h;cases h;exact c _ rfl
mutual
theorem Xe.hide(b:H p=XE (.frz o (.dK i_))):∀{d:D}{v:V},nm d=Y1->Xe K H Xa μ d v->Xe K H (p::Xa) μ d v
 |.non,_,_,h=>h
 |.bl _,_,_,h=>h
 |.int _,_,_,h=>h
 |.str _,_,_,h=>h
 | .lst ds,v,n,h=>by
  unfold Xe at h ⊢;obtain⟨a,c,r,l,q⟩:=h;refine⟨a,c,r,l.imp (λz=>⟨z.1,λm=>?_,z.2.2⟩) id,oC.hide b n q⟩;rcases ar.mp m with e|m
  ·exact PJ b z.1 (λ_ z=>nomatch z) (λ_ _ z=>nomatch z) e
  ·exact z.2.1 m
 | .tup ds,v,n,h=>by
  unfold Xe at h ⊢;obtain⟨a,c,r,l,q⟩:=h;refine⟨a,c,r,l.imp (λz=>⟨z.1,λm=>?_,z.2.2⟩) id,oC.hide b n q⟩;rcases ar.mp m with e|m
  ·exact PJ b z.1 (λ_ z=>nomatch z) (λ_ _ z=>nomatch z) e
  ·exact z.2.1 m
 |.own k,v,_,h=>by unfold Xe at h ⊢;exact h
 |.dct,_,n,_=>by cases n
 |.exn _,_,n,_=>by cases n
 |.tab P,v,_,h=>by unfold Xe at h ⊢;exact h
 |.map _ _,_,n,_=>by cases n
 |.adr _,_,_,h=>h
theorem oC.hide(a:H p=XE (.frz o (.dK i_))):∀{ds:List D}{vs:List V},nms ds=Y1->oC K H Xa μ ds vs->oC K H (p::Xa) μ ds vs
 |[],_,_,h=>h
 | d::ds,vs,n,h=>by
  unfold oC at h ⊢;unfold nms at n;obtain⟨b,c⟩:=jn.mp n;obtain⟨v,r,e,f,g⟩:=h;exact⟨v,r,e,Xe.hide a b f,oC.hide a c g⟩
end
def oB.hide(d:H p=XE (.frz o (.dK i_)))(n:O.all nms=Y1)(c:oB K H Xa μ O):oB K H (p::Xa) μ O:=by
 refine⟨c.len,c.nd,λa m z=>?_,λa m=>?_,λk a e=>?_⟩
 ·rcases ar.mp z with e|z
  ·obtain⟨k,i,j⟩:=cE.mp m;obtain⟨f,g,_,b,_⟩:=c.at_ k a (by rw[ao i,j]);rw[e,d] at b;cases b
  ·exact c.nh a m z
 ·rcases ar.mp m with e|m
  ·rw[e,d];simp
  ·exact c.ht a m
 ·obtain⟨f,g,h,b,l⟩:=c.at_ k a e;exact⟨f,g,h,b,l.hide d (ay.mp n f (aO h))⟩
def oD.put(e:oD K H Xa μ σ b_)(h:b_[i]?=XE (XE v))(q:Xe K H Xa μ d v):oD K H Xa μ (σ.set i (XE d)) b_:=by
 refine⟨by simp[e.len],λj x g=>?_⟩;by_cases a:i=j
 ·subst a;have b:i<σ.length:=by have:=(ak.mp g).1;simpa using this
  rw[aY b] at g;cases g;exact⟨v,h,q⟩
 ·rw[aZ a] at g;exact e.at_ j x g
def oD.forget(e:oD K H Xa μ σ b_)(o:Option V):oD K H Xa μ (σ.set i YP) (b_.set i o):=by
 refine⟨by simp[e.len],λj x g=>?_⟩;by_cases a:i=j
 ·subst a;have b:i<σ.length:=by have:=(ak.mp g).1;simpa using this
  rw[aY b] at g;cases g
 ·rw[aZ a] at g;obtain⟨v,c,d⟩:=e.at_ j x g;exact⟨v,by rw[aZ a];exact c,d⟩
def EG(k:DK)(ks:List DK):Bool:=ks.any λj=>decide (j=k)
def vk(k:DK)(ks:List DK):List DK:=ks.filter λj=>decide (j≠k)
def yH(k:DK):List DK->List D->List D
 |j::ks,d::ds=>if j=k then yH k ks ds else d::yH k ks ds
 |_,_=>[]
theorem SQ:∀{a:List DK}{ds:List D}{vs:List V},a.length=vs.length->oC K H Xa μ ds vs->∃b,Ao ((a.map kD).zip vs) (kD k)=((vk k a).map kD).zip b/\(vk k a).length=b.length/\oC K H Xa μ (yH k a ds) b
 |[],ds,vs,_,_=>⟨[],rfl,rfl,.nil⟩
 |j::a,ds,[],h,_=>by cases h
 |j::a,[],v::vs,_,h=>by unfold oC at h;cases h
 | j::a,d::ds,v::vs,hl,h=>by
  obtain⟨w,r,e,i,l⟩:=(by unfold oC at h;exact h);cases e;obtain⟨b,c,f,g⟩:=SQ (k:=k) (mE hl) l;show ∃b,Ao ((kD j,v)::(a.map kD).zip vs) (kD k)=_/\_;by_cases e:j=k
  ·subst e;refine⟨b,?_,?_,?_⟩
   ·unfold Ao vk at *;rw[dI 'd',dI 'd'];exact c
   ·unfold vk at *;rw[dI 'd'];exact f
   ·unfold yH;rw[JU rfl];exact g
  ·have m:kD j≠kD k:=λz=>e (Iz z);refine⟨v::b,?_,?_,?_⟩
   ·unfold Ao vk at *;rw[dJ ⇑m,dJ ⇑e,c];rfl
   ·unfold vk at *;rw[dJ ⇑e];simpa using f
   ·unfold yH;rw[J5 e];exact .cons i g
theorem UI:∀{a:List DK}{vs:List V},a.length=vs.length->EG k a=Y1->(ue ((a.map kD).zip vs) (kD k)).isSome=Y1
 |[],_,_,h=>by cases h
 |_::_,[],h,_=>by cases h
 | j::a,v::vs,hl,h=>by
  show(ue ((kD j,v)::(a.map kD).zip vs) (kD k)).isSome=Y1;by_cases e:j=k
  ·rw[FA (congrArg kD e)];rfl
  ·rw[Ef (λz=>e (Iz z))];unfold EG at h;rw[fZ,decide_eq_false e,jX] at h;exact UI (mE hl) h
end
def Al(iR uv iL:Nat)(t1 t3:DE):List D->List DK->List D->Sg->Ow->RS
 |[],_,_,σ,O=>.nx σ O
 | x::xs,ks,ds,σ,O=>match xI x with
  | some k=>if EG k ks=Y1 then match t1 (σ.set uv (XE x)) O with
    | .ok d1 O1=>match t3 (((σ.set uv (XE x)).set iL (XE d1)).set iR (XE (.map (vk k ks) (yH k ks ds)))) O1 with
     |.ok _ O2=>if O2.all nms=Y1 then Al iR uv iL t1 t3 xs (vk k ks) (yH k ks ds) ((σ.set uv (XE x)).set iL (XE d1)) O2 else .bad
     |_=>.bad
    |_=>.bad
   else .bad
  |none=>.bad
def E9(iR uv iL:Nat)(tH:DE)(it:DI)(t1 t3:DE)(tt:DS):DS:=λσ O=>(tH σ O).bnS λx O1=>match x with
 | .map ks ds=>(it (σ.set iR YP) O1).bnS λsrc O2=>match src with
  | .val xs=>match Al iR uv iL t1 t3 xs ks ds (σ.set iR YP) O2 with
   |.nx σ' O'=>tt σ' O'
   |_=>.bad
  |_=>.bad
 |_=>.bad
def Ea.ext(e:Ea p H μ H' d_)(h:H p=YP):Ext H μ H' d_:=⟨e.pre,λb o g n a=>e.kept b o g n (sk g h) a,e.fresh,e.there,e.tab⟩
section
variable{X:Cx}{Ex:Nat->Hp->Prop}
def Qw(f:H A=XE (.frz ob u)):∀P2,oQ H P2->oQ (upd H A o) P2:=by
 rintro P2 ⟨g,a,h,i⟩;have j:P2≠A:=by rintro rfl;rw[f] at a;cases a
 refine⟨g,by rw[pX j];exact a,h,λb k e=>?_⟩;obtain⟨c,l,rfl,d,m⟩:=i b k e;have n:c≠A:=by rintro rfl;rw[f] at d;cases d
 exact⟨c,l,rfl,by rw[pX n];exact d,m⟩
def zkc(d:PE X e te):PE X e (λσ H Q=>∃p a,H p=XE (.dK a)/\∀o,te σ (upd H p (.frz o (.dK a))) λv H'=>H' p=XE (.frz o (.dK a))/\Q v (upd H' p (.dK a))):=by rintro b s σ H Q I ⟨p,a,c,h⟩;obtain⟨o,J⟩:=Inv.frzK I c;exact pS (d b s σ _ _ J (h o)) λv i ⟨x,j,f,r,g,q⟩=>⟨x,_,Inv.thawK f g (Inv.nofrz I c),r,q⟩
def zaU:oO X (.type "dict") (λxs H Q=>∃(a:af)(d:List (Key×V)),xs=[.ref a]/\Rd H a (.dK d)/\∀p,H p=YP->Q (.ref p) (upd H p (.dK d))):=by intro f s w H xs x Q I r h;obtain⟨a,d,rfl,g,q⟩:=h;obtain⟨u,rfl,i⟩:=vC r;cases i;obtain⟨z,j,y,c,k⟩:=DQ I.hok g;refine kt_call_dict j k (by rw[<- c.length];exact z) λl m n=>?_;have t:∀b o,s.heap.get? b=XE o->l.get? b=XE o:=λb o e=>(n.2 b (bq (aK e))).trans (ah _ e);have v:=I.hok.fresh (aB s.heap.objs.size);exact⟨.ref _,_,I.laid t (aB _) (Im z (beq_eq_false_iff_ne.mpr (bw (bq I.big))) c m),rfl,q _ v⟩
def zbf{c h b:aS}{d:List aS}{j:List bN}{scope:cf}{pos k l:Pos}{y:au}{i:Nat}(o:Bool)(ext:List au){it0:DI}{g:Tg}{ts:List DT}{cs:List Cl}{te:DE}(w:X.calm=Y1)(A:X.N.Nodup)(B:X.N[i]?=XE y)(n:X.env.scope.names.lookup y=XE .local)
  (D:tu X Ex h b it0) (F:yu X.env.scope scope (X.N++ext) (qz (⟨it0,g,ts⟩::cs)))
  (G:HR X ext scope h g d ts j cs c te)
  (J:swapsWith (.ListComp c (⟨h,b,d,0⟩::j) scope pos) (XE (.Name y l)) k.line X.env=pure Y1)
  (M:∀x,cg b X.env x=pure x:=by intro _;rfl):PS X (.Assign [.Name y l] (.ListComp c (⟨h,b,d,0⟩::j) scope pos) k) (DG (rd Ex X.K (qE o ext.length it0 g ts cs te)) (Ar i)):=by
 rintro p s b_ H E I ⟨P,μ,σ,O,Q,r,q⟩;rw[lz _ _ _ _ J];refine aa (eZ (aa ?_));unfold qE at q;rw[<- MA] at q;refine aa (ci (Jh (Mc c) w D F (λf R s H S _ _ _=>KO G f R s H S) M I Q r (Tj r q λL T U V C W Y Z t y1 u pn=>?_)) (λ_ V hq=>am (am hq)) λ_ _ e=>e);obtain⟨m,hn⟩:=Y;refine j3 (Mt (v:=.ref L) W A B (.inl n) rfl (λsM OZ vn=>?_) (.inr n));obtain⟨a,CQ,ha⟩:=vn;have OC:C≠a:=by
  rcases ha with z|z
  ·rw[z];exact t
  ·exact λe=>u y a z e.symm
 refine⟨m,hn.sameBut CQ OC,λh' CS=>?_⟩;exact⟨_,T,Inv.bare OZ CS Z t y1 u pn,U⟩
def zcc(n:jG (ax X.prog X.w) X.A X.env X.xe)(hc:X.calm=Y1)
  (hA:∀te,PE X e te->PS X sA (DG (JV (λxs H Q=>∃(a:af)(i_:List (Key×V)),xs=[.ref a]/\Rd H a (.dK i_)/\∀p,H p=YP->Q (.ref p) (upd H p (.dK i_))) (PZ te Px)) (Ar iR))) (hH:PD X Ex e tH)
  (hi:tu X Ex tg iter it) (hg:PG X tg ((Tg.one uv).rd X.K)) (vR:PE X (.Name r p2) (KQ iR)) (vT:PE X (.Name tm p3) (KQ uv)) (hL:PS X sL (DG (rd Ex X.K t1) (Ar iL))) (hE:PD X Ex e3 t3) (AS:swapsWith e3 YP pE.line X.env=pure Y2) (ht:r8 X Ex xs tt)
  (n1:iR≠uv) (n2:iR≠iL) (hl:iR<X.N.length) (hT:uv<X.N.length) (hs:∀x,cg iter X.env x=pure x:=by intro _;rfl):r8 X Ex (sA :: .For tg iter [.Delete [.Subscript (.Name r p2) (.Name tm p3) p4] p1,sL,.Expr e3 pE] [] pos::xs) (E9 iR uv iL tH it t1 t3 tt):=by
 refine⟨?_⟩;rintro U s b_ H E I ⟨b,μ,σ,O,e1,c1,q⟩;have hlv:iR<b_.length:=by rw[I.len];exact hl
 refine(Eh (hA _ hH.out) (Eh (QO n hc hi.out hg (Eh (zhZ vR vT) (Eh hL (So (RL (zkc hE.out) AS)))) hs) ht.out)) U s b_ H E I (rd.goS e1 c1 q λx O1 v F C ea xa ca da qa=>?_);cases x with
 | map ks ds=>
  obtain⟨a0,W,rfl,ra,na1,na2,Y,dvs⟩:=da;refine⟨a0,_,rfl,.inr ra,λp n=>?_⟩;have Nt:Mv F b C (upd F p (.dK ((ks.map kD).zip W))) (p::b) C:=(Mv.hide n).trans (Ext.laid n).mv;have Xo:oD X.K (upd F p (.dK ((ks.map kD).zip W))) (p::b) C (σ.set iR YP) (b_.set iR (XE (.ref p))):=(ea.mv Nt).forget _;have Wx:p∉C:=λm=>by
   obtain⟨k,Z,e2⟩:=cE.mp m;obtain⟨_,_,_,h2,_⟩:=ca.at_ k p (by rw[ao Z,e2]);rw[n] at h2;cases h2
  have nph:p∉b:=λm=>ca.ht p m n;have cap:oB X.K (upd F p (.dK ((ks.map kD).zip W))) (p::b) C O1:=by
   have c0:=ca.laid (o:=.dK ((ks.map kD).zip W)) n;refine⟨c0.len,c0.nd,λa m z=>?_,λa m=>?_,λk a e=>?_⟩
   ·rcases ar.mp z with e|z
    ·exact Wx (e▸m)
    ·exact c0.nh a m z
   ·rcases ar.mp m with e|m
    ·rw[e,rG];simp
    ·exact c0.ht a m
   ·obtain⟨G,D,S,h2,T⟩:=ca.at_ k a e;exact⟨G,D,S,by rw[pX (sk h2 n)];exact h2,T.mv Nt⟩
  have t:=qa;refine⟨p::b,C,σ.set iR YP,O1,Xo,cap,?_⟩;cases L:it (σ.set iR YP) O1 with
  |bad=>rw[L] at t;exact ai t
  | exc c' l=>
   rw[L] at t;exact λg j x c2=>t g j ((Ext.laid n).trans x) c2.unhide
  | ok src O2=>
   rw[L] at t;intro J H1 f_ x1 c2 sa;cases src with
   |own _=>exact ai t
   |zip _ _=>exact ai t
   | val ys=>
    have t:=t;have e0:Ea p F C H1 f_:=(Ext.laid n).ea.trans x1.ea;have hp1:=x1.keep p _ rG Wx;refine⟨λi m M g=>∃j f l P G D,m=ys.length-i/\i<=ys.length/\M.length=X.N.length/\Ea p H1 f_ g j/\oD X.K g (p::b) j f M/\oB X.K g (p::b) j l/\M[iR]?=XE (XE (.ref p))/\g p=XE (.dK ((P.map kD).zip D))/\P.length=D.length/\oC X.K g (p::b) j G D/\
     oG Ex X.K F b C (match Al iR uv iL t1 t3 (ys.drop i) P G f l with
      |.nx f l=>tt f l
      |_=>.bad) E,
     ⟨_,f_,_,O2,ks,ds,W,rfl,bX _,by rw[cL];exact I.len,.refl,Xo.ext x1,c2,by rw[aY hlv],hp1,Y,(dvs.mv Nt).ext x1,t⟩,?_⟩
    rintro i m xF H2 ⟨u,sQ,Hi,B,G8,BA,hm,hile,WL,OQ,G5,BM,Ke,GA,GH,xf,c⟩;have Ey:=sa (p::b) H2 u Hi OQ.mv BM i;have JY:match ys[i]? with
     |some d=>J.go i H2/\∀x ud,J.yld i H2 x ud->Ext H2 u ud u/\oB X.K ud (p::b) u Hi/\Xe X.K ud (p::b) u d x
     |none=>J.stop i H2:=Ey
    cases qQ:ys[i]? with
    | none=>
     rw[qQ] at JY;have y0:i=ys.length:=by have:=bg.mp qQ;lia
     rw[y0,nD] at c;exact .inl ⟨JY,b,u,sQ,Hi,G5.mv .unhide,BM.unhide,c.ext ((e0.trans OQ).ext n)⟩
    | some d=>
     rw[qQ] at JY;obtain⟨go,yl⟩:=JY;have y0:=(ak.mp qQ).1;rw[cm y0,(ak.mp qQ).2] at c;unfold Al at c;cases Z:xI d with
     |none=>rw[Z] at c;exact ai c
     | some k=>
      rw[Z] at c;dsimp only at c;by_cases vq:EG k B=Y1
      case neg=>rw[J5 vq] at c;exact ai c
      rw[JU vq] at c;refine .inr ⟨go,λM g=>∃j f l P G D,M.length=X.N.length/\Ea p H1 f_ g j/\oD X.K g (p::b) j f M/\oB X.K g (p::b) j l/\M[iR]?=XE (XE (.ref p))/\g p=XE (.dK ((P.map kD).zip D))/\P.length=D.length/\oC X.K g (p::b) j G D/\
       oG Ex X.K F b C (match Al iR uv iL t1 t3 (ys.drop (i+1)) P G f l with
        |.nx f l=>tt f l
        |_=>.bad) E,λf g ⟨j,sG,O3,ks3,ds3,vs3,h⟩=>⟨ys.length-(i+1),by lia,j,sG,O3,ks3,ds3,vs3,rfl,y0,h⟩,λv H3 y=>?_⟩
      obtain⟨x3,c3,r3⟩:=yl v H3 y;have F5:p∉u:=λm=>BM.nh p m 'd';have N0:=x3.keep p _ GA F5;have OI:=(G5.ext x3).set r3 uv;have dd3:=xf.ext x3;have ekv:=Lf Z r3;have Gr:(xF.set uv (XE v))[iR]?=XE (XE (.ref p)):=by rw[aZ (bw n1)];exact Ke
      have NS:(xF.set uv (XE v))[uv]?=XE (XE v):=by
       rw[aY (by rw[WL];exact hT)]
      refine⟨_,Gr,v,NS,p,_,kD k,rfl,N0,ekv,UI GH vq,?_⟩;obtain⟨R,hd1,hd2,hd3⟩:=SQ GH dd3;rw[hd1];have OP:Ea p H3 u (upd H3 p (.dK (((vk k B).map kD).zip R))) u:=.putX (Am N0);have Xp:=OI.mv (OP.mv);have cl4:=c3.putX (o:=.dK (((vk k B).map kD).zip R)) (Am N0);have dd4:=hd3.mv (OP.mv);cases S:t1 (sQ.set uv (XE d)) Hi with
      |bad=>rw[S] at c;exact ai c
      |exc c' l=>rw[S] at c;exact ai c
      | ok d1 O5=>
       rw[S] at c;dsimp only at c;refine⟨p::b,u,sQ.set uv (XE d),Hi,Xp,cl4,?_⟩;rw[S];intro v1 H5 Aa x5 c5 r5;have Gz:=x5.keep p _ rG F5;have F4:p∉Aa:=λm=>c5.nh p m 'd';have Kx:=(Xp.ext x5).set r5 iL;have Xr:=dd4.ext x5;have Gq:((xF.set uv (XE v)).set iL (XE v1))[iR]?=XE (XE (.ref p)):=by rw[aZ (bw n2)];exact Gr
       cases T:t3 (((sQ.set uv (XE d)).set iL (XE d1)).set iR (XE (.map (vk k B) (yH k B G8)))) O5 with
       |bad=>rw[T] at c;exact ai c
       |exc c' l=>rw[T] at c;exact ai c
       | ok d3 O6=>
        rw[T] at c;dsimp only at c;by_cases hn:O6.all nms=Y1
        case neg=>rw[J5 hn] at c;exact ai c
        rw[JU hn] at c;refine⟨p,_,Gz,λo=>?_⟩;have ON:Ea p H5 Aa (upd H5 p (.frz o (.dK (((vk k B).map kD).zip R)))) Aa:=.putX (Am Gz);have dm:Xe X.K (upd H5 p (.frz o (.dK (((vk k B).map kD).zip R)))) b Aa (.map (vk k B) (yH k B G8)) (.ref p):=by
         exact⟨p,R,rfl,⟨o,rG⟩,nph,F4,hd2,(Xr.mv (ON.mv)).mv .unhide⟩
        refine⟨b,Aa,_,O5,((Kx.mv (ON.mv)).mv .unhide).put Gq dm,(c5.putX (Am Gz)).unhide,?_⟩;rw[T];intro v3 H6 Hq x6 c6 r6;have Kg:=x6.keep p _ rG F4;have ea7:Ea p H6 Hq (upd H6 p (.dK (((vk k B).map kD).zip R))) Hq:=.putX (Qw Kg);have OM:=(ON.trans x6.ea).trans ea7;exact⟨Kg,Hq,_,O6,_,_,R,by rw[cL,cL];exact WL,((OQ.trans x3.ea).trans OP).trans (x5.ea.trans OM),Kx.mv (OM.mv),(c6.hide Kg hn).putX (Qw Kg),Gq,rG,hd2,Xr.mv (OM.mv),c⟩
 |_=>exact ai qa
end
end DL
namespace DL
open PySem L2
def HJ(o:Obj):Nat:=match o.data with
 |.dict _ ep=>ep
 |_=>0
def XB(a:af)(o:Obj)(i_:List (Key×V)):It:=⟨λi H=>H a=XE (.frz o (.dK i_))/\i<i_.length,λi H x H'=>H'=H/\∃k v,i_[i]?=XE (k,v)/\x=kV k,λi H=>H a=XE (.frz o (.dK i_))/\i_.length<=i⟩
theorem QZ:∀{i_:List (Key×V)}{ws:List (Key×ae)}{i:Nat}{k:Key}{v:V},KV i_ ws->i_[i]?=XE (k,v)->∃u,ws[i]?=XE (k,u)
 |_,_,_,_,_,.nil,h=>by simp at h
 | (k0,v0)::_,(k1,u1)::_,0,k,v,.cons h _,e=>by
  obtain⟨rfl,rfl⟩:=e;have a:=h.1;subst a;exact⟨u1,rfl⟩
 |_::_,_::_,i+1,k,v,.cons _ t,e=>QZ (i:=i) t ⇑e
def zi9(h:(u6 P w).is k u=Y1):RelV (kV k) u:=by
 rcases zO h with⟨i,t,rfl,rfl⟩|⟨x,t,rfl,rfl⟩
 ·exact⟨t,rfl⟩
 ·exact⟨t,rfl⟩
def LX(ok:HOk P w H h)(e:H a=XE (.frz o (.dK i_))):(a==sysModules)=Y2/\∃b,KV i_ b/\h.DictAt (u6 P w) a b (HJ o):=by
 obtain⟨d,z,i,b,c,m,j,k,f,l,g,r⟩:=ok a _ e;rw[d] at f;cases f;have:HJ o=k:=by unfold HJ;rw[g]
 rw[this];exact⟨i,b,c,o,j,d,l,g,r⟩
def zcq(a it:af)(o:Obj)(n:List (Key×V)):yc P w K tg (XB a o n) [it] it (λi h=>h.IsKeyIter it a i n.length (HJ o)) where
 mem:=by simp
 obj:=λi h g b j=>by
  have e:b=it:=⇑j
  subst e;obtain⟨o,e,c,d⟩:=g;exact⟨o,e,λv z=>by rw[d] at z;cases z⟩
 keep:=λi h N g k=>g.at λo e=>k it 'd' o e
 item:=by
  intro X q r t O i l s R H E I m g x;subst q r t;obtain⟨y,A⟩:=x;obtain⟨S,T,f,B⟩:=LX I.hok y;obtain⟨⟨k,v⟩,Q⟩:∃p,n[i]?=XE p:=⟨_,ao A⟩;obtain⟨u,U⟩:=QZ f Q;obtain⟨C,D,W,F,G,J⟩:=m it 'd';rw[f.length] at g;refine wpAny_pyNext_dict_item g B U λL N Y M Z=>?_;have I1:=I.turned (λb o j e=>(Z.2 b j).trans e) C D F G J;obtain⟨o2,e,c,d⟩:=id M;rw[<- f.length] at M;exact⟨L,rfl,E7 e c d 's' ⟨kV k,H,I1,zi9 Y,⟨rfl,k,v,Q,rfl⟩,M,λb j=>(m b j).1⟩⟩
 done:=by
  intro X q r t O i l s R H E I m g x;subst q r t;obtain⟨y,A⟩:=x;obtain⟨S,T,f,B⟩:=LX I.hok y;obtain⟨C,D,W,F,G,J⟩:=m it 'd';rw[f.length] at g;exact wpAny_pyNext_dict_end (I.ok.hd O) g B (bg.mpr (by rw[<- f.length];exact A)) λN eb=>⟨rfl,I.turned (λb o j e=>eb b o j e) C D F G J⟩
 self:=λ_ _ _ _ _ g h=>wpAny_pyIter_keyiter g h
noncomputable def BB:DK->D
 |.inl i=>.int i
 |.inr cs=>.str cs
def ziz:∀k:DK,Xe K H Xa μ (BB k) (kV (kD k))
 |.inl _=>by unfold BB Xe;rfl
 |.inr _=>by unfold BB Xe;rfl
def oH.keys{K:aj}{H:Hp}{Xa μ:List af}{b:List DK}{vs:List V}{a:af}{o:Obj}(h:H a=XE (.frz o (.dK ((b.map kD).zip vs))))(n:a∉Xa)(p:a∉μ)(g:b.length=vs.length):oH K (XB a o ((b.map kD).zip vs)) (.val (b.map BB)) H Xa μ:=by
 intro j u v w m c i;have l:=m.kept a _ h p n (by intro A z;cases z);have f:((b.map kD).zip vs).length=b.length:=by rw[ic,aD,g,Nat.min_self]
 show match (b.map BB)[i]? with|some d=>_|none=>_
 rw[bC];cases e:b[i]? with
 | some k=>
  have q:=(ak.mp e).1;refine⟨⟨l,by rw[f];exact q⟩,λx B y=>?_⟩;obtain⟨rfl,r,C,s,rfl⟩:=y;have t:r=kD k:=by
   have:=congrArg (nH oo) s;rw[<- bC,List.map_fst_zip (by rw[aD];exact ir g),bC,e] at this;cases this;rfl
  subst t;exact⟨.refl,c,ziz k⟩
 | none=>
  exact⟨l,by rw[f];exact bg.mp e⟩
def Hy(t:DE):DI:=λσ O=>(t σ O).bnd λx O1=>match x with
 |.map ks _=>.ok (.val (ks.map BB)) O1
 |_=>.bad
def zfM{X:Cx}{l:Nat->Hp->Prop}{a y:aS}{t:DE}(z:PD X l a t):tu X l y a (Hy t):=by
 refine⟨?_⟩;rintro i s A H B I ⟨f,S,T,O,C,D,q⟩;refine pS (z.out i s A H _ I (rd.go C D q (Q1:=λv g=>∃f h j d,oB X.K g f h j/\Xe X.K g f h d v/\post l X.K (λE F s J=>oH X.K J s E f F) g f h (match d with|.map ks _=>.ok (.val (ks.map BB)) j|_=>.bad) B)
  λd j v g h U x c r p=>⟨f,h,j,d,c,r,p⟩)) λu m ⟨v,g,k,G,f,h,j,d,c,r,p⟩=>?_
 cases d with
 | map ks ds=>
  obtain⟨a,V,rfl,⟨o,w⟩,L,M,N,W⟩:=r;cases G;obtain⟨P,Y,n,Q⟩:=LX k.hok w;refine wpAny_pyIter_dict P Q ?_;rw[<- n.length];refine⟨m.heap.objs.size,[m.heap.objs.size],_,_,g,rfl,k.kept λb o e=>ah _ e,zcq a _ o _,⟨_,aM _ rfl,rfl,rfl⟩,λb R=>?_,post.here p c (.keys w L M N)⟩;have e:b=m.heap.objs.size:=⇑R
  subst e;exact k.fpOk (aB _) (k.hok.fresh (aB _))
 |_=>exact ai p
end DL
namespace DL
open PySem L2 PyProof.Rows
noncomputable def u9(i j k l:Int):Bool:=decide (i<k)||(decide (i=k)&&decide (j<l))
def Qa(h:Q (.bool (decide (a<b))) s):aq (ax prog w) A (richCompare .Lt (.int a t) (.int b u)) Q E s:=wpAny_lt_int h
set_option maxHeartbeats 4000000 in
def zbX(l b:af)(a c i e:Int)(m o p q:Tok)(n x:Nat)(dd y:Option af)(sl z:Array (Option ae)):
  j9 (eF.«tuple.__lt__» ⟨[.ref l,.ref b],[]⟩)
   (λA R s=>s.heap.get? l=XE { cls:=.type "tuple",dict:=dd,data:=.seq #[.int a m,.int c o] n,slots:=sl }/\s.heap.get? b=XE { cls:=.type "tuple",dict:=y,data:=.seq #[.int i p,.int e q] x,slots:=z }/\
    R (.ok (.ret (.bool (u9 a c i e)))) s):=
 .of_wp λf w A R s h=>by
  obtain⟨r,g,d,t,u⟩:=s;obtain⟨B,C,h⟩:=h;have D:=kF
  wp_walk using wpAny_loadPart' B,wpAny_loadPart' C
  refine kG (A:=A.in1) (s:=⟨r,g,d,t,u⟩) a m i p f w _ _ ?_;by_cases k:a=i
  ·subst k;rw[show(a==a)=Y1 from beq_self_eq_true a]
   wp_walk
   refine kG (A:=A.in1) (s:=⟨r,g,d,t,u⟩) c o e q f w _ _ ?_;by_cases v:c=e
   ·subst v;rw[show(c==c)=Y1 from beq_self_eq_true c]
    wp_walk
    have j:u9 a c a c=Y2:=by unfold u9;simp
    rw[j] at h;exact⟨_,rfl,h⟩
   ·rw[show(c==e)=Y2 from beq_eq_false_iff_ne.mpr v]
    wp_walk using Qa
    have j:u9 a c a e=decide (c<e):=by unfold u9;simp
    rw[j] at h;exact⟨_,rfl,h⟩
  ·rw[show(a==i)=Y2 from beq_eq_false_iff_ne.mpr k]
   wp_walk using Qa
   have j:u9 a c i e=decide (a<i):=by unfold u9;simp[k]
   rw[j] at h;exact⟨_,rfl,h⟩
def ZG(k:s.heap.IsTuple l #[.int i1 t1,.int i2 t2])(m:s.heap.IsTuple b #[.int j1 u1,.int j2 u2])(o:A.units<cLine)(h:Q (.bool (u9 i1 i2 j1 j2)) s):
  aq (ax prog w) A (richCompare .Lt (.ref l) (.ref b)) Q E s:=by
 obtain⟨⟨p,q,d,r⟩,e,f,n,g⟩:=id k;obtain⟨⟨y,t,c,u⟩,i,j,v,a⟩:=id m;simp only at f g j a;subst f g j a;exact lh (op:=.Lt) ⟨_,e,rfl⟩ ⟨_,i,rfl⟩ F.slot_tuple_lt nF (mY _ _) (zbX l b i1 i2 j1 j2 t1 t2 u1 u2 n v q t r u)
  ⟨e,i,show lO (u9 i1 i2 j1 j2)≠gO/\Q (.bool (u9 i1 i2 j1 j2)) s from ⟨(λx=>nomatch x),h⟩⟩ o
section
variable{prog:aJ}{w:aU}{A:aX}{R:Result->ag->Prop}{I S:af}{fp wr:List af}{n:Nat}{P:Nat->ae->Prop}{St:Nat->aR->Prop}{bt:Nat->Nat->Bool}{kp:aR->Prop}
def Py(prog:aJ)(w:aU)(A:aX)(P:Nat->ae->Prop)(bt:Nat->Nat->Bool)(kp:aR->Prop):Prop:=∀i j vi vj(s:ag)(Q:ae->ag->Prop)(E:ae->ag->Prop),kp s.heap->P i vi->P j vj->Q (.bool (bt i j)) s->aq (ax prog w) A (richCompare .Lt vi vj) Q E s
def Ra(kp:aR->Prop)(wr:List af)(S:af):Prop:=∀h h',kp h->(∀b o,b∉wr->b≠S->h.get? b=XE o->h'.get? b=XE o)->kp h'
def zhY(W:Walks prog w A.in1 I fp wr n P St)(M:Py prog w A.in1 P bt kp)(D:S∉fp)(E:Ra kp wr S):
  ∀(k j:Nat)(s:ag)(a:ae)(c:Nat),n-(j+1)=k->j+1<=n->kp s.heap->St (j+1) s.heap->P (argBest bt j) a->s.heap.get? S=XE { cls:=.type "list",dict:=YP,data:=.seq #[a,a] c,slots:=#[] }->
  (∀v h' tk,P (argBest bt (n-1)) v->(∀b o,b∉wr->b≠S->s.heap.get? b=XE o->h'.get? b=XE o)->R (.ok (.ret v)) { s with heap:=h',toks:=tk })->codeAny (ax prog w) A (.builtin "min.loop" ⟨[.ref I,.none,.ref S],[]⟩) R s:=by
 have F:S∉wr:=λh=>D (W.sub _ h);have G:(toString "min" ++ toString ".loop":String) = "min.loop":=by decide
 intro k
 induction k with
 | zero=>
  intro j s a c N O H q l i m;have J:j+1=n:=by lia
  refine gf ez ?_;rw[eT bG _];show aq _ A.in1 (seqItems? (.ref S) >>= _) _ _ s;refine aa (cK i rfl ?_);show aq _ A.in1 (tryCatch (pyNext (.ref I)) _ >>= _) _ _ s;refine aa (d9 (W.done s _ _ (J▸q) λh' tk d=>?_));show aq _ A.in1 (updateSeq S (λ_=>#[]) >>= _) _ _ _;exact aa (fD (d S _ F i) rfl (aa (eu (am (m a _ tk (by rw[<- J];exact l) λb o f g e=>(bb _ _ (bw g)).trans (d b o f e))))))
 | succ k ih=>
  intro j s a c N O H q l i m;have r:j+1<n:=by lia
  refine gf ez ?_;rw[eT bG _];show aq _ A.in1 (seqItems? (.ref S) >>= _) _ _ s;refine aa (cK i rfl ?_);show aq _ A.in1 (tryCatch (pyNext (.ref I)) _ >>= _) _ _ s;refine aa (d9 (W.item (j+1) s _ _ r q λv h' tk K L d=>?_));have t:=d S _ F i;have u:kp h':=E _ _ H λb o p _ e=>d b o p e;show aq _ A.in1 (tryCatch (holding [v,v] (richCompare .Lt v a >>= _)) _ >>= _) _ _ _;refine aa (d9 (bL (aa (M (j+1) (argBest bt j) v a { s with heap:=h',toks:=tk } _ _ u K l (aa (bL (cQ (aa (eu (am ?_))))))))));cases p:bt (j+1) (argBest bt j) with
  | true=>
   simp only[if_true];refine aa (fD t rfl (aa (eu ?_)));rw[G];refine am ⟨fN bG _,ih (j+1) _ v _ 'o' r (E _ _ u λb o _ n e=>(bb _ _ (bw n)).trans e) (W.frame _ _ _ L λb Q o e=>(bb _ _ (λh:S=b=>D (by rw[h];exact Q))).trans e) (by simp only[argBest,p,if_true];exact K) (bM _ t rfl)
    λx y z B C=>m x y z B λb o f g e=>C b o f g ((bb _ _ (bw g)).trans (d b o f e))⟩
  | false=>
   simp only[bZ,if_false];refine aa (eu ?_);rw[G];exact am ⟨fN bG _,ih (j+1) _ a c 'o' r u L (by simp only[argBest,p,bZ,if_false];exact l) t λx y z B C=>m x y z B λb o f g e=>C b o f g (d b o f e)⟩
def zfR(W:Walks prog w A.in1 I fp wr n P St)(m:Py prog w A.in1 P bt kp)(a:S∉fp)(d:Ra kp wr S)(g:0<n)(p:kp s.heap)(q:St 0 s.heap)(i:s.heap.get? S=XE { cls:=.type "list",dict:=YP,data:=.seq #[] c,slots:=#[] })
  (r:∀v h' tk,P (argBest bt (n-1)) v->(∀b o,b∉wr->b≠S->s.heap.get? b=XE o->h'.get? b=XE o)->R (.ok (.ret v)) { s with heap:=h',toks:=tk }):codeAny (ax prog w) A (.builtin "min.loop" ⟨[.ref I,.none,.ref S],[]⟩) R s:=by
 have t:S∉wr:=λh=>a (W.sub _ h);have u:(toString "min" ++ toString ".loop":String) = "min.loop":=by decide
 refine gf ez ?_;rw[eT bG _];show aq _ A.in1 (seqItems? (.ref S) >>= _) _ _ s;refine aa (cK i rfl ?_);show aq _ A.in1 (tryCatch (pyNext (.ref I)) _ >>= _) _ _ s;refine aa (d9 (W.item 0 s _ _ g q λv h' tk x y f=>?_));have j:=f S _ t i;have z:kp h':=d _ _ p λb o B _ e=>f b o B e;show aq _ A.in1 (updateSeq S (λ_=>#[v,v]) >>= _) _ _ _;refine aa (fD j rfl ?_);rw[u];exact am ⟨fN bG _,zhY W m a d _ 0 _ v _ rfl g (d _ _ z λb o _ n e=>(bb _ _ (bw n)).trans e) (W.frame _ _ _ y λb C o e=>(bb _ _ (λh:S=b=>a (by rw[h];exact C))).trans e) x (bM _ j rfl)
  λD E F G H=>r D E F G λb o k l e=>H b o k l ((bb _ _ (bw l)).trans (f b o k e))⟩
end
section
variable{X:Cx}{Ex:Nat->Hp->Prop}
def Pz(K:aj):R2:=λx y H Q=>∃a b i j k l,x=.ref a/\y=.ref b/\rW K H a [.int i,.int j]/\rW K H b [.int k,.int l]/\Q (.bl (u9 i j k l)) H
def SO(I:L2.Inv X Xd σ H s)(b:rW X.K H a [.int i,.int j]):∃t u,s.heap.IsTuple a #[.int i t,.int j u]:=by obtain⟨e,c,p,_⟩:=I.tuple b;obtain⟨u,f,rfl,⟨t,rfl⟩,⟨d,rfl⟩⟩:=Aq c;exact⟨t,d,p⟩
def RC(d:X.A.units+64<cLine):qI X (cy .Lt) (Pz X.K):=by intro c s p H x y v u Q I e f h;obtain⟨a,b,i,j,k,l,rfl,rfl,g,m,q⟩:=h;cases e;cases f;obtain⟨r,t,n⟩:=SO I g;obtain⟨w,z,o⟩:=SO I m;exact ZG n o (f9 (gM _ 64) d) ⟨.bl _,H,I,rfl,q⟩
def Aj:Ow->D->D->R D:=λO x y=>match x,y with
 |.tup [.int i,.int j],.tup [.int k,.int l]=>.ok (.bl (u9 i j k l)) O
 |_,_=>.bad
def Uv{K:aj}{H:Hp}{Xa μ:List af}{i j:Int}{v:V}(h:Xe K H Xa μ (.tup [.int i,.int j]) v):∃a,v=.ref a/\rW K H a [.int i,.int j]:=by obtain⟨t,f,rfl,d,e⟩:=Bm h rfl;obtain⟨x,y,rfl,b,c⟩:=Ap e;unfold Xe at b c;subst b;subst c;exact⟨t,rfl,d⟩
def RP:sF X Ex (Pz X.K) Aj:=by
 intro H d i O x y v w Q c e f q;unfold Aj at q;split at q
 ·obtain⟨a,rfl,g⟩:=Uv e;obtain⟨b,rfl,h⟩:=Uv f;exact⟨a,b,_,_,_,_,rfl,rfl,g,h,post.here q c uO⟩
 ·exact ai q
def Be:List Int->Int
 |[]=>0
 |x::l=>l.foldl min x
theorem LR:∀(l:List Int)(x:Int),l.foldl min x<=x/\∀a∈l,l.foldl min x<=a
 |[],x=>⟨Int.le_refl _,λ_ h=>by cases h⟩
 | y::l,x=>by
  obtain⟨c,b⟩:=LR l (min x y);rw[fE];refine⟨by lia,λa ha=>?_⟩;rcases ar.mp ha with rfl|ha
  ·lia
  ·exact b a ha
theorem Fv:∀(l:List Int)(x:Int),l.foldl min x=x\/l.foldl min x∈l
 |[],x=>.inl rfl
 | y::l,x=>by
  rw[fE];rcases Fv l (min x y) with h|h
  ·rcases Int.le_total x y with e|e
   ·left;rw[h];lia
   ·right;rw[h];rw[show min x y=y by lia];exact av
  ·exact .inr (al _ h)
def zce(hm:M∈ns)(b:∀a,a∈ns->M<=a):M=Be ns:=by
 cases ns with
 |nil=>cases hm
 | cons x l=>
  show M=l.foldl min x;obtain⟨c,d⟩:=LR l x;have f:l.foldl min x<=M:=by
   rcases ar.mp hm with rfl|hm
   ·exact c
   ·exact d M hm
  have g:M<=l.foldl min x:=by
   rcases Fv l x with e|e
   ·rw[e];exact b x av
   ·exact b _ (al _ e)
  lia
def zbI(l:X.calm=Y1):oO X (.builtin "min") (λxs H Q=>∃(p:af)(ns:List Int),xs=[.ref p]/\qY X.K H p (ns.map V.int)/\ns≠[]/\Q (.int (Be ns)) H):=by
 intro d s G H xs J Q I r h;obtain⟨p,ns,rfl,m,n,q⟩:=h;obtain⟨u,rfl,o⟩:=vC r;cases o;obtain⟨L,w,x,M⟩:=I.list m;have e:=VF w;obtain⟨b,f⟩:=e.allInts.items;have c:ns=b.toList.map (·.1):=by rw[<- e.numsOf,<- ml,<- f]
 have g:=x.isList;rw[f] at g;have y:0<b.size:=by
  rcases Nat.eq_zero_or_pos b.size with z|z
  ·exact absurd (by rw[c,Array.eq_empty_of_size_eq_zero z];rfl) n
  ·exact z
 refine wT I (min_intList (I.ok.hd l) g y λv N A B C O=>?_);obtain⟨t,rfl⟩:=intItems_at B;obtain⟨P,D⟩:=argBest_lt (numAt b) (b.size-1);have E:numAt b (argBest (λi j=>decide (numAt b i<numAt b j)) (b.size-1))=Be ns:=by
  refine zce ?_ λa k=>?_
  ·rw[c,numAt_eq];exact getD_mem (by rw[aD,aN];lia)
  ·rw[c] at k;obtain⟨j,F,rfl⟩:=mem_getD k;rw[aD,aN] at F;rw[<- numAt_eq];exact D j 'o'
 rw[E];exact⟨.int _,H,I.kept (t':=A) C,⟨_,rfl⟩,q⟩
def Fb:Ow->List D->R D:=λO xs=>match xs with
 | [x]=>match r_ O x with
  | some ds=>match yg ds with
   |some ns=>if ns≠[] then .ok (.int (Be ns)) O else .bad
   |none=>.bad
  |none=>.bad
 |_=>.bad
def ziv:vg X Ex (λxs H Q=>∃(p:af)(ns:List Int),xs=[.ref p]/\qY X.K H p (ns.map V.int)/\ns≠[]/\Q (.int (Be ns)) H) Fb:=by
 intro H a j O xs k Q c d q;unfold Fb at q;split at q
 ·rename_i x;obtain⟨v,rfl,b⟩:=uE d;split at q
  ·rename_i l e;obtain⟨p,m,rfl,f,g⟩:=xq c b e;split at q
   ·rename_i ns h;obtain⟨i,q⟩:=post.ite q;refine⟨p,ns,rfl,?_,i,post.here q c sV⟩;rw[<- LW g h];exact f
   ·exact ai q
  ·exact ai q
 ·exact ai q
noncomputable def HC(i:Nat)(t:DE):DS:=λσ O=>match σ[i]? with
 | some (XE (.int a))=>(t σ O).bnS λd O1=>match d with
  |.int b=>.nx (σ.set i (XE (.int (a+b)))) O1
  |_=>.bad
 |_=>.bad
def zj3(h:X.N.Nodup)(j:X.N[i]?=XE x)(k:Loc X.env.scope x)(l:PD X Ex e te)(m:X.fn x=Y1\/X.env.scope.names.lookup x=XE .local:=by first|exact .inl rfl|exact .inr rfl):
  uA X Ex (.AugAssign (.Name x pos') .Add e pos) (HC i te):=
 yK (Zp h j k l.out ZN m) λn A B O E o H f s q=>by
  unfold HC at q;split at q
  ·rename_i a t;obtain⟨v,u,g⟩:=f.at_ i _ t;unfold Xe at g;subst g;refine⟨.int a,u,rd.goS f s q λd C v w y z x c r p=>?_⟩;cases d with
   | int b=>
    unfold Xe at r;subst r;exact⟨a,b,rfl,rfl,p (o.set i (XE (.int (a+b)))) w y .refl (z.set sV i) c⟩
   |_=>exact ai p
  ·exact ai q
end
end DL
namespace DL
open PySem L2
open PyProof.Rows (AllBare)
structure oK(P:aJ)(w:aU)(K:aj)(mg:au->Option ae)(base:aR)(x:au)(k n:Nat)(Pt:af)(F:pY):Prop where
 ex:∃f fd ps,mg x=XE (.ref f)/\cV K (.ref f)=Y1/\Binds K fd ps []/\oP P w K mg base BO k f fd ps (DJ K KI n Pt F)
section
variable{P:aJ}{w:aU}{K:aj}{mg:au->Option ae}{base:aR}{k n i:Nat}{x z:au}{Pt c:af}{F G:pY}
def oK.imp(c:oK P w K mg base x k n Pt F)(h:∀ds O H Xa μ Q,oB K H Xa μ O->qW qD K H Xa μ (G ds O) Q->qW qD K H Xa μ (F ds O) Q):oK P w K mg base x k n Pt G:=by obtain⟨f,b,e,g,j,l,m⟩:=c.ex;exact⟨f,b,e,g,j,l,m.imp λr H Q E ⟨o,Xa,μ,ds,O,d,a,p,q⟩=>⟨o,Xa,μ,ds,O,d,a,p,h ds O H Xa μ Q a q⟩⟩
def oK.bad(c:oK P w K mg base x k n Pt F):oK P w K mg base x k n Pt (λ_ _=>.bad):=c.imp λ_ _ _ _ _ _ _ q=>ai q
def oK.self(c:oK P w K mg base x k n Pt F):oK P w K mg base x k n Pt F:=c
def oK.frz(c:oK P w K mg base x k n Pt F):oK P w K mg base x k n Pt (Ad F):=c.imp λd O H a e Q b q=>Ti b.len q
def Q6{f:af}{name a:au}{g:eG}{body:List cT}{scope:cf}{B C l D m ct L:ae}{I M:Option af}{R:Array (Option ae)}{N u:List au}{t:DS}
  (T:K.lookup f=XE ⟨L,M,.func (bi name a g body scope B C l D I m ct),R⟩) (U:cX K m a=Y1) (S:rO N u scope) (V:N[i]?=XE z) (W:¬ sD scope z)
  (X:∀(A:aX)(b:List Env)(s:ag)(H:Hp)(E:XK),oF k (A.deeper (aV a scope s.heap.objs.size f m))->r8 (EV P w K mg base N a scope f m A b s H E) qD body t):
  oP P w K mg base BO (k+1) f (bi name a g body scope B C l D I m ct) u (DJ K KI u.length Pt (vN N.length i Pt t)):=by
 refine rq T U S (λY H Q E h=>h.1) λA b s H Y Q E Z h=>?_;obtain⟨hl,y,μ,J,O,d,c,ti,j⟩:=h;refine⟨_,(sE.fake V W (X A b s H E Z).out).nox,y,μ,_,O,(FO d N).set (d:=.tab Pt) (by unfold Xe;exact⟨rfl,ti⟩) i,c,?_⟩;unfold vN at j;generalize t ((J.map XE++aw (N.length-J.length) YP).set i (XE (.tab Pt))) O=r at j;cases r with
 |nx σ O'=>exact λb_ o p x e q=>j .non o p x q AB
 |rt d' O'=>exact λv o p x q r=>j v o p x q r
 |bk σ O'=>exact ai j
 |ct σ O'=>exact ai j
 |exc q O'=>exact λo p x c2=>j o p x c2
 |bad=>exact ai j
def fnU(h:qw K mg x st)(S:rO N ps (qc st))(o:N[i]?=XE z)(p:¬ sD (qc st) z)
  (q:∀(g d j:ae)(l:Option af)(b m:ae)(e:List ae),e.length=ps.length->bindArgs (bi x x (vm st) (sT st) (qc st) .none g d j l b m) ⟨e,[]⟩=pure (ps.zip e))
  (r:∀(f:af)(b:ae)(A:aX)(a:List Env)(s:ag)(H:Hp)(E:XK),oF k (A.deeper (aV x (qc st) s.heap.objs.size f b))->r8 (EV P w K mg base N x (qc st) f b A a s H E) qD (sT st) t):
  oK P w K mg base x (k+1) ps.length Pt (vN N.length i Pt t):=by obtain⟨f,u,v,F⟩:=h;refine⟨f,u,ps,v,F.kp,F.binds q,?_⟩;obtain⟨D,I,g,d,j,l,b,m,J,rfl,y,B⟩:=F.ex;exact Q6 y B S o p λA a s H E C=>r f b A a s H E C
def Pw(h:yF K mg x st c)(S:rO N ps (qc st))(o:N[i]?=XE z)(p:¬ sD (qc st) z)
  (q:∀(e b g:ae)(j:Option af)(l m:ae)(d:List ae),d.length=ps.length->bindArgs (bi x x (vm st) (sT st) (qc st) .none e b g j l m) ⟨d,[]⟩=pure (ps.zip d))
  (r:∀(f:af)(A:aX)(a:List Env)(s:ag)(H:Hp)(E:XK),oF k (A.deeper (aV x (qc st) s.heap.objs.size f (.ref c)))->r8 (EV P w K mg base N x (qc st) f (.ref c) A a s H E) qD (sT st) t):
  oK P w K mg base x (k+1) ps.length Pt (vN N.length i Pt t):=by obtain⟨f,u,v,F,y⟩:=h.ex;refine⟨f,u,ps,v,F.kp,F.binds q,?_⟩;obtain⟨I,J,e,b,g,j,l,m,L,rfl,B,C⟩:=F.ex;cases (y);exact Q6 B C S o p λA a s H E D=>r f A a s H E D
end
def IK(c:oK X.prog X.w X.K X.mg X.base x k n Pt F)(l:oF j X.A)(m:k<=j)(o:Gl X x)(r:tw X qD (e::es) t)
  (s:rH x:=by decide) (u:aF (e::es) X.env=(Y2,eval e X.env)::aF es X.env:=by rfl) (y:(backTo pos (aF es X.env)).any (·.1)=Y2:=by rfl):
  PD X qD (.Call (.Name x p) (e::es) [] pos) (sj Pt iT n F t):=by
 obtain⟨f,U,V,z,B,C,G⟩:=c.ex;refine rS (LU (G.mono m) l o z B C .nil PR r.out s u y) λa D E O W H Q h I q=>?_;obtain⟨J,q⟩:oQ H Pt/\qW qD X.K H a D (o_ n F t E O) Q:=by
  unfold sj at q;split at q
  ·rename_i p L;by_cases b:p=Pt
   ·rw[JU b] at q;obtain⟨v,_,d⟩:=h.at_ iT _ L;rw[b] at d;exact⟨d.2,q⟩
   ·rw[J5 b] at q;exact ai q
  ·exact ai q
 refine uS.go h I q λM N Y Z P e2 R S i g=>?_;obtain⟨T,g⟩:=post.ite g;refine⟨by rw[bP,<- i.length];exact T,a,P,M,N,?_,S,R.tab _ J,g⟩;rw[bP];exact i
end DL
namespace DL
open PySem L2 PyProof.Rows
def z8P(t:T = "list" \/ T = "tuple")(u:s.heap.get? p=XE o)(v:o.cls=.type T)(x:o.data=.seq vs.toArray n)(g:lL vs ss)(k:vs.length<=4000000)
  (h:∀(a h':aR)(d:Array ae)(i:List au)(c:Nat),(∀b f,s.heap.get? b=XE f->a.get? b=XE f)->(∀b f,a.get? b=XE f->h'.get? b=XE f)->h'.get? a.objs.size=XE { cls:=.type "list",data:=.seq d c }->lL d.toList i->i.Perm ss->sortedS i=Y1->Q (.ref a.objs.size) { s with heap:=h' }):
  aq (ax prog w) A (call (.builtin "sorted") [.ref p]) Q E s:=by
 refine kh kind_sorted plain_sorted entry_sorted (args_sorted1 _) ?_;refine aa (am ?_);have L:vs.toArray.size<=J8:=by rw[aP];exact aG k 's'
 refine aa (wpAny_collect_seq p t u v x λa y=>?_);refine aa (iS ?_);have M:vs.toArray.toList=vs:=by simp
 have j:(a.push (seqObj "list" vs.toArray 0)).get? a.objs.size=XE (seqObj "list" vs.toArray 0):=aM _ rfl;refine aa (bL (dM slot_list_sort ⟨_,j,rfl⟩ entry_list_sort (TS.list_sort_big strKind_oneLt j g.keysOf (λN O l e=>keyKind_strs (by rw[<- e];exact g)) k λz B C=>⟨_,rfl,?_⟩) (args_list_sort _)));obtain⟨D,F,G,H⟩:=sorted_out_str g B C;refine am ⟨_,rfl,?_⟩;have I:=bM (bH λ_=>#[]) j rfl;have J:=ah (seqObj "list" #[] 0) (ah (seqObj "tuple" vs.toArray 0) I);have K:=bM (bH λ_=>(J6 z).map (·.2)) J rfl;refine h a _ _ D _ y (λb o m=>?_) K F G H;have r:a.objs.size≠b:=λq=>absurd (aK m) (by rw[<- q];exact cw _);exact(bb _ _ r).trans (ah _ (ah _ ((bb _ _ r).trans (ah _ m))))
section
variable{X:Cx}{Ex:Nat->Hp->Prop}{H:Hp}{Xa μ:List af}
def K6(K:aj):List V->Hp->VK->Prop:=λxs H Q=>∃p ss,xs=[.ref p]/\(rW K H p (ss.map λcs=>V.str ⟨cs.toArray⟩)\/qY K H p (ss.map λcs=>V.str ⟨cs.toArray⟩))/\ss.Nodup/\ss.length<=1000/\∀l,H l=YP->Q (.ref l) (upd H l (.lst ((rA ss).map λcs=>V.str ⟨cs.toArray⟩)))
def zcl:oO X (.builtin "sorted") (K6 X.K):=by
 intro m s O H P R Q I r h;obtain⟨p,a,rfl,sq,x,y,q⟩:=h;obtain⟨u,rfl,z⟩:=vC r;cases z;obtain⟨b,f,T,A,o,j,k,n,l⟩:∃b:List ae,oE (a.map λd=>V.str ⟨d.toArray⟩) b/\∃T,(T = "list" \/ T = "tuple")/\∃o,s.heap.get? p=XE o/\o.cls=.type T/\∃n,o.data=.seq b.toArray n:=by
  rcases sq with sq|sq
  ·obtain⟨b,f,⟨o,j,k,n,l⟩,_⟩:=I.tuple sq;exact⟨b,f,_,.inr rfl,o,j,k,n,l⟩
  ·obtain⟨b,f,B,_⟩:=I.list sq;exact⟨b,f,_,.inl rfl,B.isList⟩
 have C:(a.map λd=>V.str ⟨d.toArray⟩)=(a.map toS).map V.str:=by rw[bB];rfl
 have D:=zb3 (by rw[<- C];exact f);have t:b.length=a.length:=by have:=f.length;simpa using this.symm
 refine z8P A j k l D 'o' λE S g U c F G J L v M=>?_;have e:=zic v x M;subst e;have w:=I.kept F;have i:oE ((rA a).map λd=>V.str ⟨d.toArray⟩) g.toList:=by
  have i:=Vc L;rw[bB] at i;exact i
 have N:(rA a).length=a.length:=by have:=v.length_eq;simpa using this
 exact⟨.ref E.objs.size,_,w.laid (o:=.lst ((rA a).map λd=>V.str ⟨d.toArray⟩)) G (aB _) ⟨by rw[aD,N];exact aG y 's',g.toList,c,i,by rw[J]⟩,rfl,q _ (w.hok.fresh (aB _))⟩
def H9(O:Ow)(ds:List D):R D:=match vf ds with
 |some ss=>if ss.Nodup/\ss.length<=1000 then .ok (.lst ((rA ss).map .str)) O else .bad
 |none=>.bad
def B4:Ow->List D->R D:=λO xs=>match xs with
 |[.tup ds]=>H9 O ds
 | [x]=>match r_ O x with
  |some ds=>H9 O ds
  |none=>.bad
 |_=>.bad
def R7{K:aj}{O:Ow}{p:af}{ds:List D}{a:List V}{Q:VK}(c:oB K H Xa μ O)(d:rW K H p a\/qY K H p a)(dd:oC K H Xa μ ds a)(q:qW Ex K H Xa μ (H9 O ds) Q):K6 K [.ref p] H Q:=by
 unfold H9 at q;split at q
 ·rename_i e f;obtain⟨⟨g,h⟩,q⟩:=post.ite q;have i:=IZ dd f;subst i;exact⟨p,e,rfl,d,g,h,λl b=>post.ok q (.laid b) (c.laid b) (Xe.newL c b (Ve _))⟩
 ·exact ai q
def zir:vg X Ex (K6 X.K) B4:=by
 intro H Xa μ O h i Q c d q;unfold B4 at q;split at q
 ·obtain⟨v,rfl,a⟩:=uE d;obtain⟨p,g,rfl,b,f⟩:=Bm a rfl;exact R7 c (.inl b) f q
 ·obtain⟨v,rfl,a⟩:=uE d;split at q
  ·rename_i e;obtain⟨p,g,rfl,b,f⟩:=xq c a e;exact R7 c (.inr b) f q
  ·exact ai q
 ·exact ai q
end
noncomputable def K5(out sc:cf)(x:au):Bool:=(match sc.kind with|.function=>Y1|_=>Y2) && !sc.isCoroutine && !sc.isGenerator&&decide ((sc.names.map (·.1)).Nodup)&&(sc.names.lookup x==XE .local)&&(sc.names.all λy=>!(y.2 == .cell)&&(!(y.2 == .local)||y.1==x))&&(sc.names.all λy=>!(y.2 == .free)||out.names.lookup y.1==XE .cell||out.names.lookup y.1==XE .free)
def YJ(h:K5 out sc x=Y1):PX out sc x:=by
 unfold K5 at h;simp only[br,decide_eq_true_eq,ay] at h;obtain⟨⟨⟨⟨⟨⟨c,f⟩,g⟩,i⟩,j⟩,d⟩,k⟩:=h;refine⟨?_,by simpa using f,by simpa using g,i,λy a=>?_,by simpa using j,λy a b=>?_,λy a b=>?_⟩
 ·cases e:sc.kind<;>rw[e] at c<;>first|rfl|cases c
 ·have:=(d y a).1;simpa using this
 ·have:=(d y a).2;rw[b] at this;simpa using this
 ·have:=k y a;rw[b] at this;simpa using this
def zfO(f:oF (k+2) X.A)(g:X.calm=Y1)(L:uf X.mg X.base c Pt)(h:X.env.code=.ref c)(i:K5 X.env.scope scope x=Y1)(j:defaultsOf params X.env=([],[]))
  (l:∀(name a:au)(cl:List (au×af))(pm d ct u:ae),bindArgs (cr name a params body scope cl pm d ct) ⟨[u],[]⟩=pure [(x,u)]) (m:(X.N++[x]).Nodup) (n:PD X Ex e te)
  (o:∀(q:au)(b:af)(d:ae)(cl:List (au×af))(A:aX)(outer:List Env)(s:ag)(H:Hp),oF k (A.deeper (tx q scope s.heap.objs.size b d cl))->PD (G_ X.prog X.w X.K X.mg X.base (X.N++[x]) (tx q scope s.heap.objs.size b d cl) A outer s H) qD body tE)
  (p:Gl X "min") (r:X.mg "min" = YP) (t:aF [e] X.env=[(Y2,eval e X.env)]:=by rfl):PD X Ex (.Call (.Name "min" pn) [e] [⟨XE (gT "key"),.Lambda params body scope pl,kq⟩] pp) (DP Pt iT te tE):=
 zhq f g L h (YJ i) j l (λz=>(gm.mp m).2.2 x z x 'd' rfl) n o p r t
def z8o{X:Cx}{f:Nat->Hp->Prop}{b d a:aS}{c:List aS}{e:List bN}{scope:cf}{pos h j:Pos}{y:au}{i k:Nat}{ext:List au}{it0:DI}{g:Tg}{ts:List DT}{cs:List Cl}{te:DE}(_:Nx ext)(o:Bool)(l:X.calm=Y1)(m:X.N.Nodup)(n:X.N[i]?=XE y)(p:X.env.scope.names.lookup y=XE .local)(q:yu X.env.scope scope (X.N++ext) (qz (⟨it0,g,ts⟩::cs)))(r:tu X f d a it0)(s:HR X ext scope d g c ts e cs b te)
  (t:swapsWith (.ListComp b (⟨d,a,c,0⟩::e) scope pos) (XE (.Name y j)) h.line X.env=pure Y1) (u:ext.length=k:=by rfl) (v:∀x,cg a X.env x=pure x:=by intro _;rfl):
  PS X (.Assign [.Name y j] (.ListComp b (⟨d,a,c,0⟩::e) scope pos) h) (DG (rd f X.K (qE o k it0 g ts cs te)) (Ar i)):=u▸zbf o ext l m n p r q s t v
end DL
namespace DL
open PySem L2
section
end
end DL
namespace DL
open PySem L2 PyProof.Rows
end DL
namespace DL
open PySem L2
def rz(F:pY):pY:=λds O=>match F ds O with
 |.exc _ _=>.bad
 |r=>r
def Um(h:F ds O=.ok d O1):rz F ds O=.ok d O1:=by unfold rz;rw[h]
def Vf(h:qW Ex K H Xa μ (rz F ds O) Q):qW Ex' K H Xa μ (F ds O) Q:=by
 unfold rz at h;cases e:F ds O with
 |ok d O1=>rw[e] at h;exact h
 |exc c O1=>rw[e] at h;exact ai h
 |bad=>rw[e] at h;exact ai h
def oP.calm(F:oP P w K mg base BO k f fd ps sp):oP P w K mg base CX k f fd ps sp:=
 ⟨F.len,λA a s H b d e Q E g h i j l=>eL (F.run A a s H b d e Q E g h i j l) λr m c=>by
  unfold CR at c ⊢;split at c
  ·exact c
  ·exact ai c
  ·exact ai c⟩
section
variable{Cl:Nat->ae}{P:aJ}{w:aU}{K:aj}{mg:au->Option ae}{base:aR}{k n:Nat}{x:au}{Pt:af}{F:pY}
def Callee.toX(c:Callee P w K mg base x k n F):oJ Cl P w K mg base x k n (rz F):=by obtain⟨f,b,e,g,h,i,j⟩:=c.ex;exact⟨f,b,e,g,h,i,(oP.calm j).imp λr H Q E ⟨l,a,m,o,O,d,p,q⟩=>⟨l,a,m,o,O,d,p,Vf q⟩⟩
def oK.toT(c:oK P w K mg base x k n Pt F):B_ Cl P w K mg base x k n Pt (rz F):=by obtain⟨f,b,e,g,h,i,j⟩:=c.ex;exact⟨f,b,e,g,h,i,(oP.calm j).imp λs H Q E ⟨l,a,m,o,O,d,p,r,q⟩=>⟨l,a,m,o,O,d,p,r,Vf q⟩⟩
end
open PyProof.Rows (AllBare IntsAre)
def zb9{P:aJ}{w:aU}{K:aj}{p T:au->Option ae}{CX:xh}{k:Nat}{U a:af}{Ts:List (af×af)}{fd:dL}{x:au}{sp:Sp}{c:ag}{vs:List ae}{ns:List Int}
  (X:K.In c.heap) (xx:c.heap.Ns bV p) (g:c.heap.Ns builtinsNs T) (Kn:∀x:au,x ≠ "__name__"->T x=bo x) (yV:c.heap.NoLimit) (hg:c.gens = #[]) (qt:0<c.toks)
  (C:c.heap.get? a=XE { cls:=.type "list",data:=.seq vs.toArray }) (hi:lr vs ns) (hl:ns.length<=J8) (hr:oF k callerA)
  (hC:∀q∈Ts,nW c.heap q.1 q.2) (A:∀q∈Ts,c.heap.get? q.2=XE (lB #[])) (hK:jz K=Y1) (hB:∀q∈Ts,c.heap.BuiltinsAt p q.2)
  (F:∀base:aR,K.In base->base.Ns bV p->(∀q∈Ts,uf p base q.1 q.2)->oP P w K p base CX k U fd [x] sp) (sP:∀(s:ag)(u:ae),i3 s fd ⟨[u],[]⟩ [(x,u)])
  (EH:∀H:Hp,(∀q∈Ts,H q.2=XE (.tbl #[]))->qY K H a (ns.map V.int)->sp [.ref a] H (λv _=>v=.bl Y1) λ_ _ _=>False)
  (Y:∀H e s',CX [] H c (λ_ _ _=>False) e s'->False):
  codeAny (ax P w) callerA (.call (.ref U) ⟨[.ref a],[]⟩) (λr s'=>r=.ok (.ret (.bool Y1))/\OldK c.heap s'.heap/\s'.os=c.os/\gA s'.gens) c:=by
 have rv:=UW hi;have NA:=hi.length;have Z:∀q∈Ts,a≠q.2:=λq j e=>by have h:=A q j;rw[<- e,C] at h;cases h
 have nKP:∀q∈Ts,K.lookup q.2=YP:=λz i=>by
  cases q:K.lookup z.2 with
  |none=>rfl
  | some o=>
   have e:=X z.2 o q;rw[A z i] at e;cases e;have h2:=ay.mp hK (z.2,_) (PySem.W.mem_of_lookupK q);exact absurd (show Y2=Y1 from h2) cz
 have Np:a∉Ts.map (·.2):=λh=>by obtain⟨q,j,e⟩:=az.mp h;exact Z q j e.symm
 -- H: zP table, and zP Nd where it is YP of zP Gc objects
 have t:∀H:Hp,(∀q∈Ts,H q.2=XE (.tbl #[]))->qY K H a (ns.map V.int)->HOk P w H c.heap->(∀b,H b≠YP->b=a \/ ∃q∈Ts,q.2=b)->(H a=YP\/(K.lookup a=YP/\∃o xs,H a=XE (.frz o (.lst xs))))->
   codeAny (ax P w) callerA (.call (.ref U) ⟨[.ref a],[]⟩) (λr s'=>r=.ok (.ret (.bool Y1))/\OldK c.heap s'.heap/\s'.os=c.os/\gA s'.gens) c:=by
  intro H hT hS I O Xc;have f:∀{b:af}{o:Obj},c.heap.get? b=XE o->H b=YP->(zt c.heap H).get? b=XE o:=λe n=>zfi e n;have xW:∀{b:af}{o:Obj}{D:Array DictEntry}{E:Nat},c.heap.get? b=XE o->o.data=.dict D E->H b=YP:=λ{b o D E}e d=>by
   cases q:H b with
   |none=>rfl
   | some u=>
    rcases O b (by rw[q];simp) with e'|e'
    ·subst e';rw[C] at e;cases e;have d':Data.seq vs.toArray _=Data.dict D E:=d;cases d'
    ·obtain⟨z,i,e'⟩:=e';subst e';rw[A z i] at e;cases e;have d':Data.fields #[]=Data.dict D E:=d;cases d'
  have Q:∀{b:af}{m:au->Option ae},c.heap.Ns b m->(zt c.heap H).Ns b m:=λ{b m}⟨o,D,E,e,d,r⟩=>⟨o,D,E,f e (xW e d),d,r⟩;have Xb:K.In (zt c.heap H):=λb o e=>f (X b o e) (by
   cases q:H b with
   |none=>rfl
   | some u=>
    rcases O b (by rw[q];simp) with e'|e'
    ·subst e';rcases Xc with z|⟨z,_⟩
     ·rw[z] at q;cases q
     ·rw[z] at e;cases e
    ·obtain⟨z,i,e'⟩:=e';subst e';rw[nKP z i] at e;cases e)
  have hM:Mod K p (zt c.heap H):=⟨Xb,Q xx,⟨T,Q g,Kn⟩,let ⟨mc,h1,h2⟩:=yV;⟨mc,Q h1,h2⟩⟩;have e0:o0 P w K p (zt c.heap H) callerA [] c H:=⟨rfl,hM,λb o e=>zia e,ir (zcL _ _),trivial,λb g=>absurd (show b∈([]:List af) from g) 'd',I,.of_eq hg,qt⟩;have Wy:∀{b:af}{o:Obj},c.heap.get? b=XE o->o.cls ≠ .none->(o.cls ≠ .type "list")->H b=YP:=λ{b o}e d1 d2=>by
   cases q:H b with
   |none=>rfl
   | some u=>
    rcases O b (by rw[q];simp) with e'|e'
    ·subst e';rw[C] at e;cases e;exact absurd rfl d2
    ·obtain⟨z,i,e'⟩:=e';subst e';rw[A z i] at e;cases e;exact absurd rfl d1
  have hL:∀q∈Ts,uf p (zt c.heap H) q.1 q.2:=λz i=>by
   obtain⟨o,vs,J,tf,B,tg,BE,L,tt,M,r1,r⟩:=hC z i;obtain⟨bm,ob,b1,b2,b3,b4,b5,b6,b7,b8⟩:=hB z i;exact⟨⟨o,vs,J,tf,B,tg,BE,L,tt,f M (Wy M (by rw[r1];exact λz=>nomatch z) (by rw[r1];decide)),r1,r⟩,⟨bm,ob,b1,b2,b3,b4,f b5 (Wy b5 (by rw[b6];exact λz=>nomatch z) (by rw[b6];decide)),b6,b7,b8⟩⟩
  refine eL ((F _ Xb (Q xx) hL).run callerA [] c H ⟨[.ref a],[]⟩ [.ref a] [.ref a] _ _ hr e0 (sP c (.ref a)) (.cons rfl .nil) (EH H hT hS)) λr s' h=>?_;cases r with
  |error e=>exact(Y H e s' h).elim
  | ok fl=>
   cases fl with
   |next=>exact ai h
   |brk=>exact ai h
   |cont=>exact ai h
   | ret u=>
    obtain⟨⟨v,H',os,N,R,GB,r',q⟩,_⟩:=h;have q':v=.bl Y1:=q;subst q';obtain rfl:u=lO Y1:=r';refine⟨rfl,⟨λb o e=>?_,λb o e=>?_⟩,os,N⟩
    ·by_cases S:∃q∈Ts,q.2=b
     ·obtain⟨z,i,S⟩:=S;subst S;obtain⟨y,hT'⟩:=R.tbls z.2 #[] (hT z i);have zX:s'.heap.get? z.2=XE { cls:=.none,data:=.fields (#[]++y) }:=GB z.2 _ hT';have h3:=A z i;rw[h3] at e;cases e;exact .inr (.inl ⟨((hC z i).tab h3).isCodeTable,rfl,#[],y,rfl,zX⟩)
     ·cases q:H b with
      |none=>exact .inl (R.keep b o e q (by intro z;exact absurd (show b∈([]:List af) from z) 'd') 'd')
      | some u=>
       rcases O b (by rw[q];simp) with e'|e'
       ·subst e';rcases Xc with z|⟨_,ob,xs,z⟩
        ·rw[q] at z;cases z
        ·have z2:=R.frzs b ob _ z;obtain⟨M,_⟩:=I b _ z;obtain⟨e2,_⟩:=GB b _ z2;rw[e] at M;cases M;exact .inl e2
       ·exact absurd e' S
    ·exact R.there b o e 'd'
 cases hk:K.lookup a with
 | some o=>
  have e:=X a o hk;rw[C] at e;cases e;refine t (λb=>if b∈Ts.map (·.2) then XE (.tbl #[]) else YP) (λq j=>JU (az.mpr ⟨q,j,rfl⟩)) (.inr ⟨_,vs.toArray,_,hk,rfl,rfl,rfl,by rw[aP,NA];exact hl,by simpa using rv⟩) (λb u z=>?_) (λb z=>?_) (.inl (J5 Np))
  ·by_cases g:b∈Ts.map (·.2)
   ·have l:=(JU g).symm.trans z;cases l;obtain⟨q,j,rfl⟩:=az.mp g;exact A q j
   ·have l:=(J5 g).symm.trans z;cases l
  ·by_cases g:b∈Ts.map (·.2)
   ·exact .inr (az.mp g)
   ·exact absurd (J5 g) z
 | none=>
  refine t (λb=>if b∈Ts.map (·.2) then XE (.tbl #[]) else if b=a then XE (.frz { cls:=.type "list",data:=.seq vs.toArray } (.lst (ns.map V.int))) else YP) (λq j=>JU (az.mpr ⟨q,j,rfl⟩)) (.inl (.inr ⟨{ cls:=.type "list",data:=.seq vs.toArray },(J5 Np).trans (JU rfl)⟩)) (λb u z=>?_) (λb z=>?_) (.inr ⟨hk,_,_,(J5 Np).trans (JU rfl)⟩)
  ·by_cases g:b∈Ts.map (·.2)
   ·have l:=(JU g).symm.trans z;cases l;obtain⟨q,j,rfl⟩:=az.mp g;exact A q j
   ·by_cases G:b=a
    ·have l:=((J5 g).trans (JU G)).symm.trans z;cases l;subst G;exact⟨C,by rw[aD];exact hl,vs,_,rv,C⟩
    ·have l:=((J5 g).trans (J5 G)).symm.trans z;cases l
  ·by_cases g:b∈Ts.map (·.2)
   ·exact .inr (az.mp g)
   ·by_cases G:b=a
    ·exact .inl G
    ·exact absurd ((J5 g).trans (J5 G)) z
noncomputable def BZ(K:aj)(Ec:XK->Nat->Hp->Prop)(n:Nat)(P1 P2:af)(F:pY):Sp:=λvs H Q E=>vs.length=n/\∃Xa μ ds O,oC K H Xa μ ds vs/\oB K H Xa μ O/\oQ H P1/\oQ H P2/\qW (Ec E) K H Xa μ (F ds O) Q
def HN(n i j P1 P2:Nat)(t:DS):pY:=λds O=>fin (t (((ds.map XE++aw (n-ds.length) YP).set i (XE (.tab P1))).set j (XE (.tab P2))) O)
def zkE{Cl:Nat->ae}{P:aJ}{w:aU}{K:aj}{C:au->Option ae}{base:aR}{k i j:Nat}{f q P2:af}{x y:au}{name a:au}{g:eG}{body:List cT}{scope:cf}{D F m G n ct L:ae}{I M:Option af}{R:Array (Option ae)}{N z:List au}{t:DS}
  (T:K.lookup f=XE ⟨L,M,.func (bi name a g body scope D F m G I n ct),R⟩) (U:cX K n a=Y1) (S:rO N z scope) (V:N[i]?=XE x) (W:¬ sD scope x) (X:N[j]?=XE y) (Y:¬ sD scope y)
  (Z:∀(A:aX)(b:List Env)(s:ag)(H:Hp)(E:XK),oF k (A.deeper (aV a scope s.heap.objs.size f n))->r8 (uz Cl P w K C base N a scope f n A b s H E) (Xk Cl E) body t):
  oP P w K C base (rK P w Cl) (k+1) f (bi name a g body scope D F m G I n ct) z (BZ K (Xk Cl) z.length q P2 (HN N.length i j q P2 t)):=by
 refine rq T U S (λvs H Q E h=>h.1) λA b s H vs Q E hr h=>?_;obtain⟨hl,B,μ,J,O,d,c,t1,t2,l⟩:=h;refine⟨_,sE.fake (v:=.bl Y2) V W (sE.fake (v:=.bl Y2) X Y (Z A b s H E hr).out),B,μ,_,O,((FO d N).set (d:=.tab q) (v:=.bl Y2) (by unfold Xe;exact⟨rfl,t1⟩) i).set (d:=.tab P2) (v:=.bl Y2) (by unfold Xe;exact⟨rfl,t2⟩) j,c,?_⟩;unfold HN at l;generalize t (((J.map XE++aw (N.length-J.length) YP).set i (XE (.tab q))).set j (XE (.tab P2))) O=r at l;cases r with
 |nx σ O'=>exact λb_ o p x e u=>l .non o p x u AB
 |rt d' O'=>exact λv o p x u r=>l v o p x u r
 |bk σ O'=>exact ai l
 |ct σ O'=>exact ai l
 |exc u O'=>exact λo p x c2=>l o p x c2
 |bad=>exact ai l
def XU{Cl:Nat->ae}{P:aJ}{w:aU}{K:aj}{h:au->Option ae}{base:aR}{k i j:Nat}{f c l P2:af}{d:dL}{x z y:au}{a:cT}{N g:List au}{t:DS}(m:L2.Fun K x x a f d)(n:d.code=.ref c)(S:rO N g (qc a))(o:N[i]?=XE z)(p:¬ sD (qc a) z)(q:N[j]?=XE y)(r:¬ sD (qc a) y)
  (u:∀(A:aX)(b:List Env)(s:ag)(H:Hp)(E:XK),oF k (A.deeper (aV x (qc a) s.heap.objs.size f (.ref c)))->r8 (uz Cl P w K h base N x (qc a) f (.ref c) A b s H E) (Xk Cl E) (sT a) t):
  oP P w K h base (rK P w Cl) (k+1) f d g (BZ K (Xk Cl) g.length l P2 (HN N.length i j l P2 t)):=by obtain⟨F,G,I,v,J,L,B,M,O,rfl,C,D⟩:=m.ex;have e:B=.ref c:=n;subst e;exact zkE C D S o p q r u
def zkX{K:aj}{Ec:XK->Nat->Hp->Prop}{f P2:af}{F:pY}{H:Hp}{a:af}{ns:List Int}(h:∃O,F [.lst (ns.map .int)] []=.ok (.bl Y1) O)(g:H f=XE (.tbl #[]))(i:H P2=XE (.tbl #[]))(j:qY K H a (ns.map V.int)):BZ K Ec 1 f P2 F [.ref a] H (λv _=>v=.bl Y1) λ_ _ _=>False:=by obtain⟨e,b,k,l,O,d,c,m,q⟩:=Zr (Ec:=Ec) h g j;exact⟨e,b,k,l,O,d,c,m,oQ.empty i,q⟩
def walk2{l:mx}{q:aJ}{loose:List au}{XP:(au->Option ae)->aR->Prop}{y:aU->aR->Prop}{d:DefRec}{K:i7->aj}{Cl:Nat->ae}{k:Nat}{x xd:au}{F:Nat->Nat->pY}{α:Type}{Yf:ag->α}{Ya:aU->α}(hn:l.most=XE 63)(Oj:d.params.defaults=[])(hr:oF k callerA)
  (Oz:∀w s,Yf s=Ya w->y w s.heap) (Oy:∀w h h',y w h->(∀b o,h.get? b=XE o->h'.get? b=XE o)->y w h')
  (hY:∀(w:aU)(h:aR),y w h->(K w.params).In h) (uw:(mm q).find? (λe=>e.name==d.name)=XE d) (Gw:((mm q).find? (λe=>e.name==xd)).isSome=Y1)
  (hF:∀(w:aU)(i:au->Option ae)(A:af)(h:aR),(K w.params).In h->h.Ns bV i->i d.name=XE (.ref A)->
   jz (K w.params)=Y1/\∃(c Pt j P2:af),gW (K w.params) d.name=XE (c,Pt)/\gW (K w.params) xd=XE (j,P2)/\∃C:dL,(∀(s:ag)(u:ae),i3 s C ⟨[u],[]⟩ [(x,u)])/\∀base:aR,(K w.params).In base->base.Ns bV i->uf i base c Pt->uf i base j P2->oP l.prog w (K w.params) i base (rK l.prog w Cl) k A C [x] (BZ (K w.params) (Xk Cl) 1 Pt P2 (F Pt P2)))
  (n:∀(Pt P2:Nat)(ns:List Int),ns.length<=63->∃O,F Pt P2 [.lst (ns.map .int)] []=.ok (.bl Y1) O):
  PySem.W.WalkX q loose XP (λs=>(Yf s,decide (0<s.toks))) (λw=>(Ya w,Y1)) l.row.toRowW d [] (λf vs=>PySem.call f vs):=by
 refine Att.attach_call hn Oj Oz Oy λw M N i mb A o pm cd doc a vs ns G Y ho P qp GD CV r m hg qt=>?_;have B:=hY w _ Y;obtain⟨hK,c,Pt,j,P2,ht,D,C,hb,hG⟩:=hF w i A _ B G.T.g GD;obtain⟨hC,Q⟩:=n8 G.T B uw ht;obtain⟨dd,S⟩:=ij.mp Gw;have E:dd.name=xd:=by simpa using List.find?_some S
 subst E;obtain⟨I,U⟩:=n8 G.T B S D;have V:∀{p:af},N.heap.get? p=XE (lB #[])->N.heap.BuiltinsAt i p:=λ{p}hp=>by
  obtain⟨bm,ob,b1,b2,v,X,b5,J⟩:=G.T.bmain;refine⟨bm,ob,b1,b2,λq=>?_,λq=>?_,v,X,b5,J⟩
  ·obtain⟨o,es,ep,e,P,_⟩:=G.T.g;rw[q,e] at v;cases v;rw[P] at J;cases J
  ·rw[q,hp] at v;cases v;cases X
 have t:∀{R:af×af->Prop},R (c,Pt)->R (j,P2)->∀z∈[(c,Pt),(j,P2)],R z:=λ{R}r1 r2 z hz=>by
  rcases ar.mp hz with rfl|hz
  ·exact r1
  ·rw[dG.mp hz];exact r2
 exact zb9 (Ts:=[(c,Pt),(j,P2)]) B G.T.g G.T.b G.T.builtins G.T.nolimit hg qt CV r (aG m 's') hr (t hC I) (t Q U) hK (t (V Q) (V U)) (λbase k1 k2 L=>hG base k1 k2 (L (c,Pt) 'd') (L (j,P2) 'd')) hb (λH Z hS=>zkX (n Pt P2 ns m) (Z (c,Pt) 'd') (Z (j,P2) 'd') hS) λH e s' ⟨_,_,_,_,_,_,_,_,_,_,z⟩=>z
end DL
namespace DL
open PySem L2 PyProof.Rows
def o7(A:aX)(s:ag)(x y:ae)(b:Bool):Prop:=∀(prog:aJ)(w:aU)(E Q:ae->ag->Prop),Q (.bool b) s->aq (ax prog w) A (richCompare .Lt x y) Q E s
noncomputable def yz(e lt:Nat->Bool):n_->Option Bool
 |[]=>YP
 |j::r=>if e j=Y1 then yz e lt r else XE (lt j)
def CF(e lt:Nat->Bool)(n m:Nat):Bool:=(yz e lt (aW (min n m))).getD (decide (n<m))
set_option maxHeartbeats 4000000 in
def zaY(l b:af)(items a:Array ae)(n H:Nat)(dd I:Option af)(sl J:Array (Option ae))(e lt:Nat->Bool):
  j9 (eF.«tuple.__lt__» ⟨[.ref l,.ref b],[]⟩)
   (λA R s=>s.heap.get? l=XE { cls:=.type "tuple",dict:=dd,data:=.seq items n,slots:=sl }/\s.heap.get? b=XE { cls:=.type "tuple",dict:=I,data:=.seq a H,slots:=J }/\
    (∀j(C:j<items.size)(D:j<a.size),i0 A.in1 s items[j] a[j] (e j)/\(e j=Y2->o7 A.in1 s items[j] a[j] (lt j)))/\
    R (.ok (.ret (.bool (CF e lt items.size a.size)))) s):=
 .of_wp λc w A R s h=>by
  obtain⟨p,g,d,r,t⟩:=s;obtain⟨K,L,u,h⟩:=h;have T:=kF;have F:(items.toList.zip a.toList).length=min items.size a.size:=by simp
  wp_walk using wpAny_loadPart' K,wpAny_loadPart' L,wpAny_forIn_list _ (λk b v=>b.1=YP/\v=⟨p,g,d,r,t⟩/\∃i,k=(items.toList.zip a.toList).drop i/\
   R (.ok (.ret (.bool ((yz e lt ((aW (min items.size a.size)).drop i)).getD (decide (items.size<a.size)))))) ⟨p,g,d,r,t⟩) _
  case turn=>
   rintro⟨y,x⟩ k b v ⟨z,rfl,i,m,f⟩;have G:i<(items.toList.zip a.toList).length:=by
    rcases fY i (items.toList.zip a.toList).length with h'|h'
    ·exact h'
    ·rw[dS h'] at m;cases m
   have B:i<min items.size a.size:=F▸G;have C:i<items.size:=a9 B (Nat.min_le_left _ _);have D:i<a.size:=a9 B (nq _ _);rw[cm G] at m;injection m with WI rQ;have o:y=items[i]:=by have:=congrArg oo WI;simpa using this
   have M:x=a[i]:=by have:=congrArg Prod.snd WI;simpa using this
   subst o M;have N:(aW (min items.size a.size)).drop i=i::(aW (min items.size a.size)).drop (i+1):=by simp[cm,B]
   rw[N] at f;unfold yz at f;obtain⟨u,O⟩:=u i C D;refine aa (u c w _ _ ?_);cases o:e i with
   | true=>
    rw[o,JU rfl] at f
    wp_walk
    exact⟨rfl,rfl,i+1,rQ,f⟩
   | false=>
    rw[o,J5 's'] at f;have P:∀{E Q:ae->ag->Prop},Q (.bool (lt i)) ⟨p,g,d,r,t⟩->aq (ax c w) A.in1 (richCompare .Lt items[i] a[i]) Q E ⟨p,g,d,r,t⟩:=λq=>O o c w _ _ q
    wp_walk using P
    exact⟨_,rfl,f⟩
  case fin=>
   rintro⟨U,V⟩ v ⟨z,rfl,i,m,f⟩;simp only at z;subst z;have S:min items.size a.size<=i:=by
    rcases fY i (items.toList.zip a.toList).length with h'|h'
    ·rw[cm h'] at m;cases m
    ·exact F▸h'
   rw[dS ⇑S] at f
   wp_walk
   exact⟨_,rfl,f⟩
  case h=>
   exact⟨rfl,rfl,0,rfl,h⟩
def o7.tuples(p:s.heap.IsTuple l items)(q:s.heap.IsTuple b pN)(r:A.units<cLine)
  (t:∀j(h1:j<items.size)(h2:j<pN.size),i0 A.in1 s items[j] pN[j] (e j)/\(e j=Y2->o7 A.in1 s items[j] pN[j] (lt j))):o7 A s (.ref l) (.ref b) (CF e lt items.size pN.size):=λd w E Q h=>by
 obtain⟨⟨u,v,f,y⟩,g,i,n,k⟩:=id p;obtain⟨⟨D,z,c,B⟩,m,o,C,a⟩:=id q;simp only at i k o a;subst i k o a;exact lh (op:=.Lt) ⟨_,g,rfl⟩ ⟨_,m,rfl⟩ F.slot_tuple_lt nF (mY _ _) (zaY l b items pN n C v z y B e lt)
  ⟨g,m,t,show lO (CF e lt items.size pN.size)≠gO/\Q (.bool (CF e lt items.size pN.size)) s from ⟨(λx=>nomatch x),h⟩⟩ r
theorem Me:∀{l:List ae}{b:l_},TS.allS l=XE b->l.length=b.length/\∀j(h:j<l.length),∃x t,l[j]=.str x t/\x.cps.toList=b.getD j []
 |[],b,h=>by cases h;exact⟨rfl,λj h=>absurd h (Nat.not_lt_zero _)⟩
 | v::l,b,h=>by
  unfold TS.allS at h;split at h
  ·rename_i a r d f;cases h;obtain⟨e,g⟩:=Me f;refine⟨by rw[aT,aT,e],λj c=>?_⟩
   match j,c with
   |0,_=>exact TS.str_of d
   |j+1,c=>exact g j ⇑c
  ·cases h
def ziZ{x y:au}:decide (x=y)=decide (x.cps.toList=y.cps.toList):=by
 by_cases e:x=y
 ·subst e;simp
 ·have a:x.cps.toList≠y.cps.toList:=λh=>e (by
   cases x;cases y;dsimp only at h;rw[kB.mp h])
  rw[decide_eq_false e,decide_eq_false a]
def eK(ks ls:l_)(j:Nat):Bool:=decide (ks.getD j []=ls.getD j [])
def lK(ks ls:l_)(j:Nat):Bool:=decide (ks.getD j []<ls.getD j [])
theorem Tx:∀(d c:l_)(i:Nat)(e lt:Nat->Bool),(∀j,e (i+j)=eK d c j)->(∀j,lt (i+j)=lK d c j)->yz e lt (List.range' i (min d.length c.length))=TS.lexR d c
 |[],c,i,e,lt,_,_=>by rw[dE,Nat.zero_min];cases c<;>rfl
 |a::as,[],i,e,lt,_,_=>rfl
 | a::as,b::bs,i,e,lt,h1,h2=>by
  rw[aT,aT,Nat.succ_min_succ,List.range'_succ];unfold yz TS.lexR;have f:e i=decide (a=b):=h1 0;have g:lt i=decide (a<b):=h2 0;rw[f,g,Tx as bs (i+1) e lt (λj=>by rw[iP,im 1 j];exact h1 (j+1)) (λj=>by rw[iP,im 1 j];exact h2 (j+1))];by_cases q:a=b<;>simp[q]
def zjg(a b:l_):CF (eK a b) (lK a b) a.length b.length=decide (a<b):=by unfold CF;rw[List.range_eq_range',Tx a b 0 _ _ (λj=>by rw[eR]) (λj=>by rw[eR]),<- TS.lexR_lt];cases TS.lexR a b<;>rfl
def YW(c d:l_):((aW (min c.length d.length)).all (eK c d)&&c.length==d.length)=decide (c=d):=by
 rw[dZ,br,ay,beq_iff_eq,decide_eq_true_eq];constructor
 ·rintro⟨e,f⟩;refine kH f λj a b=>?_;have:=of_decide_eq_true (e j (bz.mpr 'o'));rwa [aH,aH,ao a,ao b] at this
 ·rintro rfl;exact⟨λj _=>decide_eq_true rfl,rfl⟩
def Jk(x:TS.TupS h (.ref a) ks):∃o b c,h.get? a=XE o/\o.cls=.type "tuple"/\o.data=.seq b c/\TS.allS b.toList=XE ks:=by obtain⟨t,o,b,c,e,r⟩:=x.ok;cases e;exact⟨o,b,c,r⟩
section
variable{A:aX}{s:ag}
def Uj{a b:af}{f h:l_}(m:TS.TupS s.heap (.ref a) f)(n:TS.TupS s.heap (.ref b) h):∃xs e:Array ae,s.heap.IsTuple a xs/\s.heap.IsTuple b e/\xs.size=f.length/\e.size=h.length/\∀j(m:j<xs.size)(n:j<e.size),i0 A s xs[j] e[j] (eK f h j)/\o7 A s xs[j] e[j] (lK f h j):=by obtain⟨o,xs,c,g,r,v,z⟩:=Jk m;obtain⟨B,e,C,D,F,i,G⟩:=Jk n;obtain⟨H,I⟩:=Me z;obtain⟨J,K⟩:=Me G;refine⟨xs,e,⟨o,g,r,c,v⟩,⟨B,D,F,C,i⟩,by simpa using H,by simpa using J,λj L M=>?_⟩;obtain⟨x,t,q,k⟩:=I j ⇑L;obtain⟨y,u,p,N⟩:=K j ⇑M;rw[eS] at q p;unfold eK lK;rw[q,p,<- k,<- N];exact⟨λd w E Q l=>kl (by rw[ziZ];exact l),λd w E Q l=>show aq (ax d w) A (cy CmpOp.Lt _ _) _ E s from P.lt_str l⟩
def ziM(f:TS.TupS s.heap (.ref a) ks)(i:TS.TupS s.heap (.ref b) ls)(m:A.units<cLine):i0 A s (.ref a) (.ref b) (decide (ks=ls)):=by
 by_cases e:a=b
 ·subst e;obtain⟨o,n,c,g,x,p,q⟩:=Jk f;obtain⟨y,r,z,k,B,d,l⟩:=Jk i;rw[g] at k;cases k;rw[p] at d;cases d;rw[q] at l;cases l;rw[decide_eq_true rfl];exact oz _
 ·obtain⟨n,r,t,u,v,w,h⟩:=Uj (A:=A.in1) f i;rw[<- YW,<- v,<- w];exact .of_refs e (.tuples t u m λj a b=>(h j a b).1)
def ziS(c:TS.TupS s.heap (.ref a) ks)(d:TS.TupS s.heap (.ref b) ls)(e:A.units<cLine):o7 A s (.ref a) (.ref b) (decide (ks<ls)):=by obtain⟨l,m,f,g,i,k,h⟩:=Uj (A:=A.in1) c d;rw[<- zjg,<- i,<- k];exact .tuples f g e λj a b=>⟨(h j a b).1,λ_=>(h j a b).2⟩
abbrev KX:Type:=Int×l_
noncomputable def sU(p q:KX):Bool:=decide (p.1<q.1)||(decide (p.1=q.1)&&decide (p.2<q.2))
structure Dt(h:aR)(v:ae)(k:KX):Prop where
 ok:∃a t b,v=.ref a/\h.IsTuple a #[.int k.1 t,.ref b]/\TS.TupS h (.ref b) k.2
def Dt.mono(kp:∀c o,h.get? c=XE o->h'.get? c=XE o)(x:Dt h v k):Dt h' v k:=by obtain⟨a,t,b,rfl,⟨o,g,r⟩,d⟩:=x.ok;exact⟨a,t,b,rfl,⟨o,kp _ _ g,r⟩,(d.mono kp).1⟩
def Y4(d:Dt s.heap v k)(h:Dt s.heap u q)(i:A.units+1<cLine):o7 A s v u (sU k q):=by
 obtain⟨a,t,b,rfl,p,l⟩:=d.ok;obtain⟨x,y,z,rfl,r,m⟩:=h.ok;have n:A.in1.units<cLine:=i;have:=o7.tuples (A:=A) (e:=λj=>if j=0 then k.1==q.1 else decide (k.2=q.2)) (lt:=λj=>if j=0 then decide (k.1<q.1) else decide (k.2<q.2)) p r (Nat.lt_of_succ_lt i) λj d h=>by
  match j,d with
  |0,_=>exact⟨λc w E Q f=>wpAny_eqBool_int f,λ_ c w E Q f=>wpAny_lt_int f⟩
  |1,_=>exact⟨ziM l m n,λ_=>ziS l m n⟩
 have e:CF (λj=>if j=0 then k.1==q.1 else decide (k.2=q.2)) (λj=>if j=0 then decide (k.1<q.1) else decide (k.2<q.2)) 2 2=sU k q:=by
  show(yz _ _ [0,1]).getD (decide (2<2))=_;unfold sU yz;by_cases g:k.1=q.1
  ·have:¬ q.1<q.1:=by lia
   by_cases o:k.2=q.2
   ·have:¬ q.2<q.2:=fq _;simp[yz,g,o,this]
   ·simp[yz,g,o]
  ·simp[yz,g]
 rw[<- e];exact this
end
def Sr(p:KX):sU p p=Y2:=by have:¬ p.2<p.2:=fq _;unfold sU;simp[this]
def zkG(a:sU p q=Y1)(b:sU q r=Y1):sU p r=Y1:=by
 unfold sU at *;simp only[kW,br,decide_eq_true_eq] at *;rcases a with a|⟨c,a⟩<;>rcases b with b|⟨d,b⟩
 ·left;lia
 ·left;lia
 ·left;lia
 ·exact .inr ⟨by lia,iU a b⟩
def zeX(f:sU p q=Y2)(g:sU q p=Y2):p=q:=by
 obtain⟨a,b⟩:=p;obtain⟨c,d⟩:=q;unfold sU at *;simp only[jm,lI,decide_eq_false_iff_not] at *;have e:a=c:=by lia
 subst e;rw[TS.llt_total (f.2.resolve_left λh=>h rfl) (g.2.resolve_left λh=>h rfl)]
def Zl(a:sU p q=Y2)(b:sU r q=Y1):sU p r=Y2:=by
 cases h:sU p r with
 |false=>rfl
 |true=>rw[zkG h b] at a;cases a
theorem Mn(val:Nat->KX):∀n,argBest (λi j=>sU (val i) (val j)) n<=n/\∀j,j<=n->sU (val j) (val (argBest (λi j=>sU (val i) (val j)) n))=Y2
 |0=>⟨aB _,λj b=>by rw[Nat.le_zero.mp b];exact Sr _⟩
 | n+1=>by
  obtain⟨d,c⟩:=Mn val n;unfold argBest;by_cases a:sU (val (n+1)) (val (argBest (λi j=>sU (val i) (val j)) n))=Y1
  ·rw[JU a];refine⟨aB _,λj b=>?_⟩;by_cases e:j=n+1
   ·rw[e];exact Sr _
   ·exact Zl (c j 'o') a
  ·rw[J5 a];refine⟨by lia,λj b=>?_⟩;by_cases e:j=n+1
   ·rw[e];simpa using a
   ·exact c j 'o'
def yw(ps:List KX)(i:Nat):KX:=ps.getD i (0,[])
def BS(ps:List KX):Nat:=argBest (λi j=>sU (yw ps i) (yw ps j)) (ps.length-1)
def Bc(ps:List KX):KX:=yw ps (BS ps)
def zhv(h:ps≠[]):BS ps<ps.length:=by have:=mn.mpr h;have:=(Mn (yw ps) (ps.length-1)).1;unfold BS;lia
def Ua(h:ps≠[]):ps[BS ps]?=XE (Bc ps):=by unfold Bc yw;rw[aH,ao (zhv h)];rfl
def zeb(a:p∈ps)(b:∀q∈ps,sU q p=Y2):Bc ps=p:=by
 have c:ps≠[]:=λe=>by rw[e] at a;cases a
 refine zeX (b _ (aO (Ua c))) ?_;obtain⟨j,d,rfl⟩:=cE.mp a;have:=(Mn (yw ps) (ps.length-1)).2 j 'o';have e:yw ps j=ps[j]:=by
  unfold yw;rw[aH,ao d];rfl
 rw[e] at this;exact this
def zfo{prog:aJ}{w:aU}{A:aX}{E:ae->ag->Prop}{s:ag}{Q:ae->ag->Prop}{p:af}{items:Array ae}{val:Nat->KX}(f:A.handled=YP)(u:A.units+2<cLine)(g:s.heap.IsList p items)(x:0<items.size)
  (m:∀i v,items[i]?=XE v->Dt s.heap v (val i))
  (h:∀v h' tk,items[argBest (λi j=>sU (val i) (val j)) (items.size-1)]?=XE v->(∀c o,s.heap.get? c=XE o->h'.get? c=XE o)->Q v { s with heap:=h',toks:=tk }):aq (ax prog w) A (call (.builtin "min") [.ref p]) Q E s:=by
 have y:(toString "min" ++ toString ".loop":String) = "min.loop":=by decide
 refine kmb_tree nE mW mX (PySem.F.args_min1 _) ?_;show aq _ A.in1 (fz "min" ["key", "default"] 0 ⟨[],[]⟩ >>= _) _ _ s;refine aa (k9 (show fz "min" ["key", "default"] 0 ⟨[],[]⟩=pure [YP,YP] from rfl) ?_);refine aa (am ?_);refine aa (eV g ?_);refine aa (cx ?_);rw[y];generalize k:s.heap.push { cls:=.type "list_iterator",data:=.fields #[.ref p,.int 0 0] } = h2 at *;have n:h2.objs.size=s.heap.objs.size+1:=by rw[<- k,cJ]
 have a:∀c o,s.heap.get? c=XE o->h2.get? c=XE o:=λc o e=>by rw[<- k];exact ah _ e
 have l:h2.IsListIter s.heap.objs.size p 0:=⟨_,by rw[<- k];exact aM _ rfl,rfl,rfl⟩;have q:p<s.heap.objs.size:=let ⟨o,e,_⟩:=g;aK e;have d:∀{c o},s.heap.get? c=XE o->¬ c=s.heap.objs.size/\¬ c=h2.objs.size:=λ{c o}e=>by
  have t:c<s.heap.objs.size:=aK e;exact⟨bq t,by rw[n];exact bq (gn t)⟩
 have W:=j7 (prog:=prog) (w:=w) (A:=A.in1) f s.heap.objs.size p (bq q) items;refine am ⟨fN bG _,zfR (kp:=λh=>∀c o,s.heap.get? c=XE o->h.get? c=XE o) (bt:=λi j=>sU (val i) (val j)) (S:=h2.objs.size) W ?_ ?_ ?_ x (λc o e=>ah _ (a c o e)) ⟨let ⟨o,e,r⟩:=l;⟨o,ah _ e,r⟩,let ⟨o,e,r⟩:=g;⟨o,ah _ (a _ o e),r⟩⟩ (aM _ rfl) ?_⟩
 ·rintro i j B C J K L b D G H;exact Y4 ((m i B D).mono b) ((m j C G).mono b) u _ _ _ _ H
 ·intro z;have z:h2.objs.size=s.heap.objs.size\/h2.objs.size=p:=⇑z
  rw[n] at z;rcases z with z|z
  ·exact absurd z (dO (fi _))
  ·exact absurd z (dO (gn q))
 ·exact λh h' b f c o e=>f c o (λz=>(d e).1 ⇑z) (d e).2 (b c o e)
 ·exact λv h' tk I b=>h v h' tk I λc o e=>b c o (λz=>(d e).1 ⇑z) (d e).2 (ah _ (a c o e))
section
variable{X:Cx}{Ex:Nat->Hp->Prop}
def XV(K:aj)(H:Hp)(v:V)(q:KX):Prop:=∃a b,v=.ref a/\rW K H a [.int q.1,.ref b]/\KZ K H (.ref b) q.2
def PH(K:aj):List V->Hp->VK->Prop:=λxs H Q=>∃(p:af)(ws:List V)(ps:List KX),xs=[.ref p]/\qY K H p ws/\ws.length=ps.length/\ps≠[]/\(∀(i:Nat)(w:V)(q:KX),ws[i]?=XE w->ps[i]?=XE q->XV K H w q)/\∀w,ws[BS ps]?=XE w->Q w H
def Yd{c:List (af×Obj)}{s:ag}{σ:L2.St}{H:Hp}{v:V}{u:ae}{q:KX}(I:L2.Inv X c σ H s)(h:XV X.K H v q)(r:RelV v u):Dt s.heap u q:=by obtain⟨a,b,rfl,f,t,e,i⟩:=h;cases e;cases r;obtain⟨A,j,p,_⟩:=I.tuple f;obtain⟨x,y,rfl,⟨k,rfl⟩,l⟩:=Aq j;cases l;obtain⟨m,d,⟨o,g,w,n,z⟩,_⟩:=I.tuple i;exact⟨_,k,b,rfl,p,b,o,m.toArray,n,rfl,g,w,z,by simpa using Jv d⟩
def zcR(n:X.calm=Y1)(o:X.A.units+64<cLine):oO X (.builtin "min") (PH X.K):=by
 intro k s F H G J Q I r h;obtain⟨p,L,a,rfl,t,w,y,c,q⟩:=h;obtain⟨u,rfl,z⟩:=vC r;cases z;obtain⟨d,f,B,_⟩:=I.list t;have b:d.length=a.length:=by rw[<- f.length];exact w
 have l:0<a.length:=mn.mpr y;refine wT I (zfo (val:=yw a) (I.ok.hd n) (f9 (me 's' _) o) B.isList (by rw[aP];lia) (λi v e=>?_) λv M C e D N=>?_)
 ·have e:d[i]?=XE v:=⇑e
  obtain⟨x,g,j⟩:=My f e;have m:i<a.length:=by
   have:=(ak.mp e).1;lia
  have E:yw a i=a[i]:=by
   unfold yw;rw[aH,ao m];rfl
  rw[E];exact Yd I (c i x a[i] g (ao m)) j
 ·rw[aP,b] at e;have e:d[BS a]?=XE v:=by unfold BS;simpa using e
  obtain⟨x,g,j⟩:=My f e;exact⟨x,H,I.kept (t':=C) D,j,q x g⟩
def xD(q:KX):D:=.tup [.int q.1,.tup (q.2.map .str)]
def Cq:List D->Option (List KX)
 |[]=>XE []
 | .tup [.int i,.tup ts]::r=>match vf ts,Cq r with
  |some ks,XE l=>XE ((i,ks)::l)
  |_,_=>YP
 |_=>YP
theorem SV:∀l:List KX,Cq (l.map xD)=XE l
 |[]=>rfl
 | x::l=>by
  show(match vf (x.2.map D.str),Cq (l.map xD) with|some ks,XE l=>XE ((x.1,ks)::l)|_,_=>YP)=_;rw[strL_map,SV l]
theorem QV:∀{ds:List D}{a:List KX},Cq ds=XE a->ds=a.map xD
 |[],a,h=>by cases h;rfl
 | d::ds,a,h=>by
  unfold Cq at h;split at h
  ·rename_i e;cases e
  ·rename_i i f r e;cases e;split at h
   ·rename_i g l b c;cases h;rw[bJ,<- QV c,LZ b];rfl
   ·cases h
  ·cases h
def HX:Ow->List D->R D:=λO xs=>match xs with
 | [x]=>match r_ O x with
  | some ds=>match Cq ds with
   |some ps=>if ps≠[] then .ok (xD (Bc ps)) O else .bad
   |none=>.bad
  |none=>.bad
 |_=>.bad
def zhV:vg X Ex (PH X.K) HX:=by
 intro H b B O J L Q c d q;unfold HX at q;split at q
 ·rename_i x;obtain⟨v,rfl,C⟩:=uE d;split at q
  ·rename_i M e;obtain⟨p,j,rfl,D,k⟩:=xq c C e;split at q
   ·rename_i l E;obtain⟨m,q⟩:=post.ite q;have n:=QV E;have o:∀(i:Nat)(w:V)(y:KX),j[i]?=XE w->l[i]?=XE y->Xe X.K H b B (xD y) w:=λi w y a f=>by
     obtain⟨N,r,h⟩:=k.get (i:=i) (d:=xD y) (by rw[n,bC,f];rfl);rw[a] at r;cases r;exact h
    refine⟨p,j,l,rfl,D,by rw[<- k.length,n,aD],m,λi w y a f=>?_,λw a=>post.here q c (o _ w _ a (Ua m))⟩;obtain⟨t,P,rfl,F,G⟩:=Bm (o i w y a f) rfl;obtain⟨x,z,rfl,s,I⟩:=Ap G;unfold Xe at s;subst s;obtain⟨u,R,rfl,A,g⟩:=Bm I rfl;rw[IZ g (strL_map y.2)] at A;exact⟨t,u,rfl,F,u,rfl,A⟩
   ·exact ai q
  ·exact ai q
 ·exact ai q
end
end DL
namespace DL
open PySem L2
def HI{Cl:Nat->ae}{P:aJ}{w:aU}{K:aj}{e:au->Option ae}{base:aR}{k i:Nat}{Pt:af}{x z:au}{b:cT}{N d:List au}{t:DS}(h:qw K e x b)(S:rO N d (qc b))(l:N[i]?=XE z)(m:¬ sD (qc b) z)
  (n:∀(o g p:ae)(q:Option af)(c r:ae)(j:List ae),j.length=d.length->bindArgs (bi x x (vm b) (sT b) (qc b) .none o g p q c r) ⟨j,[]⟩=pure (d.zip j))
  (u:∀(f:af)(c:ae)(A:aX)(a:List Env)(s:ag)(H:Hp)(E:XK),oF k (A.deeper (aV x (qc b) s.heap.objs.size f c))->r8 (uz Cl P w K e base N x (qc b) f c A a s H E) (Xk Cl E) (sT b) t):
  B_ Cl P w K e base x (k+1) d.length Pt (vN N.length i Pt t):=by obtain⟨f,v,y,F⟩:=h;exact⟨f,v,d,y,F.kp,F.binds n,X8 F S l m λc A a s H E B=>u f c A a s H E B⟩
end DL
namespace DLC
section
variable{α:Type}[DecidableEq α]
abbrev Held(α:Type):=List (n_×List α)
def keys(h:Held α):l_:=h.map (·.1)
def hold(h:Held α)(x:α):l_:=(h.filter λkv=>kv.2.contains x).map (·.1)
noncomputable def at_(h:Held α)(t:n_):List α:=((h.find? λkv=>decide (kv.1=t)).map (·.2)).getD []
def drop(h:Held α)(t:n_):Held α:=h.filter λkv=>decide (kv.1≠t)
noncomputable def minGo(f:α->Nat):List α->α->α
 |[],b=>b
 |x::xs,b=>if f x<f b then minGo f xs x else minGo f xs b
def left(h:Held α)(w:List α)(t:n_):List α:=w.filter λx=>!(at_ h t).contains x
def covL(rec:Held α->List α->List l_)(h:Held α)(w:List α):l_->Held α->List l_
 |[],_=>[]
 |t::ts,r=>(rec (drop r t) (left h w t)).map (t :: ·)++covL rec h w ts (drop r t)
def cov:Nat->Held α->List α->List l_
 |_,_,[]=>[[]]
 |0,_,_::_=>[]
 |m+1,h,x::w=>covL (cov m) h (x::w) (hold h (minGo (λy=>(hold h y).length) w x)) h
theorem minGo_mem(f:α->Nat):∀(l:List α)(b:α),minGo f l b=b\/minGo f l b∈l
 |[],b=>.inl rfl
 | x::xs,b=>by
  unfold minGo;split
  ·rcases minGo_mem f xs x with h|h
   ·exact .inr (by rw[h];exact av)
   ·exact .inr (al _ h)
  ·rcases minGo_mem f xs b with h|h
   ·exact .inl h
   ·exact .inr (al _ h)
def Cov(h:Held α)(w:List α)(S:l_):Prop:=(∀t∈S,t∈keys h)/\∀x∈w,∃t∈S,x∈at_ h t
def mem_drop{h:Held α}{t:n_}{kv:n_×List α}:kv∈drop h t↔kv∈h/\kv.1≠t:=by unfold drop;simp
def keys_drop{h:Held α}{t s:n_}:s∈keys (drop h t)↔s∈keys h/\s≠t:=by
 unfold keys;simp only[az,mem_drop];constructor
 ·rintro⟨a,⟨b,c⟩,rfl⟩;exact⟨⟨a,b,rfl⟩,c⟩
 ·rintro⟨⟨a,b,rfl⟩,c⟩;exact⟨a,⟨b,c⟩,rfl⟩
def nd_drop{h:Held α}{t:n_}(n:(keys h).Nodup):(keys (drop h t)).Nodup:=by exact n.sublist ((hJ).map _)
def Sa{h:Held α}{t s:n_}(b:s≠t):at_ (drop h t) s=at_ h s:=by
 unfold at_ drop;congr 2
 induction h with
 |nil=>rfl
 | cons kv r ih=>
  by_cases e:kv.1=t
  ·rw[dI ⇑e,gj (by simpa using λz=>b (z.symm.trans e)),ih]
  ·rw[dJ ⇑e];by_cases a:kv.1=s
   ·rw[iJ ⇑a,iJ ⇑a]
   ·rw[gj ⇑a,gj ⇑a,ih]
def at_mem{h:Held α}(n:(keys h).Nodup){kv:n_×List α}(m:kv∈h):at_ h kv.1=kv.2:=by
 unfold at_
 induction h with
 |nil=>cases m
 | cons a r ih=>
  unfold keys at n;rw[bJ,bA] at n;rcases ar.mp m with rfl|m
  ·rw[iJ 'd'];rfl
  ·have b:a.1≠kv.1:=λz=>n.1 (z▸az.mpr ⟨kv,m,rfl⟩);rw[gj ⇑b];exact ih n.2 m
def mem_hold{h:Held α}(n:(keys h).Nodup){x:α}{t:n_}:t∈hold h x↔t∈keys h/\x∈at_ h t:=by
 unfold hold;simp only[az,bd,fF];constructor
 ·rintro⟨b,⟨a,c⟩,rfl⟩;exact⟨az.mpr ⟨b,a,rfl⟩,by rw[at_mem n a];exact c⟩
 ·rintro⟨a,c⟩;obtain⟨b,d,rfl⟩:=az.mp a;exact⟨b,⟨d,by rw[<- at_mem n d];exact c⟩,rfl⟩
def hold_nd{h:Held α}(n:(keys h).Nodup)(x:α):(hold h x).Nodup:=by exact n.sublist ((hJ).map _)
def pk{h:Held α}{w:List α}{t:n_}{x:α}:x∈left h w t↔x∈w/\x∉at_ h t:=by unfold left;simp
theorem cov_sound:∀(m:Nat){h:Held α}{w:List α}{c:l_},(keys h).Nodup->c∈cov m h w->c.length<=m/\c.Nodup/\Cov h w c
 | m,h,[],c,n,hc=>by
  have:c=[]:=by unfold cov at hc;simpa using hc
  subst this;exact⟨bX _,ix,⟨λ_ z=>(bU z).elim,λ_ z=>(bU z).elim⟩⟩
 |0,h,x::w,c,n,hc=>by unfold cov at hc;cases hc
 | m+1,h,x::w,c,n,hc=>by
  have v:∀(b:l_)(r:Held α),(∀t∈b,t∈keys h)->(∀a∈r,a∈h)->(keys r).Nodup->c∈covL (cov m) h (x::w) b r->c.length<=m+1/\c.Nodup/\Cov h (x::w) c:=by
   intro b
   induction b with
   |nil=>intro r _ _ _ hc;cases hc
   | cons t b ih=>
    intro r g j k hc;rcases aQ.mp hc with hc|hc
    ·obtain⟨p,A,rfl⟩:=az.mp hc;obtain⟨B,C,q,D⟩:=cov_sound m (nd_drop k) A;have d:∀s∈p,s∈keys h/\s≠t:=λs hs=>by
      obtain⟨l,o⟩:=keys_drop.mp (q s hs);obtain⟨a,i,rfl⟩:=az.mp l;exact⟨az.mpr ⟨a,j a i,rfl⟩,o⟩
     have f:∀s∈p,at_ (drop r t) s=at_ h s:=λs hs=>by
      obtain⟨l,o⟩:=keys_drop.mp (q s hs);rw[Sa o];obtain⟨a,i,rfl⟩:=az.mp l;rw[at_mem k i,at_mem n (j a i)]
     refine⟨by simpa using B,bA.mpr ⟨λz=>(d t z).2 rfl,C⟩,λs hs=>?_,λy E=>?_⟩
     ·rcases ar.mp hs with rfl|hs
      ·exact g s av
      ·exact(d s hs).1
     ·by_cases e:y∈at_ h t
      ·exact⟨t,av,e⟩
      ·obtain⟨s,u,F⟩:=D y (pk.mpr ⟨E,e⟩);exact⟨s,al _ u,by rw[<- f s u];exact F⟩
    ·exact ih (drop r t) (λs hs=>g s (al _ hs)) (λa G=>j a (mem_drop.mp G).1) (nd_drop k) hc
  exact v _ h (λt g=>(mem_hold n).mp g |>.1) (λ_ h=>h) n hc
def cov_some:∀(m:Nat){h:Held α}{w:List α}{S:l_},(keys h).Nodup->Cov h w S->S.length<=m->∃c∈cov m h w,∀t∈c,t∈S
 |m,h,[],S,n,hS,hl=>⟨[],by unfold cov;simp,λ_ z=>(bU z).elim⟩
 | 0,h,x::w,S,n,hS,hl=>by
  obtain⟨t,a,_⟩:=hS.2 x av;have:S=[]:=cU.mp 'o';subst this;cases a
 | m+1,h,x::w,S,n,hS,hl=>by
  unfold cov;generalize u:minGo (λy=>(hold h y).length) w x=y;have G:y∈x::w:=by
   rcases minGo_mem (λy=>(hold h y).length) w x with e|e
   ·rw[<- u,e];exact av
   ·rw[<- u];exact al _ e
  obtain⟨s,v,H⟩:=hS.2 y G;have hs:=(mem_hold n).mpr ⟨hS.1 s v,H⟩;have I:∀(b:l_)(r:Held α),(∃t∈b,t∈S)->(∀d∈r,d∈h)->(keys r).Nodup->(∀t∈S,t∈keys r)->b.Nodup->∃c∈covL (cov m) h (x::w) b r,∀t∈c,t∈S:=by
   intro b
   induction b with
   |nil=>rintro r ⟨_,h,_⟩;cases h
   | cons t b ih=>
    intro r g A i f J;by_cases a:t∈S
    ·have K:Cov (drop r t) (left h (x::w) t) (S.filter λs=>decide (s≠t)):=by
      refine⟨λs hs=>?_,λz L=>?_⟩
      ·obtain⟨j,k⟩:=bd.mp hs;exact keys_drop.mpr ⟨f s j,by simpa using k⟩
      ·obtain⟨j,k⟩:=pk.mp L;obtain⟨l,B,C⟩:=hS.2 z j;have D:l≠t:=λe=>k (e▸C);refine⟨l,bd.mpr ⟨B,by simpa using D⟩,?_⟩;rw[Sa D];obtain⟨d,E,rfl⟩:=az.mp (f l B);rw[at_mem i E,<- at_mem n (A d E)];exact C
     have N:(S.filter λs=>decide (s≠t)).length<S.length:=by
      rcases fY (S.filter λs=>decide (s≠t)).length S.length with z|z
      ·exact z
      ·have e:=hJ.eq_of_length (nO (bD _ _) z);rw[<- e] at a;have:=(bd.mp a).2;simp at this
     obtain⟨c,o,p⟩:=cov_some m (nd_drop i) K 'o';refine⟨t::c,bS _ (az.mpr ⟨c,o,rfl⟩),λs hs=>?_⟩;rcases ar.mp hs with rfl|hs
     ·exact a
     ·exact(bd.mp (p s hs)).1
    ·obtain⟨M,q,F⟩:=g;have q:=(ar.mp q).resolve_left (λe=>a (e▸F));obtain⟨c,o,p⟩:=ih (drop r t) ⟨M,q,F⟩ (λd f=>A d (mem_drop.mp f).1) (nd_drop i) (λs hs=>keys_drop.mpr ⟨f s hs,λe=>a (e▸hs)⟩) (bA.mp J).2;exact⟨c,aC _ o,p⟩
  exact I _ h ⟨s,hs,v⟩ (λ_ h=>h) n hS.1 (hold_nd n y)
end
section
variable{α:Type}[DecidableEq α]
def drop_lt{r:Held α}{t:n_}(b:t∈keys r):(drop r t).length<r.length:=by
 obtain⟨a,h,rfl⟩:=az.mp b;rcases fY (drop r a.1).length r.length with z|z
 ·exact z
 ·have e:drop r a.1=r:=hJ.eq_of_length (nO (bD _ _) z);rw[<- e] at h;exact absurd rfl (mem_drop.mp h).2
theorem Th(a:∀r w,(keys r).Nodup->(rec r w).length<=2 ^ r.length):∀(ts:l_)(r:Held α),(∀t∈ts,t∈keys r)->ts.Nodup->(keys r).Nodup->(covL rec h w ts r).length<=2 ^ r.length
 |[],r,_,_,_=>bX _
 | t::ts,r,hk,nt,nr=>by
  unfold covL;rw[aA,aD];have d:=a (drop r t) (left h w t) (nd_drop nr);have f:=Th (h:=h) (w:=w) a ts (drop r t) (λs b=>keys_drop.mpr ⟨hk s (al _ b),λe=>(bA.mp nt).1 (e▸b)⟩) (bA.mp nt).2 (nd_drop nr);have c:2 ^ ((drop r t).length+1)<=2 ^ r.length:=de 'o' (drop_lt (hk t av));rw[Nat.pow_succ] at c;lia
theorem cov_pow:∀(m:Nat)(h:Held α)(w:List α),(keys h).Nodup->(cov m h w).length<=2 ^ h.length
 |m,h,[],_=>by unfold cov;exact jO
 |0,h,x::w,_=>by unfold cov;exact bX _
 | m+1,h,x::w,n=>by
  unfold cov;exact Th (cov_pow m) _ h (λt a=>((mem_hold n).mp a).1) (hold_nd n _) n
theorem perm_of_sub:∀{c S:l_},c.Nodup->(∀t∈c,t∈S)->S.length<=c.length->c.Perm S
 | [],S,_,_,h=>by
  have:S=[]:=cU.mp (Nat.le_zero.mp h);rw[this]
 | a::c,S,n,hs,h=>by
  have b:=hs a av;have d:=bA.mp n;have:=perm_of_sub (S:=S.erase a) d.2 (λt f=>(lV (λe:t=a=>d.1 (e▸f))).mpr (hs t (al _ f))) (by
   rw[kI b];rw[aT] at h;lia)
  exact(this.cons a).trans (List.perm_cons_erase b).symm
structure Lm(h:Held α)(w:List α)(m:Nat):Prop where
 nd:(keys h).Nodup
 ne:cov m h w≠[]
 no:∀j,j<m->cov j h w=[]
def Lm.le{h:Held α}{w:List α}{m:Nat}(z:Lm h w m){S:l_}(b:Cov h w S):m<=S.length:=by
 rcases fY S.length m with g|g
 ·obtain⟨c,a,_⟩:=cov_some S.length z.nd b (aB _);rw[z.no _ g] at a;cases a
 ·exact g
def Lm.len{h:Held α}{w:List α}{m:Nat}(z:Lm h w m){c:l_}(a:c∈cov m h w):c.length=m:=by obtain⟨d,_,b⟩:=cov_sound m z.nd a;have:=z.le b;lia
def Lm.all{h:Held α}{w:List α}{m:Nat}(z:Lm h w m){S:l_}(d:Cov h w S)(b:S.length=m):∃c∈cov m h w,c.Perm S:=by obtain⟨c,a,e⟩:=cov_some m z.nd d (ir b);exact⟨c,a,perm_of_sub (cov_sound m z.nd a).2.1 e (by rw[z.len a,b];exact aB _)⟩
end
end DLC
namespace DLB
def mkN(p:Nat->Bool):Nat->Nat
 |0=>0
 |N+1=>mkN p N+(if p N=Y1 then 2 ^ N else 0)
theorem Lz(p:Nat->Bool):∀N,mkN p N<2 ^ N
 |0=>Nat.one_pos
 | N+1=>by
  have:=Lz p N;unfold mkN;split<;>lia
theorem Jd(p:Nat->Bool)(i:Nat):∀N,(mkN p N).testBit i=(decide (i<N)&&p i)
 |0=>by unfold mkN;simp
 | N+1=>by
  have b:=Jd p i N;have c:=Lz p N;unfold mkN;rcases Nat.lt_trichotomy i N with h|h|h
  ·have e:decide (i<N+1)=Y1:=by simp;lia
   rw[decide_eq_true h] at b;rw[e];split
   ·rw[im,Nat.testBit_two_pow_add_gt h];exact b
   ·exact b
  ·subst h;have z:=li c;by_cases a:p i=Y1
   ·rw[JU a,im,Nat.testBit_two_pow_add_eq,z,a];simp
   ·rw[J5 a,kw,z];simp[a]
  ·have e:decide (i<N+1)=Y2:=by simp;lia
   rw[e,ll];have d:=Lz p (N+1);exact li (a9 d (de 's' h))
def orM{α:Type}(g:α->Nat)(l:List α):Nat:=l.foldl (λa t=>a ||| g t) 0
theorem QH{α:Type}(g:α->Nat)(i:Nat):∀(l:List α)(a:Nat),(l.foldl (λa t=>a ||| g t) a).testBit i=(a.testBit i||l.any λt=>(g t).testBit i)
 |[],a=>by simp
 |t::l,a=>by rw[fE,QH g i l,Nat.testBit_or,fZ,Bool.or_assoc]
def Sk{α:Type}(g:α->Nat)(l:List α)(i:Nat):(orM g l).testBit i=l.any λt=>(g t).testBit i:=by unfold orM;rw[QH,Nat.zero_testBit,jX]
def orM_app{α:Type}(g:α->Nat)(l:List α)(t:α):orM g (l++[t])=orM g l ||| g t:=by unfold orM;rw[mZ];rfl
def full_iff{α:Type}{p:α->Nat->Bool}{N:Nat}(l:List α):orM (λt=>mkN (p t) N) l=2 ^ N-1 ↔ ∀i,i<N->∃t∈l,p t i=Y1:=by
 constructor
 ·intro h i a;have:(orM (λt=>mkN (p t) N) l).testBit i=(2 ^ N-1).testBit i:=by rw[h]
  rw[Sk,jP,decide_eq_true a] at this;obtain⟨t,b,q⟩:=cC.mp this;rw[Jd,br] at q;exact⟨t,b,q.2⟩
 ·intro h;refine Nat.eq_of_testBit_eq λi=>?_;rw[Sk,jP];by_cases a:i<N
  ·rw[decide_eq_true a];obtain⟨t,b,q⟩:=h i a;exact cC.mpr ⟨t,b,by rw[Jd,q,decide_eq_true a];rfl⟩
  ·rw[decide_eq_false a,gz];intro t _;rw[Jd,decide_eq_false a];simp
theorem sum_mkN(p:Nat->Bool):∀N,(((aW N).filter p).map λi=>((2 ^ i:Nat):Int)).sum=(mkN p N:Nat)
 |0=>rfl
 | N+1=>by
  rw[nQ,jQ,bQ,nR,sum_mkN p N];have e:mkN p (N+1)=mkN p N+(if p N=Y1 then 2 ^ N else 0):=rfl;rw[e,eD,List.filter_nil];by_cases h:p N=Y1
  ·rw[JU h,JU h];simp
  ·rw[J5 h,J5 h];simp
noncomputable def nxt(r:n_):Nat:=match r.getLast? with
 |some k=>k+1
 |none=>0
def ext(many:Nat)(r:n_):l_:=(aW (many-nxt r)).map λi=>r++[nxt r+i]
def pks(many:Nat):Nat->l_
 |0=>[[]]
 |s+1=>(pks many s).flatMap (ext many)
def nxt_app(r:n_)(k:Nat):nxt (r++[k])=k+1:=by unfold nxt;rw[List.getLast?_concat]
def Zt{r:n_}(h:r.Pairwise (· < ·)){k:Nat}(a:k∈r):k<nxt r:=by
 rcases fG r with rfl|⟨b,z,rfl⟩
 ·cases a
 ·rw[fH] at h a ⊢;rw[nxt_app];rcases aQ.mp a with q|q
  ·have:=(bI.mp h).2.2 k q z 'd';lia
  ·have:k=z:=⇑q
   lia
theorem mem_pks{a:Nat}:∀{s:Nat}{r:n_},r∈pks a s↔r.length=s/\r.Pairwise (· < ·)/\∀k∈r,k<a
 | 0,r=>by
  unfold pks;constructor
  ·intro h;have:r=[]:=⇑h
   subst this;exact⟨rfl,eU,λ_ h=>(bU h).elim⟩
  ·rintro⟨h,_⟩;rw[cU.mp h];simp
 | s+1,r=>by
  unfold pks;rw[gQ];constructor
  ·rintro⟨c,m,n⟩;obtain⟨d,e,f⟩:=mem_pks.mp m;obtain⟨i,j,rfl⟩:=az.mp n;have j:=bz.mp j;refine⟨by rw[aA,d];rfl,bI.mpr ⟨e,by simp,λk g z l=>?_⟩,λk g=>?_⟩
   ·have:z=nxt c+i:=⇑l
    have:=Zt e g;lia
   ·rcases aQ.mp g with q|q
    ·exact f k q
    ·have:k=nxt c+i:=⇑q
     lia
  ·rintro⟨d,e,f⟩;rcases fG r with rfl|⟨c,z,rfl⟩
   ·cases d
   ·rw[fH] at d e f ⊢;have b:=bI.mp e;have l:nxt c<=z:=by
     rcases fG c with rfl|⟨o,y,rfl⟩
     ·exact bX _
     ·rw[fH,nxt_app];exact b.2.2 y 'd' z 'd'
    have p:=f z 'd';refine⟨c,mem_pks.mpr ⟨by rw[aA] at d;simpa using d,b.1,λk g=>f k (bS _ g)⟩,?_⟩;exact az.mpr ⟨z-nxt c,bz.mpr 'o',by congr 2;lia⟩
def uu(many:Nat)(l:l_):Nat:=(l.map λr=>2 ^ (many-nxt r)).sum
def RX(c:Nat)(a b:l_):uu c (a++b)=uu c a+uu c b:=by unfold uu;rw[bQ,nR]
def zhJ(a:Nat)(r:n_):uu a (ext a r)<=2 ^ (a-nxt r):=by
 have b:∀(d k j:Nat),k+j=d->uu a ((aW k).map λi=>r++[a-d+i])<=2 ^ d-2 ^ j\/a<d:=by
  intro d k
  induction k with
  |zero=>intro j h;left;simp[uu]
  | succ k ih=>
   intro j h;rcases ih (j+1) 'o' with q|q
   ·rcases fY a d with z|z
    ·exact .inr z
    ·left;rw[nQ,bQ,RX];have e:uu a (List.map (λi=>r++[a-d+i]) [k])=2 ^ j:=by
      unfold uu;simp only[bJ,il,iV,List.sum_nil,kw,nxt_app];congr 1;lia
     have c:2 ^ (j+1)<=2 ^ d:=de 's' 'o';lia
   ·exact .inr q
 unfold ext;rcases fY a (nxt r) with z|z
 ·have:a-nxt r=0:=by lia
  rw[this];simp[uu]
 ·rcases b (a-nxt r) (a-nxt r) 0 'o' with q|q
  ·have e:a-(a-nxt r)=nxt r:=by lia
   rw[e] at q;exact aG q (Nat.sub_le _ _)
  ·lia
theorem TC(a:Nat):∀l:l_,uu a (l.flatMap (ext a))<=uu a l
 |[]=>aB _
 | r::l=>by
  rw[dh,RX];have b:=zhJ a r;have c:=TC a l;have e:uu a (r::l)=2 ^ (a-nxt r)+uu a l:=by
   unfold uu;rw[bJ,iV]
  lia
theorem R6(a:Nat):∀s,uu a (pks a s)<=2 ^ a
 | 0=>by
  unfold pks uu;simp[nxt]
 |s+1=>aG (TC a _) (R6 a s)
theorem R0(a:Nat):∀l:l_,l.length<=uu a l
 |[]=>aB _
 | r::l=>by
  have:=R0 a l;have e:uu a (r::l)=2 ^ (a-nxt r)+uu a l:=by
   unfold uu;rw[bJ,iV]
  have:=jO (n:=a-nxt r);rw[aT];lia
def pks_few(a s:Nat):(pks a s).length<=2 ^ a:=aG (R0 a _) (R6 a s)
end DLB
namespace DL
open PySem L2
def HE:List au->Bool
 |[]=>Y1
 |x::l=>!(l.contains x)&&HE l
theorem vD:∀{l:List au},HE l=Y1->l.Nodup
 |[],_=>ix
 | x::l,h=>by
  unfold HE at h;rw[br,ef] at h;refine bA.mpr ⟨λm=>?_,vD h.2⟩;rw[fF.mpr m] at h;exact Bool.noConfusion h.1
noncomputable def KU:Option dB->Bool
 |some .local=>Y1
 |some .cell=>Y1
 |_=>Y2
def zi7(h:KU o=Y1):o=XE .local\/o=XE .cell:=by
 unfold KU at h;split at h
 ·exact .inl rfl
 ·exact .inr rfl
 ·cases h
def kNf:dB->Bool
 |.free=>Y2
 |_=>Y1
def Xi(N P:List au)(sc:cf):Bool:=HE N&&(N.take P.length==P)&&P.all (λx=>KU (sc.names.lookup x))&&sc.names.all (λy=>kNf y.2)
def fnS(f:sc.kind=.function)(g:sc.isCoroutine=Y2)(i:sc.isGenerator=Y2)(h:Xi N P sc=Y1):rO N P sc:=by unfold Xi at h;simp only[br] at h;obtain⟨⟨⟨a,b⟩,c⟩,d⟩:=h;refine⟨f,g,i,vD a,eq_of_beq b,λx j=>zi7 (ay.mp c x j),λy k e=>?_⟩;have:=ay.mp d y k;rw[e] at this;cases this
end DL
namespace DL
open PySem
noncomputable def pl:Nat->D->Bool
 |n,.non=>Y1
 |n,.int _=>Y1
 |n,.str cs=>cs.all (· < 1114112)
 |n+1,.lst ds=>ds.all (pl n)
 |n+1,.tup ds=>ds.all (pl n)
 |_,_=>Y2
theorem Jq{α β:Type}{f:α->Option β}:∀{l:List α},(∀x∈l,∃y,f x=XE y)->∃m,qe f l=XE m
 |[],_=>⟨[],rfl⟩
 | x::l,h=>by
  obtain⟨y,a⟩:=h x av;obtain⟨m,b⟩:=Jq λz c=>h z (al _ c);exact⟨y::m,by unfold qe;rw[a,b]⟩
def Jf(O:Ow):∀(n:Nat)(d:D),pl n d=Y1->∃p,qJ O n d=XE p:=by
 intro n
 induction n with
 | zero=>
  intro d h;cases d with
  |non=>exact⟨_,rfl⟩
  |int i=>exact⟨_,rfl⟩
  | str cs=>
   refine⟨.str ⟨cs.toArray⟩,?_⟩;show zB cs=_;unfold zB;rw[JU (by simpa [pl] using h)]
  |_=>simp[pl] at h
 | succ n ih=>
  intro d h;cases d with
  |non=>exact⟨_,rfl⟩
  |int i=>exact⟨_,rfl⟩
  | str cs=>
   refine⟨.str ⟨cs.toArray⟩,?_⟩;show zB cs=_;unfold zB;rw[JU (by simpa [pl] using h)]
  | lst ds=>
   obtain⟨m,a⟩:=Jq λx b=>ih x (ay.mp h x b);exact⟨.list m,by show(qe (qJ O n) ds).map eE=_;rw[a];rfl⟩
  | tup ds=>
   obtain⟨m,a⟩:=Jq λx b=>ih x (ay.mp h x b);exact⟨.tuple m,by show(qe (qJ O n) ds).map io=_;rw[a];rfl⟩
  |_=>simp[pl] at h
theorem VE{f:D->Option ee}(R:∀x y p q,f x=XE p->f y=XE q->pl 0 x=pl 0 x->True){P:D->Prop}(e:∀x y p q,P x->P y->f x=XE p->f y=XE q->(bj p q=Y1↔x=y)):
  ∀(xs a:List D)(b c:List ee),(∀x∈xs,P x)->(∀y∈a,P y)->qe f xs=XE b->qe f a=XE c->(fO b c=Y1↔xs=a)
 |[],[],b,c,_,_,e1,e2=>by cases e1;cases e2;simp[fO]
 | [],y::a,b,c,_,_,e1,e2=>by
  cases e1;unfold qe at e2;split at e2
  ·cases e2;simp[fO]
  ·cases e2
 | x::xs,[],b,c,_,_,e1,e2=>by
  cases e2;unfold qe at e1;split at e1
  ·cases e1;simp[fO]
  ·cases e1
 | x::xs,y::a,b,c,h1,h2,e1,e2=>by
  unfold qe at e1 e2;split at e1
  ·rename_i p g i j;cases e1;split at e2
   ·rename_i q h k l;cases e2;have m:=e x y p q (h1 x av) (h2 y av) i k;have n:=VE R e xs a g h (λz d=>h1 z (al _ d)) (λz d=>h2 z (al _ d)) j l;show(bj p q&&fO g h)=Y1↔_;rw[br,m,n,List.cons.injEq]
   ·cases e2
  ·cases e1
def zM(h:zB cs=XE p):p=.str ⟨cs.toArray⟩:=by
 unfold zB at h;split at h
 ·cases h;rfl
 ·cases h
def Sb(a b:n_):bj (.str ⟨a.toArray⟩) (.str ⟨b.toArray⟩)=Y1↔D.str a=D.str b:=by
 show((⟨a.toArray⟩:au)==⟨b.toArray⟩)=Y1↔_;rw[beq_iff_eq];constructor
 ·intro h;have h:a.toArray=b.toArray:=by injection h
  rw[show a=b by simpa using congrArg mr h]
 ·intro h;injection h with h;rw[h]
def Q4(O:Ow):∀(n:Nat)(x y:D)(p q:ee),pl n x=Y1->pl n y=Y1->qJ O n x=XE p->qJ O n y=XE q->(bj p q=Y1↔x=y):=by
 intro n
 induction n with
 | zero=>
  intro x y p q v l m f;cases x with
  | non=>cases m;cases y with
   |non=>cases f;simp[bj]
   |int j=>cases f;simp[bj]
   |str b=>have:=zM f;subst this;simp[bj]
   |_=>simp[pl] at l
  | int i=>cases m;cases y with
   |non=>cases f;simp[bj]
   |int j=>cases f;simp[bj]
   |str b=>have:=zM f;subst this;simp[bj]
   |_=>simp[pl] at l
  | str a=>have:=zM m;subst this;cases y with
   |non=>cases f;simp[bj]
   |int j=>cases f;simp[bj]
   |str b=>have:=zM f;subst this;exact Sb a b
   |_=>simp[pl] at l
  |_=>simp[pl] at v
 | succ n ih=>
  have w:∀s k g r,(s.all (pl n))=Y1->(k.all (pl n))=Y1->qe (qJ O n) s=XE g->qe (qJ O n) k=XE r->(fO g r=Y1↔s=k):=λs k g r z A m f=>
   VE (λ_ _ _ _ _ _ _=>trivial) (λx y p q a b c d=>ih x y p q a b c d) s k g r (ay.mp z) (ay.mp A) m f
  have t:∀{o:List D}{p},qJ O (n+1) (.lst o)=XE p->∃g,qe (qJ O n) o=XE g/\p=.list g:=λ{o p}e=>by
   have e:(qe (qJ O n) o).map eE=XE p:=e;cases h:qe (qJ O n) o with
   |none=>rw[h] at e;cases e
   |some g=>rw[h] at e;cases e;exact⟨g,rfl,rfl⟩
  have u:∀{o:List D}{p},qJ O (n+1) (.tup o)=XE p->∃g,qe (qJ O n) o=XE g/\p=.tuple g:=λ{o p}e=>by
   have e:(qe (qJ O n) o).map io=XE p:=e;cases h:qe (qJ O n) o with
   |none=>rw[h] at e;cases e
   |some g=>rw[h] at e;cases e;exact⟨g,rfl,rfl⟩
  intro x y p q v l m f;cases x with
  | non=>cases m;cases y with
   |non=>cases f;simp[bj]
   |int j=>cases f;simp[bj]
   |str b=>have:=zM f;subst this;simp[bj]
   |lst k=>obtain⟨_,_,rfl⟩:=t f;simp[bj]
   |tup k=>obtain⟨_,_,rfl⟩:=u f;simp[bj]
   |_=>simp[pl] at l
  | int i=>cases m;cases y with
   |non=>cases f;simp[bj]
   |int j=>cases f;simp[bj]
   |str b=>have:=zM f;subst this;simp[bj]
   |lst k=>obtain⟨_,_,rfl⟩:=t f;simp[bj]
   |tup k=>obtain⟨_,_,rfl⟩:=u f;simp[bj]
   |_=>simp[pl] at l
  | str a=>have:=zM m;subst this;cases y with
   |non=>cases f;simp[bj]
   |int j=>cases f;simp[bj]
   |str b=>have:=zM f;subst this;exact Sb a b
   |lst k=>obtain⟨_,_,rfl⟩:=t f;simp[bj]
   |tup k=>obtain⟨_,_,rfl⟩:=u f;simp[bj]
   |_=>simp[pl] at l
  | lst s=>obtain⟨g,z,rfl⟩:=t m;cases y with
   |non=>cases f;simp[bj]
   |int j=>cases f;simp[bj]
   |str b=>have:=zM f;subst this;simp[bj]
   | lst k=>
    obtain⟨r,A,rfl⟩:=t f;show fO g r=Y1↔_;rw[w s k g r v l z A,D.lst.injEq]
   |tup k=>obtain⟨_,_,rfl⟩:=u f;simp[bj]
   |_=>simp[pl] at l
  | tup s=>obtain⟨g,z,rfl⟩:=u m;cases y with
   |non=>cases f;simp[bj]
   |int j=>cases f;simp[bj]
   |str b=>have:=zM f;subst this;simp[bj]
   |lst k=>obtain⟨_,_,rfl⟩:=t f;simp[bj]
   | tup k=>
    obtain⟨r,A,rfl⟩:=u f;show fO g r=Y1↔_;rw[w s k g r v l z A,D.tup.injEq]
   |_=>simp[pl] at l
  |_=>simp[pl] at v
def La(O:Ow)(a:pl 8 x=Y1)(c:pl 8 y=Y1)(f:b=Y1↔x=y):pU rV O x y=.ok (.bl b) O/\pU rB O x y=.ok (.bl !b) O:=by obtain⟨p,d⟩:=Jf O 8 x a;obtain⟨q,e⟩:=Jf O 8 y c;have h:=Q4 O 8 x y p q a c d e;have:=dZ.mpr (h.trans f.symm);unfold pU py;rw[d,e];subst this;exact⟨rfl,rfl⟩
theorem Tc(b:pl n x=Y1)(c:qJ O n x=XE p):∀(l:List D)(a:List ee),(l.all (pl n))=Y1->qe (qJ O n) l=XE a->((a.any λy=>bj y p)=Y1↔x∈l)
 |[],a,_,e=>by cases e;simp
 | y::l,a,h,e=>by
  unfold qe at e;split at e
  ·rename_i q d f g;cases e;rw[l9,br] at h;rw[fZ,kW,Q4 O n y x q p h.1 b f c,Tc b c l d h.2 g,ar];exact⟨λz=>z.imp Eq.symm id,λz=>z.imp Eq.symm id⟩
  ·cases e
def zbN(O:Ow):∀(n:Nat)(d:D)(p:ee),pl n d=Y1->qJ O n d=XE p->qJ O (n+1) d=XE p:=by
 intro n
 induction n with
 |zero=>intro d p h e;cases d<;>first|exact e|(simp[pl] at h)
 | succ n ih=>
  have f:∀(a:List D)b,(a.all (pl n))=Y1->qe (qJ O n) a=XE b->qe (qJ O (n+1)) a=XE b:=by
   intro a
   induction a with
   |nil=>intro b _ e;exact e
   | cons x a ihd=>
    intro b h e;rw[l9,br] at h;unfold qe at e ⊢;split at e
    ·rename_i q g j k;rw[ih x q h.1 j,ihd g h.2 k];exact e
    ·cases e
  intro d p h e;cases d with
  | lst a=>
   have e:(qe (qJ O n) a).map eE=XE p:=e;show(qe (qJ O (n+1)) a).map eE=XE p;cases c:qe (qJ O n) a with
   |none=>rw[c] at e;cases e
   |some b=>rw[c] at e;rw[f a b h c];exact e
  | tup a=>
   have e:(qe (qJ O n) a).map io=XE p:=e;show(qe (qJ O (n+1)) a).map io=XE p;cases c:qe (qJ O n) a with
   |none=>rw[c] at e;cases e
   |some b=>rw[c] at e;rw[f a b h c];exact e
  |non=>exact e
  |int i=>exact e
  |str cs=>exact e
  |_=>simp[pl] at h
def PF(O:Ow){x y:D}{l:List D}(j:pl 7 x=Y1)(n:l.all (pl 7)=Y1)(a:r_ O y=XE l\/y=.tup l){b:Bool}(q:b=Y1↔x∈l):BL O x y=.ok (.bl b) O/\A5 O x y=.ok (.bl !b) O:=by
 obtain⟨p,o⟩:=Jf O 7 x j;obtain⟨m,d⟩:=Jq λz r=>Jf O 7 z (ay.mp n z r);have h:=Tc j o l m n d;have e:=dZ.mpr (h.trans q.symm);have f:py O x=XE p:=zbN O 7 x p j o;rcases a with a|rfl
 ·have c:py O y=XE (.list m):=by
   cases y with
   |lst ds=>cases a;show(qe (qJ O 7) l).map eE=_;rw[d];rfl
   | own k=>
    have a:O[k]?=XE l:=a;show(match O[k]? with|some ds=>(qe (qJ O 7) ds).map eE|none=>YP)=_;rw[a];dsimp only;rw[d];rfl
   |_=>cases a
  have g:pU BE O x y=.ok (.bl b) O:=by unfold pU;rw[f,c];subst e;rfl
  have i:pU DF O x y=.ok (.bl !b) O:=by unfold pU;rw[f,c];subst e;rfl
  cases y with
  |lst ds=>exact⟨g,i⟩
  |own k=>exact⟨g,i⟩
  |_=>cases a
 ·have c:py O (.tup l)=XE (.tuple m):=by show(qe (qJ O 7) l).map io=_;rw[d];rfl
  have g:pU BE O x (.tup l)=.ok (.bl b) O:=by unfold pU;rw[f,c];subst e;rfl
  have i:pU DF O x (.tup l)=.ok (.bl !b) O:=by unfold pU;rw[f,c];subst e;rfl
  exact⟨g,i⟩
def Jo(c:t σ O=.ok a O)(d:a=Y1->u σ O=.ok b O):yG t u σ O=.ok (a&&b) O:=by
 show((t σ O).bnd _)=_;rw[c];cases a with
 |true=>exact d rfl
 |false=>rfl
def Fh(O:Ow)(a:x.all (pl 7)=Y1)(c:y.all (pl 7)=Y1)(d:b=Y1↔x=y):pU rV O (.lst x) (.lst y)=.ok (.bl b) O/\pU rB O (.lst x) (.lst y)=.ok (.bl !b) O:=
 La O (x:=.lst x) (y:=.lst y) a c (d.trans (by rw[D.lst.injEq]))
def Ft(n:Nat)(l:n_):(l.map λ(p:Nat)=>D.int (p:Int)).all (pl n)=Y1:=ay.mpr λd a=>by
 obtain⟨p,_,rfl⟩:=az.mp a;cases n<;>rfl
section
variable{σ:Sg}{O O1 O2:Ow}{t u:DE}{d a:DS}{x y:D}{r:RS}{i:Nat}{c:DT}{tA:DA}{ds:List D}
def sI(h:t σ O=.ok x O1)(b:d (σ.set i (XE x)) O1=r):pL (p_ i t) d σ O=r:=by rw[tJ (AD h)];exact b
def vQ(h:a σ O=.nx σ' O1)(b:d σ' O1=r):pL a d σ O=r:=by rw[tJ h];exact b
def Sy(h:t σ O=.ok x O1)(b:d σ O1=r):pL (tG t) d σ O=r:=by rw[tJ (Mp h)];exact b
def Bi(h:c σ O=.ok Y2 O1)(b:d σ O1=r):pL (qT c a' qS) d σ O=r:=by rw[tJ (by rw[ug h];rfl)];exact b
def Ip(h:c σ O=.ok Y1 O1)(b:a' σ O1=.rt x O2):pL (qT c a' e) d σ O=.rt x O2:=Fp (by rw[ug h,JU rfl];exact b)
def xO(h:d σ O=.rt x O1):fin (d σ O)=.ok x O1:=by rw[h];rfl
def yJ(h:t σ O=.ok x O1):fin (pT t σ O)=.ok x O1:=by rw[tI h];rfl
def rh(b:t σ O=.ok x O1)(e:u σ O1=.ok y O2)(g:f O2 x y=z):g_ f t u σ O=z:=by rw[rp b e];exact g
def tU(b:tA σ O=.ok ds O1)(e:f O1 ds=z):pP f tA σ O=z:=by rw[xr b];exact e
def rq(b:tA σ O=.ok ds O1)(e:F ds O1=z)(f:ds.length=n:=by rfl):o_ n F tA σ O=z:=by rw[yj b f];exact e
end
end DL
set_option maxHeartbeats 400000
namespace K51
open PySem L2 DL
abbrev pM(x:Int):Option D:=XE (.int x)
abbrev qF(x:List D):Option D:=XE (.tup x)
abbrev qO(x:List D):Option D:=XE (.lst x)
abbrev sJ(x:n_):Option D:=XE (.str x)
abbrev qA(x:Nat):Option D:=XE (.own x)
abbrev Ew(x:Bool):Option D:=XE (.bl x)
def top(i:Nat):cT:=PySem.Challenge.pw_leastterms_k51_least_products.main.body.getD i (.Pass ⟨0,0,0,0⟩)
def xR:List (Int×Int):=[(2,1),(4,2),(8,3),(16,4)]
noncomputable def Ca:Nat->Nat:=λc=>match c with
 |_=>37
def Cl:Nat->ae:=λc=>.ref (Ca c)
structure Txt(K:aj)(mg:au->Option ae):Prop where
 w0:qw K mg "is_whole" (top 12)
 w1:qw K mg "is_whole_within" (top 13)
 w2:qw K mg "is_answer" (top 16)
 w3:qw K mg "is_function" (top 17)
 w4:qw K mg "need_function" (top 18)
 w5:qw K mg "switches_of" (top 19)
 w6:qw K mg "points_with" (top 20)
 w7:qw K mg "all_terms" (top 23)
 w8:qw K mg "bits_of" (top 24)
 w9:qw K mg "points_of" (top 25)
 wa:qw K mg "with_sign" (top 26)
 wb:qw K mg "signs_in" (top 27)
 wc:qw K mg "holds_no_nought" (top 29)
 wd:qw K mg "holds_a_one" (top 30)
 we:qw K mg "good_terms" (top 31)
 wf:qw K mg "can_widen_at" (top 32)
 wg:qw K mg "is_widest" (top 33)
 wh:qw K mg "greatest" (top 34)
 wi:qw K mg "signs_of" (top 36)
 wj:qw K mg "holders_in" (top 37)
 wk:qw K mg "covers" (top 38)
 wl:qw K mg "least_covers" (top 39)
 wm:qw K mg "held_points" (top 40)
 wn:qw K mg "least_forms" (top 41)
 wo:qw K mg "least_form" (top 42)
 wp:qw K mg "opposite_answer" (top 44)
 wq:qw K mg "opposite" (top 45)
 wr:qw K mg "least_product" (top 46)
 ws:qw K mg "length_of" (top 47)
 wt:qw K mg "shorter_side" (top 48)
 wu:qw K mg "_law_cell_at" (top 50)
 wv:qw K mg "_law_state" (top 51)
 ww:qw K mg "_law_take" (top 52)
 wx:qw K mg "_law_function" (top 53)
 wy:qw K mg "_law_terms" (top 54)
 wz:qw K mg "_law_switches" (top 55)
 wA:qw K mg "_law_holds" (top 56)
 wB:qw K mg "_law_good" (top 57)
 wC:qw K mg "_law_lies_in" (top 58)
 wD:qw K mg "_law_ones" (top 59)
 wE:qw K mg "_law_greatest" (top 60)
 wF:qw K mg "_law_masks" (top 61)
 wG:qw K mg "_law_picks" (top 62)
 wH:qw K mg "_law_signs" (top 63)
 wI:qw K mg "_law_least" (top 64)
 wJ:qw K mg "_law_opposite" (top 65)
 wK:qw K mg "_law_same" (top 66)
 wL:qw K mg "_law_bad_function" (top 67)
 wM:qw K mg "_law_refused" (top 68)
 wN:qw K mg "law" (top 69)
 wO:mg "ValueError" = YP
 wP:mg "all" = YP
 wQ:mg "any" = YP
 wR:mg "bool" = YP
 wS:mg "dict" = YP
 wT:mg "enumerate" = YP
 wU:mg "int" = YP
 wV:mg "isinstance" = YP
 wW:mg "len" = YP
 wX:mg "list" = YP
 wY:mg "max" = YP
 wZ:mg "min" = YP
 w01:mg "range" = YP
 w11:mg "sorted" = YP
 w21:mg "str" = YP
 w31:mg "sum" = YP
 w41:mg "tuple" = YP
 w51:mg "zip" = YP
 w61:KS mg "SIGNS" [45,48,49]
 w71:BX K mg "SWITCHES_BY_POINTS" xR
 w81:mg "NoFunction" = XE (.ref 37)
 w91:mg "NoTerm" = XE (.ref 49)
 wa1:mg "NoPoint" = XE (.ref 61)
 wb1:mg "NoNumber" = XE (.ref 73)
 wc1:mg "NoForm" = XE (.ref 85)
 wd1:mg "NoChange" = XE (.ref 97)
 we1:mg "NoText" = XE (.ref 109)
 wf1:mg "NoLine" = XE (.ref 121)
 wg1:mg "NoDeed" = XE (.ref 133)
 wh1:mg "TermError" = XE (.ref 24)
 wi1:a7 K (.type "NoneType") (.ref 37)=XE Y2
 wj1:a7 K (.type "NoneType") (.ref 49)=XE Y2
 wk1:a7 K (.type "NoneType") (.ref 61)=XE Y2
 wl1:a7 K (.type "NoneType") (.ref 73)=XE Y2
 wm1:a7 K (.type "NoneType") (.ref 85)=XE Y2
 wn1:a7 K (.type "NoneType") (.ref 97)=XE Y2
 wo1:a7 K (.type "NoneType") (.ref 109)=XE Y2
 wp1:a7 K (.type "NoneType") (.ref 121)=XE Y2
 wq1:a7 K (.type "NoneType") (.ref 133)=XE Y2
 wr1:a7 K (.type "NoneType") (.type "ValueError")=XE Y2
 ws1:fk K (.ref 37) (.ref 24)=XE Y1
 wt1:a7 K (.ref 37) (.ref 37)=XE Y1
 wu1:a7 K (.ref 37) (.ref 49)=XE Y2
 wv1:a7 K (.ref 37) (.ref 61)=XE Y2
 ww1:a7 K (.ref 37) (.ref 73)=XE Y2
 wx1:a7 K (.ref 37) (.ref 85)=XE Y2
 wy1:a7 K (.ref 37) (.ref 97)=XE Y2
 wz1:a7 K (.ref 37) (.ref 109)=XE Y2
 wA1:a7 K (.ref 37) (.ref 121)=XE Y2
 wB1:a7 K (.ref 37) (.ref 133)=XE Y2
 wC1:a7 K (.ref 37) (.type "ValueError")=XE Y1
 wD1:A3 K 37
class CI (F:pY) (x:outParam au) (k n:outParam Nat):Prop where
 out:∀{P:aJ}{w:aU}{K:aj}{mg:au->Option ae}{base:aR},Txt K mg->Callee P w K mg base x k n F
structure yA(mg:au->Option ae)(base:aR):Prop where
 z00:K0 mg base "NoFunction" 37
def vE(b:Bool):Nat->Option Bool:=λC=>if C=37 then XE b else YP
def kf{K:aj}{v:ae}{b:Bool}(h:a7 K (.ref 37) v=XE b):∀C a,vE b C=XE a->a7 K (.ref C) v=XE a:=λC a e=>by
 unfold vE at e;split at e
 ·subst C;cases e;exact h
 ·cases e
def XI{K:aj}{a:au->Option ae}(T:Txt K a):∀c,Cl c=.ref (Ca c)/\A3 K (Ca c)/\fk K (.ref (Ca c)) (.ref 24)=XE Y1:=by intro c;refine⟨rfl,?_⟩;unfold Ca;exact⟨T.wD1,T.ws1⟩
section
variable{P:aJ}{w:aU}{K:aj}{mg:au->Option ae}{base:aR}
def us0{C:List ae->Prop}(h:C []):∀a,a.length=0->C a
 |[],_=>h
def us1{C:List ae->Prop}(h:∀a,C [a]):∀b,b.length=1->C b
 |[a],_=>h a
def We{C:List ae->Prop}(h:∀a b,C [a,b]):∀c,c.length=2->C c
 |[a,b],_=>h a b
def us3{C:List ae->Prop}(h:∀a b c,C [a,b,c]):∀d,d.length=3->C d
 |[a,b,c],_=>h a b c
set_option hygiene false
local macro_rules|`(tactic| exists $t)=>`(tactic| with_reducible show PD _ _ _ $t)
local macro_rules|`(tactic| exists $x,2)=>`(tactic| exact zfV $x _ rfl (IF (by kernel_rfl)) (by walk_at "i") (by walk_at "q4"))
local macro_rules|`(tactic| exists $x,3)=>`(tactic| exact zcH $x rfl (IF (by kernel_rfl)) (by walk_at "i") (by walk_at "q5"))
local macro_rules|`(tactic| exists $x,4)=>`(tactic| exact z7B $x _ rfl (vD (by kernel_rfl)) rfl rfl (IF (by kernel_rfl)) (by walk_at "i") (by walk_at "q4") rfl)
local macro_rules|`(tactic| exists $x,6)=>`(tactic| exact z8o $x _ rfl (vD (by kernel_rfl)) rfl rfl (IF (by kernel_rfl)) (by walk_at "i") (by walk_at "q4") rfl)
local macro_rules|`(tactic| exists $f,$a,$b,$c,$d)=>`(tactic| (with_reducible show PD _ _ _ (pP $f _));refine zfx $a $b rfl $c $d ?_<;>walk_at "a")
local macro_rules|`(tactic| exists $f,$a,$b)=>`(tactic| (with_reducible show PD _ _ _ (g_ $f _ _));refine HW $a $b ?_ ?_<;>walk_at "e")
local macro_rules|`(tactic| exists $f,$a,$b,0)=>`(tactic| (with_reducible show PD _ _ _ (g_ $f _ _));exact Lw $a $b '2' '2' (Aw _))
local macro_rules|`(tactic| exists $t,0)=>`(tactic| with_reducible show rF _ _ _ $t)
local macro_rules|`(tactic| exists $t,1)=>`(tactic| with_reducible show uA _ _ _ $t)
local macro_rules|`(tactic| walk_at "q4")=>`(tactic| exact λ_ _ _ _ _=>⟨by walk_at "g",by walk_at "fs",by walk_at "cs",'2'⟩)
local macro_rules|`(tactic| walk_at "q5")=>`(tactic| exact λ_ _ _ _ _=>⟨by walk_at "g",by walk_at "fs",by walk_at "cs",'2','2'⟩)
local macro_rules|`(tactic| exists $v,$g,$n,$k,0,0)=>`(tactic| (with_reducible show PD _ _ _ (vL (vE $v) _));exact zhP (f:=vE $v) '2' rfl T.wV Cp rfl $g $n (kf $k))
local macro_rules|`(tactic| walk_at "u")=>`(tactic| intro _ _ _ _ _ _;first|exact us1 λ_=>rfl|exact We λ_ _=>rfl|exact us3 λ_ _ _=>rfl|exact us0 rfl)
local macro_rules|`(tactic| walk_at "z")=>`(tactic| exact fnS rfl rfl rfl (by kernel_rfl))
section
local macro_rules|`(tactic| walk_at "v")=>`(tactic| first|exact .inl rfl|exact .inr (.inl rfl)|exact .inr (.inr rfl))
local macro_rules|`(tactic| walk_at "l")=>`(tactic| first|exact .inl rfl|exact .inr rfl)
local macro_rules|`(tactic| walk_at "le")=>`(tactic| first|decide|exact aB _|lia)
local macro_rules|`(tactic| walk_at "fx")=>`(tactic| first|refine QX h hr '3' rfl ?_<;>walk_at "a")
local macro_rules|`(tactic| walk_at "f")=>`(tactic| first|exact QX (CI.out T) hr '3' rfl '6'|((exists (o_ _ _ _));have h:=c_self;walk_at "fx"))
local macro_rules|`(tactic| walk_at "k")=>`(tactic| first|exact QE|exact QM _ rfl|exact Ro|exact Qu)
local macro_rules|`(tactic| walk_at "n")=>`(tactic| first|exact SH T.w61)
local macro_rules|`(tactic| walk_at "o")=>`(tactic| first|((exists (g_ rD _ _));refine Rn ?_ ?_<;>walk_at "e")|((exists (g_ qi _ _));exact P4 '2' '2' (λ_ _=>rfl))|((exists (g_ zD _ _));refine zjE ?_ ?_<;>walk_at "e")|exists (fI vA),ZE,zih|exists (fI uL),Zu,zjd|exists (fI ye),zjn,zid|exists (fI uB),Zb,zjt|exists (fI E5),Zy,zhx|exists (fI xl),ZX,zj0|exists (fI Hu),zk7,zjy|exists (fI KW),Zf,zii|exists (fI Ku),YE,zki|((exists (g_ (HZ _) _ _));refine HW zhA (zfQ _) ?_ ?_<;>walk_at "e")|exists xC,H_,Iu,0|exists Dl,P_,Ri,0|exists (pU rV),(RZ hr.units),Bl,0|exists (pU rB),(I_ hr.units),Bl,0|((exists (g_ BL _ _));exact Lw (Rg hr.units) Rf '2' '2' rfl)|((exists (g_ A5 _ _));exact Lw (SI hr.units) Sn '2' '2' rfl)|exists DM,Rw,RI,0|((exists (Az true xR _));refine zcW T.w71 rfl ?_<;>walk_at "e")|((exists (Ln G4 G4 _ _ _));refine zfK Qd QC Qd QC ?_ ?_ ?_<;>walk_at "e"))
local macro_rules|`(tactic| walk_at "c")=>`(tactic| first|exists qu,Tu,QS,T.wW,Rj|exists BR,(zdb rfl),Zi,T.wP,zkM|exists Dz,(zea rfl),zkI,T.wQ,YZ|exists Ba,(zcs rfl),ZV,T.w31,zkO|exists Fb,(zbI rfl),ziv,T.wZ,Iq|((exists (pP Au _));refine Ji zdR zi2 rfl T.wU Rk ?_<;>walk_at "a")|((exists (pP yk _));refine Ji V4 Ud rfl T.w41 Jg ?_<;>walk_at "a")|((exists (pP Ii _));refine Ji z8g zja rfl T.w21 ZA ?_<;>walk_at "a")|((exists (r9 "bool" _));exact Iv '2' (by decide) rfl T.wV Cp rfl T.wR zjG)|((exists (r9 "int" _));exact Iv '2' (by decide) rfl T.wV Cp rfl T.wU Rk)|((exists (r9 "list" _));exact Iv '2' (by decide) rfl T.wV Cp rfl T.wX RM)|((exists (r9 "tuple" _));exact Iv '2' (by decide) rfl T.wV Cp rfl T.w41 Jg)|((exists (D1 "tuple" "list" _));exact zjx '2' (by decide) (by decide) rfl T.wV Cp rfl T.w41 Jg rfl T.wX RM)|((exists (sj _ _ _ (FC _) _));refine IK (zbB T hT L) hr '3' rfl ?_<;>walk_at "a")|((exists (sj _ _ _ (FR _) _));refine IK (V8 T hT L) hr '3' rfl ?_<;>walk_at "a")|((exists (sj _ _ _ F _));refine IK c_self hr '3' rfl ?_<;>walk_at "a")|((exists (sj _ _ _ _ _));refine IK c_self hr '3' rfl ?_<;>walk_at "a")|((exists (DP _ _ _ _));exact zfO (k:=2) (hr.mono (by lia)) rfl L rfl (by kernel_rfl) rfl (λ_ _ _ _ _ _ _=>rfl) (vD (by kernel_rfl)) '2' (λq lam cd cl A outer s H hr=>'2') rfl T.wZ)|exists HX,(zcR rfl hr.units),zhV,T.wZ,Iq|exists E8,zbH,zhF,T.w11,Vi|exists B4,zcl,zir,T.w11,Vi)
local macro_rules|`(tactic| walk_at "pk")=>`(tactic| first|exact QG|exact Rh|exact Lo)
local macro_rules|`(tactic| walk_at "pp")=>`(tactic| first|exact zfW (by walk_at "pk") (by walk_at "pk") (by walk_at "pp")|exact zis)
local macro_rules|`(tactic| walk_at "so")=>`(tactic| first|((with_reducible show Ds _ _ _ H8);exact zfq)|refine Ui ?_<;>walk_at "e")
local macro_rules|`(tactic| walk_at "m")=>`(tactic| first|((exists (yC _ _));exact zdt '2' '6')|((exists (zr _ _));exact zdm '2' '6')|((exists (DY _ _));exact ziF '2' '2' (λ_ _=>rfl))|((exists (Kz HP _ _));exact Yv PySem.F.slot_str_count PySem.F.type_str_count zfp Zq '2' '6')|((exists (Ky _ _ _));exact Y9 '2' (by walk_at "so") (by walk_at "so"))|((exists (EY xR _));exact zju T.w71 rfl '2' (λ_ _=>rfl))|((exists (E6 _ _));exact ZH _ (by walk_at "pp") rfl rfl rfl (List.cons_ne_nil _ _) (gG rfl) (gG rfl) (YN hr) '2' (λ_ _=>rfl)))
local macro_rules|`(tactic| walk_at "e1")=>`(tactic| first|((exists (qr _));refine QP rfl ?_<;>walk_at "v")|((exists (dC _));first|walk_at "k"|walk_at "n")|((exists (g_ _ _ _));walk_at "o")|((exists (o_ _ _ _));walk_at "f")|((exists (sR _));refine Rq ?_<;>walk_at "a")|((exists (rL _));refine QN ?_<;>walk_at "a")|((exists (qE _ _ _ _ _ _ _));first|exists x0,2|exists x1,2|exists x2,2)|((exists (pP _ _));walk_at "c")|((exists (vB _));refine zjD ?_<;>walk_at "a")|((exists (zx _ _));refine Q8 ?_ ?_<;>walk_at "e")|((exists (OS _ _));refine Yu ?_ ?_<;>walk_at "e")|((exists (DC _));refine Rp ?_<;>walk_at "e")|((exists (HH _));refine Y0 ?_<;>walk_at "e")|((exists (KA _ _ _));exact zf5 '7' '2' '2')|((exists KN);exact zk5)|walk_at "c"|walk_at "m"|walk_at "o")
local macro_rules|`(tactic| walk_at "e")=>`(tactic| first|(show PD _ _ (.BoolOp _ [_] _) _;refine Rx ?_<;>walk_at "e1")|walk_at "e1")
local macro_rules|`(tactic| walk_at "a")=>`(tactic| first|((with_reducible show tw _ _ _ c_);exact RF)|exact To '2' '6')
local macro_rules|`(tactic| walk_at "t")=>`(tactic| first|((exists (qd (g_ xC _ _)),0);exact zI H_ Iu '2' '2' (Aw _))|((exists (qd (g_ Dl _ _)),0);exact zI P_ Ri '2' '2' (Aw _))|((with_reducible show rF _ _ _ (qd (g_ (pU rV) _ _)));exact zI (RZ hr.units) Bl '2' '2' (Aw _))|((with_reducible show rF _ _ _ (qd (g_ (pU rB) _ _)));exact zI (I_ hr.units) Bl '2' '2' (Aw _))|((exists (qd (g_ BL _ _)),0);exact zI (Rg hr.units) Rf '2' '2' rfl)|((exists (qd (g_ A5 _ _)),0);exact zI (SI hr.units) Sn '2' '2' rfl)|((exists (qd (g_ DM _ _)),0);exact zI Rw RI '2' '2' (Aw _))|((exists (qd (Az true xR _)),0);refine zbn T.w71 rfl ?_<;>walk_at "e")|(show rF _ _ (.BoolOp _ _ _) _;refine vc.pt ?_<;>walk_at "w")|((with_reducible show rF _ _ _ (uZ _));refine SU ?_<;>walk_at "t")|((with_reducible show rF _ _ _ (rl _));exact SF '2' (λ_=>rfl)))
local macro_rules|`(tactic| walk_at "w")=>`(tactic| first|(show vc _ _ (.BoolOp .And [_] _) _;refine S_ ?_<;>walk_at "t")|(show vc _ _ (.BoolOp .Or [_] _) _;refine Su ?_<;>walk_at "t")|((with_reducible show vc _ _ _ (yG _ _));exact SS '7' (by walk_at "w"))|((with_reducible show vc _ _ _ (BU _ _));exact zkH '7' (by walk_at "w")))
local macro_rules|`(tactic| walk_at "i")=>`(tactic| first|((with_reducible show tu _ _ _ _ (tD _));refine VI rfl T.w01 ?_<;>walk_at "a")|((with_reducible show tu _ _ _ _ (Ic _));refine zbs rfl T.w01 ?_<;>walk_at "a")|((with_reducible show tu _ _ _ _ (HQ _));refine zge rfl T.w51 ?_<;>walk_at "a")|((with_reducible show tu _ _ _ _ (ID _));refine zeg rfl T.wT ?_<;>walk_at "a")|((with_reducible show tu _ _ _ _ (Hy _));refine zfM ?_<;>walk_at "e")|refine SR ?_<;>walk_at "e")
local macro_rules|`(tactic| walk_at "g")=>`(tactic| first|(show PG _ (.Name _ _) _;refine QA (vD (by kernel_rfl)) rfl ?_ ?_<;>walk_at "l")|(show PG _ (.Tuple [_,_] _ _) _;refine Q_ rfl (vD (by kernel_rfl)) rfl rfl ?_ ?_ ?_ ?_<;>walk_at "l"))
local macro_rules|`(tactic| walk_at "fs")=>`(tactic| first|exact .nil|exact .cons '7' (by walk_at "fs"))
local macro_rules|`(tactic| walk_at "cs")=>`(tactic| first|exact .nil|(refine oU.cons ?_ (λ_=>rfl) ?_ ?_ ?_;(dsimp only;walk_at "i");(dsimp only;walk_at "g");(dsimp only;walk_at "fs");walk_at "cs"))
local macro_rules|`(tactic| walk_at "s")=>`(tactic| first|((exists (pT _),1);refine SM ?_<;>walk_at "e")|((exists (qT _ _ _),1);exact Rt '7' '8' '8')|(show uA _ _ (.Assign [.Name _ _] (.ListComp _ _ _ _) _) _;first|exists x0,4|exists x1,4|exists x2,4|exact IU (vD (by kernel_rfl)) rfl (by walk_at "l") '2')|((exists (p_ _ _),1);exact IU (vD (by kernel_rfl)) rfl (by walk_at "l") '2')|((exists (t6 _ _ _),1);exact RQ kZ rfl (by walk_at "i") (by walk_at "g") '8')|((exists (tG _),1);refine T5 ?_<;>walk_at "e")|((exists (Ak _ _ _),1);refine zhE ?_ ?_ ?_<;>walk_at "e")|((exists (EZ _ _),1);exact zjb '2' (by walk_at "g"))|((exists (HC _ _),1);exact zj3 (vD (by kernel_rfl)) rfl (by walk_at "l") '2')|((exists (Ls _ _ _),1);exact zcA _ kZ '7' '8')|((exists qS,1);exact TR))
local macro_rules|`(tactic| walk_at "sl")=>`(tactic| first|first|exists x0,6|exists x1,6|exists x2,6)
local macro_rules|`(tactic| walk_at "rs")=>`(tactic| first|(refine zcc kZ rfl (λte he=>Lh (vD (by kernel_rfl)) rfl ?_ (UQ zaU rfl T.wS ziJ (yn he B9))) ?_ ?_ ?_ (IH rfl ?_) (IH rfl ?_) ?_ ?_ rfl ?_ (by decide) (by decide) (gG rfl) (gG rfl);(walk_at "l");(walk_at "e");(walk_at "i");(walk_at "g");(walk_at "v");(walk_at "v");(walk_at "sl");(walk_at "e");(walk_at "ss")))
local macro_rules|`(tactic| walk_at "ss")=>`(tactic| first|((with_reducible show r8 _ _ _ (E9 _ _ _ _ _ _ _ _));walk_at "rs")|((with_reducible show r8 _ _ _ qS);exact T_)|((with_reducible show r8 _ _ _ (pL _ _));exact qM '1' '8')|refine qK ?_<;>walk_at "s")
def rN{x:au}{st:cT}{t:DS}(k:Nat)(N:List au)(j:Nat)(h:qw K mg x st)(pO:∀{f:af}{k_:ae}{A:aX}{outer:List Env}{s:ag}{H:Hp}{E:XK},oF k (A.deeper (aV x (qc st) s.heap.objs.size f k_))->r8 (EV P w K mg base N x (qc st) f k_ A outer s H E) qD (sT st) t)(S:rO N (N.take j) (qc st):=by walk_at "z")(hb:∀(kV doc pm:ae)(an:Option af)(k_ ct:ae)(us:List ae),us.length=(N.take j).length->bindArgs (bi x x (vm st) (sT st) (qc st) .none kV doc pm an k_ ct) ⟨us,[]⟩=pure ((N.take j).zip us):=by walk_at "u"):Callee P w K mg base x (k+1) (N.take j).length (qL N.length t):=OG h S hb λ_ _ _ _ _ _ _ hr=>pO hr
abbrev j_:=qr 0
def Vo:DS:=(pT (zx (r9 "int" j_) (DC (r9 "bool" j_))))
def VD:pY:=(qL 1 Vo)
instance:CI VD "is_whole" 1 1:=⟨λT=>
 Callee.self (rN 0 ["thing"] 1 T.w0 λhr=>
  ((qK (by delta Vo;walk_at "s"))))⟩
def VS:DS:=(pT (EY xR (pP qu (a_ j_ c_))))
def MW:pY:=(qL 1 VS)
instance:CI MW "switches_of" 1 1:=⟨λT=>
 Callee.self (rN 0 ["function"] 1 T.w5 λhr=>
  ((qK (by delta VS;walk_at "s"))))⟩
abbrev m_:=qr 1
abbrev qk:=qr 2
abbrev qC:=qr 3
def V3:DS:=(pT (qE Y2 2 (ID (a_ j_ c_)) (.two 2 3) [(qd (g_ (pU rV) qC m_))] [] qk))
def JN:pY:=(qL 2 V3)
instance:CI JN "points_with" 1 2:=⟨λT=>
 Callee.self (rN 0 ["function", "answer"] 2 T.w6 λhr=>
  (have x0:Nx ["point", "told"]:=⟨⟩;(qK (by delta V3;walk_at "s"))))⟩
abbrev q9:=qr 4
def z9a:DS:=(pL (p_ 1 (sR (a_ (dC (.str [])) c_))) (pL (t6 (tD (a_ j_ c_)) (.one 2) (p_ 1 (qE Y2 2 (qy m_) (.one 3) [] (⟨(qy (dC (.str [45,48,49]))),(.one 4),[]⟩::[]) (g_ rD qC q9)))) (pT m_)))
def Ck:pY:=(qL 3 z9a)
instance:CI Ck "all_terms" 1 1:=⟨λT=>
 Callee.self (rN 0 ["n", "terms", "switch"] 1 T.w7 λhr=>
  (have x0:Nx ["term", "sign"]:=⟨⟩;(qM '1' (qM '1' (qK '1')))))⟩
abbrev qZ:=dC (.int 0)
abbrev rj:=dC (.int 1)
abbrev zu:=dC (.str [45])
def ze1:DS:=(pL (qT (qd (g_ (pU rV) j_ zu)) (pT (sR (a_ qZ (a_ rj c_)))) qS) (pT (sR (a_ (pP Au (a_ j_ c_)) c_))))
def UD:pY:=(qL 1 ze1)
instance:CI UD "bits_of" 1 1:=⟨λT=>
 Callee.self (rN 0 ["sign"] 1 T.w8 λhr=>
  ((qM '1' (qK '1'))))⟩
def Vx:DS:=(pT (g_ rD (g_ rD (Ky j_ H8 (K8 m_)) qk) (Ky j_ (K8 (g_ rD m_ rj)) H8)))
def JH:pY:=(qL 3 Vx)
instance:CI JH "with_sign" 1 3:=⟨λT=>
 Callee.self (rN 0 ["term", "switch", "sign"] 3 T.wa λhr=>
  ((qK (by delta Vx;walk_at "s"))))⟩
def Vr:DS:=(pT (g_ (fI vA) (pP qu (a_ j_ c_)) (Kz HP j_ (a_ zu c_))))
def FL:pY:=(qL 1 Vr)
instance:CI FL "signs_in" 1 1:=⟨λT=>
 Callee.self (rN 0 ["term"] 1 T.wb λhr=>
  ((qK (by delta Vr;walk_at "s"))))⟩
def MG:DS:=(pT (qE Y2 1 (Hy j_) (.one 2) [(qd (g_ BL m_ (DY j_ qk)))] [] qk))
def Cm:pY:=(qL 2 MG)
instance:CI Cm "holders_in" 1 2:=⟨λT=>
 Callee.self (rN 0 ["held", "one"] 2 T.wj λhr=>
  (have x0:Nx ["term"]:=⟨⟩;(qK (by delta MG;walk_at "s"))))⟩
def V9:DS:=(pT (KA (qd (g_ DM j_ xH)) xH (g_ (fI vA) rj j_)))
def M0:pY:=(qL 1 V9)
instance:CI M0 "opposite_answer" 1 1:=⟨λT=>
 Callee.self (rN 0 ["answer"] 1 T.wp λhr=>
  ((qK (by delta V9;walk_at "s"))))⟩
def z5L:DS:=(pL (qT (qd (g_ xC m_ (pP qu (a_ j_ c_)))) (pT (g_ qi j_ m_)) qS) (pT qZ))
def JR:pY:=(qL 2 z5L)
instance:CI JR "_law_cell_at" 1 2:=⟨λT=>
 Callee.self (rN 0 ["_law_script", "_law_k"] 2 T.wu λhr=>
  ((qM '1' (qK '1'))))⟩
abbrev HA:=dC (.int 2147483647)
def z8S:DS:=(pL (qT (rl (g_ qi j_ rj)) (pL (p_ 2 (g_ (fI uB) (g_ qi j_ qZ) m_)) (pL (Ak (g_ (fI ye) (g_ qi j_ qZ) m_) j_ qZ) (pT qk))) qS) (pL (Ak (g_ (fI uB) (g_ rD (g_ (fI uL) (g_ qi j_ qZ) (dC (.int 48271))) (dC (.int 29))) HA) j_ qZ) (pL (p_ 3 (g_ (fI uB) (g_ rD (g_ rD (g_ (fI uL) (g_ qi j_ qZ) (g_ qi j_ qZ)) (g_ (fI uL) (dC (.int 39373)) (g_ qi j_ qZ))) (dC (.int 7))) (dC (.int 2147483629)))) (pL (p_ 3 (g_ (fI uB) (g_ rD (g_ (fI uL) qC qC) (g_ (fI uL) (dC (.int 16807)) qC)) (dC (.int 2147483587)))) (pT (g_ (fI uB) (g_ (fI ye) qC (dC (.int 8))) m_))))))
def xP:pY:=(qL 4 z8S)
instance:CI xP "_law_take" 1 2:=⟨λT=>
 Callee.self (rN 0 ["_law_state_here", "_law_many", "_law_found", "_law_stirred"] 2 T.ww λhr=>
  ((qM '1' (qM '1' (qM '1' (qM '1' (qK '1')))))))⟩
def ML:DS:=(pL (p_ 1 (sR (a_ (dC (.str [])) c_))) (pL (t6 (tD (a_ j_ c_)) (.one 2) (pL (p_ 3 (vB c_)) (pL (t6 (qy m_) (.one 4) (tG (zr qC (a_ (sR (a_ (g_ rD q9 zu) (a_ (g_ rD q9 (dC (.str [48]))) (a_ (g_ rD q9 (dC (.str [49]))) c_)))) c_)))) (p_ 1 qC)))) (pT m_)))
def MK:pY:=Ad (qL 5 ML)
instance:CI MK "_law_terms" 1 1:=⟨λT=>
 Callee.frz (rN 0 ["_law_n", "_law_found", "_law_turn", "_law_longer", "_law_term"] 1 T.wy λhr=>
  ((qM '1' (qM '1' (qK '1')))))⟩
def V1:DS:=(pT (E6 [(2,1),(4,2),(8,3),(16,4)] (pP qu (a_ j_ c_))))
def M6:pY:=(qL 1 V1)
instance:CI M6 "_law_switches" 1 1:=⟨λT=>
 Callee.self (rN 0 ["_law_function_here"] 1 T.wz λhr=>
  ((qK (by delta V1;walk_at "s"))))⟩
abbrev Ai:=pT (dC (.bl Y2))
abbrev A8:=dC (.bl Y1)
def z7Y:DS:=(pL (p_ 2 (pP qu (a_ j_ c_))) (pL (t6 (tD (a_ qk c_)) (.one 3) (qT (yG (qd (g_ (pU rB) (g_ qi j_ qC) zu)) (qd (g_ (pU rB) (g_ qi j_ qC) (pP Ii (a_ (g_ (fI KW) (g_ (fI Hu) m_ (g_ (fI vA) (g_ (fI vA) qk rj) qC)) rj) c_))))) Ai qS)) (pT A8)))
def AJ:pY:=(qL 4 z7Y)
instance:CI AJ "_law_holds" 1 2:=⟨λT=>
 Callee.self (rN 0 ["_law_term", "_law_point", "_law_n", "_law_k"] 2 T.wA λhr=>
  ((qM '1' (qM '1' (qK '1')))))⟩
def MU:DS:=(pT (g_ (pU rV) (qE Y2 1 (tD (a_ (pP qu (a_ j_ c_)) c_)) (.one 2) [(yG (qd (g_ (pU rB) (g_ qi m_ qk) zu)) (qd (g_ (pU rB) (g_ qi m_ qk) (g_ qi j_ qk))))] [] qk) (sR c_)))
def MT:pY:=(qL 2 MU)
instance:CI MT "_law_lies_in" 1 2:=⟨λT=>
 Callee.self (rN 0 ["_law_one", "_law_other"] 2 T.wC λhr=>
  (have x0:Nx ["_law_k"]:=⟨⟩;(qK (by delta MU;walk_at "s"))))⟩
def MQ:DS:=(pT (qE Y2 1 (tD (a_ (pP qu (a_ j_ c_)) c_)) (.one 1) [(qd (g_ (pU rV) (g_ qi j_ m_) rj))] [] m_))
def FN:pY:=(qL 1 MQ)
instance:CI FN "_law_ones" 1 1:=⟨λT=>
 Callee.self (rN 0 ["_law_function_here"] 1 T.wD λhr=>
  (have x0:Nx ["_law_point"]:=⟨⟩;(qK (by delta MQ;walk_at "s"))))⟩
abbrev BW:=a_ (qr 7) c_
abbrev vM:=qr 5
abbrev DX:DS:=pL (p_ 6 qZ) (pL (qT (qd (g_ (pU rB) vM (rL c_))) (p_ 6 (g_ zD (g_ qi vM (HH rj)) rj)) qS) (tG (zr q9 (a_ (qE Y2 1 (Ic (a_ (qr 6) (a_ j_ c_))) (.one 7) [] [] (g_ zD vM (rL BW))) c_))))
def MR:DS:=(pL (p_ 2 (sR (a_ (rL c_) c_))) (pL (t6 (tD (a_ m_ c_)) (.one 3) (pL (p_ 4 (vB c_)) (pL (t6 (qy qk) (.one 5) DX) (p_ 2 q9)))) (pT qk)))
def Jx:pY:=Ad (qL 7 MR)
instance:CI Jx "_law_picks" 1 2:=⟨λT=>
 Callee.frz (rN 0 ["_law_many", "_law_size", "_law_found", "_law_turn", "_law_longer", "_law_row", "_law_first"] 2 T.wG λhr=>
  (have x0:Nx ["_law_k"]:=⟨⟩;(qM '1' (qM '1' (qK '1')))))⟩
abbrev Nb:DE:=g_ (fI vA) (pP qu (a_ m_ c_)) (Kz HP m_ (a_ zu c_))
def JJ:DS:=(pT (pP Ba (a_ (qE Y2 1 (qy j_) (.one 1) [] [] Nb) c_)))
def zK:pY:=(qL 1 JJ)
instance:CI zK "_law_signs" 1 1:=⟨λT=>
 Callee.self (rN 0 ["_law_terms_here"] 1 T.wH λhr=>
  (have x0:Nx ["_law_term"]:=⟨⟩;(qK (by delta JJ;walk_at "s"))))⟩
def JL:DS:=(pT (pP yk (a_ (qE Y2 1 (qy j_) (.one 1) [] [] (KA (qd (g_ DM m_ xH)) xH (g_ (fI vA) rj m_))) c_)))
def M5:pY:=(qL 1 JL)
instance:CI M5 "_law_opposite" 1 1:=⟨λT=>
 Callee.self (rN 0 ["_law_function_here"] 1 T.wJ λhr=>
  (have x0:Nx ["_law_answer"]:=⟨⟩;(qK (by delta JL;walk_at "s"))))⟩
def z8I(F:pY):DS:=(pL (qT (rl (D1 "tuple" "list" m_)) (pL (qT (BU (qd (g_ (pU rB) (r9 "tuple" j_) (r9 "tuple" m_))) (qd (g_ (pU rB) (r9 "list" j_) (r9 "list" m_)))) Ai qS) (pL (qT (qd (g_ (pU rB) (pP qu (a_ j_ c_)) (pP qu (a_ m_ c_)))) Ai qS) (pT (pP BR (a_ (qE Y2 2 (HQ (a_ j_ (a_ m_ c_))) (.two 2 3) [] [] (o_ 2 F (a_ qk (a_ qC c_)))) c_))))) qS) (pT (zx (g_ (pU rV) j_ m_) (g_ (pU rV) (r9 "bool" j_) (r9 "bool" m_)))))
def AI:Nat->pY
 |0=>λ_ _=>.bad
 |k+1=>(qL 2 (z8I (AI k)))
def VZ:rO ["_law_found", "_law_due"] ["_law_found", "_law_due"] (qc (top 66)):=by walk_at "z"
theorem VT(T:Txt K mg):∀k,Callee P w K mg base "_law_same" (1+k) 2 (AI k)
 |0=>Callee.bad (F:=qL 2 K3) (OG T.wK VZ '4' λf k_ A outer s H E hr=>S7)
 | k+1=>Callee.self (OG (k:=1+k) T.wK VZ '4' λf k_ A outer s H E hr=>
  have c_self:=VT T k
  (have x0:Nx ["_law_one", "_law_other"]:=⟨⟩;(qM '1' (qK '1'))))
def El:pY:=AI 3
instance:CI El "_law_same" 4 2:=⟨λT=>VT T 3⟩
def V_:DS:=(pT (zx (o_ 1 VD (a_ j_ c_)) (Ln G4 G4 m_ j_ qk)))
def Wb:pY:=(qL 3 V_)
instance:CI Wb "is_whole_within" 2 3:=⟨λT=>
 Callee.self (rN 1 ["thing", "least", "most"] 3 T.w1 λhr=>
  ((qK (by delta V_;walk_at "s"))))⟩
def z8t:DS:=(pL (p_ 1 (sR (a_ qZ c_))) (pL (t6 (qy j_) (.one 2) (p_ 1 (qE Y2 2 (qy m_) (.one 3) [] (⟨(qy (o_ 1 UD (a_ qk c_))),(.one 4),[]⟩::[]) (g_ rD (g_ (fI uL) (dC (.int 2)) qC) q9)))) (pT m_)))
def AH:pY:=(qL 3 z8t)
instance:CI AH "points_of" 2 1:=⟨λT=>
 Callee.self (rN 1 ["term", "points", "sign"] 1 T.w9 λhr=>
  (have x0:Nx ["point", "bit"]:=⟨⟩;(qM '1' (qM '1' (qK '1')))))⟩
def MC:DS:=(pT (pP Ba (a_ (qE Y2 1 (qy j_) (.one 1) [] [] (o_ 1 FL (a_ m_ c_))) c_)))
def zL:pY:=(qL 1 MC)
instance:CI zL "signs_of" 2 1:=⟨λT=>
 Callee.self (rN 1 ["form"] 1 T.wi λhr=>
  (have x0:Nx ["term"]:=⟨⟩;(qK (by delta MC;walk_at "s"))))⟩
abbrev BY:DE:=pP qu (a_ (o_ 2 Cm (a_ j_ (a_ (qr 9) c_))) c_)
abbrev B2:DE:=qE Y2 1 (qy m_) (.one 9) [(qd (g_ A5 (qr 9) (DY j_ (qr 6))))] [] (qr 9)
abbrev vK:=a_ (qr 6) c_
abbrev A6(Pt:Nat)(F:pY):DE:=zr q9 (a_ (qE Y2 1 (qy (sj Pt 8 3 F (a_ vM (a_ (qr 7) (a_ (g_ (fI vA) qk rj) c_))))) (.one 9) [] [] (g_ rD (rL vK) (qr 9))) c_)
def AE(Pt:Nat)(F:pY):DS:=(pL (qT (uZ (rl m_)) (pT (sR (a_ (rL c_) c_))) qS) (pL (qT (qd (g_ (pU rV) qk qZ)) (pT (sR c_)) qS) (pL (p_ 3 (DP Pt 8 m_ BY)) (pL (p_ 4 (vB c_)) (E9 5 6 7 j_ (qy (o_ 2 Cm (a_ j_ (a_ qC c_)))) B2 (A6 Pt F) (pT q9))))))
def xQ(Pt:Nat):Nat->pY
 |0=>λ_ _=>.bad
 |k+1=>Ad (vN 9 8 Pt (AE Pt (xQ Pt k)))
def UP:rO ["held", "wanted", "many", "hardest", "found", "rest", "term", "left", "<tab>"] ["held", "wanted", "many"] (qc (top 38)):=by walk_at "z"
theorem Vq{c Pt:af}(T:Txt K mg)(hT:yF K mg "covers" (top 38) c)(L:uf mg base c Pt):∀k,oK P w K mg base "covers" (4+k) 3 Pt (xQ Pt k)
 |0=>oK.bad (F:=vN 9 8 Pt K3) (Pw (k:=3) (i:=8) (z := "<tab>") hT UP rfl (Ac 'k') '4' λf A outer s H E hr=>S7)
 | k+1=>oK.frz (Pw (k:=4+k) (i:=8) (z := "<tab>") hT UP rfl (Ac 'k') '4' λf A outer s H E hr=>
  have c_self:=Vq T hT L k
  (have x0:Nx ["one"]:=⟨⟩;have x1:Nx ["cover"]:=⟨⟩;(by unfold AE;walk_at "ss")))
def FC(Pt:Nat):pY:=xQ Pt 20
def zbB{c Pt:af}(T:Txt K mg)(a:yF K mg "covers" (top 38) c)(L:uf mg base c Pt):oK P w K mg base "covers" 24 3 Pt (FC Pt):=Vq T a L 20
abbrev BQ:=g_ (fI E5) (dC (.int 10)) (dC (.int 18))
def z7O:DS:=(pL (p_ 2 (o_ 2 JR (a_ j_ (a_ m_ c_)))) (pL (qT (qd (g_ Dl qk BQ)) (pT (vB (a_ (g_ (fI vA) qk BQ) (a_ A8 c_)))) qS) (pT (vB (a_ (g_ (fI uB) qk HA) (a_ (dC (.bl Y2)) c_))))))
def ME:pY:=(qL 3 z7O)
instance:CI ME "_law_state" 2 2:=⟨λT=>
 Callee.self (rN 1 ["_law_script", "_law_k", "_law_cell"] 2 T.wv λhr=>
  ((qM '1' (qM '1' (qK '1')))))⟩
abbrev Ag:=a_ vM c_
def M8:DS:=(pL (p_ 3 (g_ qi (sR (a_ (dC (.int 2)) (a_ (dC (.int 4)) (a_ (dC (.int 6)) c_)))) (o_ 2 xP (a_ j_ (a_ (dC (.int 3)) c_))))) (pL (p_ 4 (g_ (fI uL) (o_ 2 xP (a_ j_ (a_ (dC (.int 3)) c_))) (pP Au (a_ qk c_)))) (pL (p_ 5 (vB c_)) (pL (t6 (tD (a_ (g_ (fI xl) rj m_) c_)) (.one 6) (pL (p_ 7 (pP Au (a_ (g_ xC (o_ 2 xP (a_ j_ (a_ (dC (.int 8)) c_))) qC) c_))) (pL (qT (qd (g_ xC (o_ 2 xP (a_ j_ (a_ (dC (.int 5)) c_))) q9)) (p_ 7 xH) qS) (tG (yC vM BW))))) (pT (pP yk Ag))))))
def MZ:pY:=Ad (qL 8 M8)
instance:CI MZ "_law_function" 2 3:=⟨λT=>
 Callee.frz (rN 1 ["_law_state_here", "_law_n", "_law_free", "_law_often", "_law_rest", "_law_found", "_law_point", "_law_answer"] 3 T.wx λhr=>
  ((qM '1' (qM '1' (qM '1' (qM '1' (qK '1')))))))⟩
def JD:DS:=(pT (g_ (pU rV) (qE Y2 1 (tD (a_ (pP qu (a_ j_ c_)) c_)) (.one 2) [(yG (qd (g_ (pU rV) (g_ qi j_ qk) qZ)) (rl (o_ 2 AJ (a_ m_ (a_ qk c_)))))] [] qk) (sR c_)))
def MP:pY:=(qL 2 JD)
instance:CI MP "_law_good" 2 2:=⟨λT=>
 Callee.self (rN 1 ["_law_function_here", "_law_term"] 2 T.wB λhr=>
  (have x0:Nx ["_law_point"]:=⟨⟩;(qK (by delta JD;walk_at "s"))))⟩
def JC:DS:=(pL (p_ 2 (vB c_)) (pL (t6 (qy j_) (.one 3) (tG (yC qk (a_ (pP Ba (a_ (qE Y2 1 (tD (a_ (pP qu (a_ m_ c_)) c_)) (.one 4) [(rl (o_ 2 AJ (a_ qC (a_ (g_ qi m_ q9) c_))))] [] (g_ (fI xl) rj q9)) c_)) c_)))) (pT qk)))
def MJ:pY:=Ad (qL 4 JC)
instance:CI MJ "_law_masks" 2 2:=⟨λT=>
 Callee.frz (rN 1 ["_law_terms_here", "_law_points", "_law_found", "_law_term"] 2 T.wF λhr=>
  (have x0:Nx ["_law_at"]:=⟨⟩;(qM '1' (qM '1' (qK '1')))))⟩
def M3:DS:=(pL (p_ 1 (sR (a_ xH (a_ (rL c_) (a_ (rL (a_ qZ c_)) (a_ (rL (a_ qZ (a_ rj (a_ qZ c_)))) (a_ (rL (a_ qZ (a_ (dC (.int 2)) c_))) (a_ (rL (a_ qZ (a_ A8 c_))) (a_ (sR (a_ qZ (a_ rj c_))) (a_ (g_ (HZ Y2) (rL (a_ qZ c_)) (dC (.int 32))) (a_ (dC (.str [48,49])) (a_ (rL (a_ (dC (.str [48])) (a_ (dC (.str [49])) c_))) (a_ KN (a_ rj (a_ (rL (a_ qZ (a_ rj (a_ xH c_)))) c_))))))))))))))) (pT (g_ qi m_ (o_ 2 xP (a_ j_ (a_ (dC (.int 13)) c_))))))
def M4:pY:=(qL 2 M3)
instance:CI M4 "_law_bad_function" 2 1:=⟨λT=>
 Callee.self (rN 1 ["_law_state_here", "_law_some"] 1 T.wL λhr=>
  ((qM '1' (qK '1'))))⟩
def Vw:DS:=(pT (OS (g_ DM j_ xH) (o_ 3 Wb (a_ j_ (a_ qZ (a_ rj c_))))))
def JI:pY:=(qL 1 Vw)
instance:CI JI "is_answer" 3 1:=⟨λT=>
 Callee.self (rN 2 ["thing"] 1 T.w2 λhr=>
  ((qK (by delta Vw;walk_at "s"))))⟩
def Wa:DS:=(pT (pP BR (a_ (qE Y2 1 (qy (o_ 1 AH (a_ m_ c_))) (.one 2) [] [] (g_ (pU rB) (g_ qi j_ qk) qZ)) c_)))
def JS:pY:=(qL 2 Wa)
instance:CI JS "holds_no_nought" 3 2:=⟨λT=>
 Callee.self (rN 2 ["function", "term"] 2 T.wc λhr=>
  (have x0:Nx ["point"]:=⟨⟩;(qK (by delta Wa;walk_at "s"))))⟩
def VU:DS:=(pT (pP Dz (a_ (qE Y2 1 (qy (o_ 1 AH (a_ m_ c_))) (.one 2) [] [] (g_ (pU rV) (g_ qi j_ qk) rj)) c_)))
def MX:pY:=(qL 2 VU)
instance:CI MX "holds_a_one" 3 2:=⟨λT=>
 Callee.self (rN 2 ["function", "term"] 2 T.wd λhr=>
  (have x0:Nx ["point"]:=⟨⟩;(qK (by delta VU;walk_at "s"))))⟩
abbrev cW:DT:=uZ (rl qC)
abbrev bW(Pt:Nat):DS:=pL (HC 2 rj) (p_ 3 (sj Pt 5 3 (FC Pt) (a_ j_ (a_ m_ (a_ qk c_)))))
def V7(Pt:Nat):DS:=(pL (p_ 2 qZ) (pL (p_ 3 (sj Pt 5 3 (FC Pt) (a_ j_ (a_ m_ (a_ qk c_))))) (pL (Ls 20 cW (bW Pt)) (pL (p_ 4 (pP Fb (a_ (qE Y2 1 (qy qC) (.one 6) [] [] (o_ 1 zL vK)) c_))) (pT (pP E8 (a_ (qE Y2 1 (qy qC) (.one 6) [(qd (g_ (pU rV) (o_ 1 zL vK) q9))] [] (pP yk (a_ (pP B4 vK) c_))) c_)))))))
def FR(Pt:Nat):pY:=(vN 6 5 Pt (V7 Pt))
def z5p:rO ["held", "wanted", "many", "found", "fewest", "<tab>"] ["held", "wanted"] (qc (top 39)):=by walk_at "z"
def V8{c Pt:af}(T:Txt K mg)(hT:yF K mg "covers" (top 38) c)(L:uf mg base c Pt):oK P w K mg base "least_covers" 25 2 Pt (FR Pt):=
 oK.self (fnU (k:=24) (i:=5) (z := "<tab>") T.wl z5p rfl (Ac 'k') '4' λf k_ A outer s H E hr=>
  (have x0:Nx ["cover"]:=⟨⟩;(qM '1' (qM '1' (qM '1' (qM '1' (qK '1')))))))
def JF:DS:=(pT (rL (a_ (pP qu (a_ j_ c_)) (a_ (o_ 1 zL (a_ j_ c_)) c_))))
def En:pY:=(qL 1 JF)
instance:CI En "length_of" 3 1:=⟨λT=>
 Callee.self (rN 2 ["form"] 1 T.ws λhr=>
  ((qK (by delta JF;walk_at "s"))))⟩
abbrev Ih:DS:=pL (p_ 4 (qE Y2 1 (qy m_) (.one 6) [(yG (qd (g_ (pU rB) (qr 6) qC)) (rl (o_ 2 MT (a_ qC vK))))] [] (qr 6))) (pL (p_ 5 (qE Y2 1 (qy (o_ 1 FN (a_ j_ c_))) (.one 6) [(rl (o_ 2 AJ (a_ qC vK)))] [] (qr 6))) (qT (yG (qd (g_ (pU rV) q9 (sR c_))) (qd (g_ (pU rB) vM (sR c_)))) (tG (yC qk (a_ qC c_))) qS))
def FW:DS:=(pL (p_ 1 (qE Y2 0 (qy (o_ 1 MK (a_ (o_ 1 M6 (a_ j_ c_)) c_))) (.one 3) [(rl (o_ 2 MP (a_ j_ (a_ qC c_))))] [] qC)) (pL (p_ 2 (vB c_)) (pL (t6 (qy m_) (.one 3) Ih) (pT qk))))
def JM:pY:=Ad (qL 6 FW)
instance:CI JM "_law_greatest" 3 1:=⟨λT=>
 Callee.frz (rN 2 ["_law_function_here", "_law_some", "_law_found", "_law_term", "_law_wider", "_law_held"] 1 T.wE λhr=>
  (have x0:Nx []:=⟨⟩;have x1:Nx ["_law_other"]:=⟨⟩;have x2:Nx ["_law_point"]:=⟨⟩;(qM '1' (qM '1' (qM '1' (qK '1'))))))⟩
def z6w:DS:=(pL (qT (BU (uZ (rl (r9 "tuple" j_))) (qd (Az Y1 xR (pP qu (a_ j_ c_))))) Ai qS) (pT (pP BR (a_ (qE Y2 1 (qy j_) (.one 1) [] [] (o_ 1 JI (a_ m_ c_))) c_))))
def MV:pY:=(qL 1 z6w)
instance:CI MV "is_function" 4 1:=⟨λT=>
 Callee.self (rN 3 ["thing"] 1 T.w3 λhr=>
  (have x0:Nx ["answer"]:=⟨⟩;(qM '1' (qK '1'))))⟩
def JQ:DS:=(pT (zx (g_ (pU rB) (g_ qi m_ qk) zu) (o_ 2 JS (a_ j_ (a_ (o_ 3 JH (a_ m_ (a_ qk (a_ zu c_)))) c_)))))
def JP:pY:=(qL 3 JQ)
instance:CI JP "can_widen_at" 4 3:=⟨λT=>
 Callee.self (rN 3 ["function", "term", "switch"] 3 T.wf λhr=>
  ((qK (by delta JQ;walk_at "s"))))⟩
abbrev Qp:DS:=p_ 7 (g_ (fI Ku) (qr 7) (g_ qi qC (qr 8)))
abbrev Qe:DT:=qd (g_ (pU rV) (qr 7) (g_ (fI vA) (g_ (fI xl) rj (pP qu (a_ qk c_))) rj))
abbrev Hx:DS:=pL (p_ 7 qZ) (pL (t6 (qy (qr 6)) (.one 8) Qp) (qT Qe (pL (p_ 9 (pP yk (a_ (qE Y2 0 (qy (qr 6)) (.one 8) [] [] (g_ qi m_ (qr 8))) c_))) (tG (yC vM (a_ (rL (a_ (o_ 1 zK (a_ (qr 9) c_)) (a_ (qr 9) c_))) c_)))) qS))
abbrev Hw:DS:=pL (p_ 5 (vB c_)) (pL (t6 (qy (o_ 2 Jx (a_ (pP qu (a_ m_ c_)) (a_ q9 c_)))) (.one 6) Hx) (qT (qd (g_ (pU rB) vM (sR c_))) (pT (g_ qi (pP HX Ag) rj)) qS))
def Jz:DS:=(pL (EZ (.two 1 2) (rL (a_ (o_ 1 JM (a_ j_ c_)) (a_ (o_ 1 FN (a_ j_ c_)) c_)))) (pL (p_ 3 (o_ 2 MJ (a_ m_ (a_ qk c_)))) (pL (t6 (tD (a_ (g_ rD (pP qu (a_ m_ c_)) rj) c_)) (.one 4) Hw) (pT xH))))
def JA:pY:=Ad (qL 10 Jz)
instance:CI JA "_law_least" 4 1:=⟨λT=>
 Callee.frz (rN 3 ["_law_function_here", "_law_some", "_law_points", "_law_masks_here", "_law_size", "_law_found", "_law_row", "_law_held", "_law_k", "_law_form"] 1 T.wI λhr=>
  (have x0:Nx []:=⟨⟩;(qM '1' (qM '1' (qM '1' (qK '1'))))))⟩
def JG:DS:=(pT (DC (pP Dz (a_ (qE Y2 1 (tD (a_ (pP qu (a_ m_ c_)) c_)) (.one 2) [] [] (o_ 3 JP (a_ j_ (a_ m_ (a_ qk c_))))) c_))))
def MO:pY:=(qL 2 JG)
instance:CI MO "is_widest" 5 2:=⟨λT=>
 Callee.self (rN 4 ["function", "term"] 2 T.wg λhr=>
  (have x0:Nx ["switch"]:=⟨⟩;(qK (by delta JG;walk_at "s"))))⟩
end
local macro_rules|`(tactic| walk_at "v")=>`(tactic| first|exact .inl rfl|exact .inr (.inl rfl)|exact .inr (.inr rfl))
local macro_rules|`(tactic| walk_at "l")=>`(tactic| first|exact .inl rfl|exact .inr rfl)
local macro_rules|`(tactic| walk_at "le")=>`(tactic| first|decide|exact aB _|lia)
local macro_rules|`(tactic| walk_at "fx")=>`(tactic| first|refine IJ h (ym rfl Bj) hr '3' rfl ?_<;>walk_at "a"|refine IJ h (ym rfl D9) hr '3' rfl ?_<;>walk_at "a"|refine SE h hr '3' rfl ?_<;>walk_at "a")
local macro_rules|`(tactic| exists 0,0,$x)=>`(tactic| exact IJ (Callee.toX (Cl:=Cl) (CI.out T)) (ym rfl $x) hr '3' rfl '6')
local macro_rules|`(tactic| walk_at "f")=>`(tactic| first|exists 0,0,Bj|exists 0,0,D9|exact SE (Callee.toX (Cl:=Cl) (CI.out T)) hr '3' rfl '6'|((exists (o_ _ FV _));have h:=@z4M P w K mg base T B;walk_at "fx")|((exists (o_ _ JB _));have h:=@z7b P w K mg base T B;walk_at "fx")|((exists (o_ _ FH _));have h:=@z8x P w K mg base T B;walk_at "fx")|((exists (o_ _ FJ _));have h:=@z9e P w K mg base T B;walk_at "fx")|((exists (o_ _ FP _));have h:=@z5F P w K mg base T B;walk_at "fx")|((exists (o_ _ _ _));have h:=c_self;walk_at "fx"))
local macro_rules|`(tactic| walk_at "k")=>`(tactic| first|exact QE|exact QM _ rfl|exact Ro|exact Qu)
local macro_rules|`(tactic| walk_at "n")=>`(tactic| first|exact SH T.w61)
local macro_rules|`(tactic| walk_at "o")=>`(tactic| first|((exists (g_ rD _ _));refine Rn ?_ ?_<;>walk_at "e")|((exists (g_ qi _ _));exact P4 '2' '2' (λ_ _=>rfl))|exists xC,H_,Iu,0|exists (pU rB),(I_ hr.units),Bl,0|exists Aj,(RC hr.units),RP,0)
local macro_rules|`(tactic| walk_at "c")=>`(tactic| first|exists qu,Tu,QS,T.wW,Rj|exists D0,(zd3 rfl),zhH,T.wY,ZC|exists D3,(zd8 rfl),ziN,T.wZ,Iq|((exists (pP yk _));refine Ji V4 Ud rfl T.w41 Jg ?_<;>walk_at "a")|exists false,T.wd1,T.wn1,T.wy1,0,0|exists false,T.wg1,T.wq1,T.wB1,0,0|exists false,T.wc1,T.wm1,T.wx1,0,0|exists true,T.w81,T.wi1,T.wt1,0,0|exists false,T.wf1,T.wp1,T.wA1,0,0|exists false,T.wb1,T.wl1,T.ww1,0,0|exists false,T.wa1,T.wk1,T.wv1,0,0|exists false,T.w91,T.wj1,T.wu1,0,0|exists false,T.we1,T.wo1,T.wz1,0,0|((exists (vL (vE true) _));exact zht (x := "ValueError") (n := "ValueError") (f:=(vE true)) '2' rfl T.wV Cp rfl T.wO z75 T.wr1 (kf T.wC1))|((exists (Bq _ _ _ _ _ _ _));exact Zv T hr L rfl (XR (by kernel_rfl)) rfl (λ_ _ _ _ _ _=>rfl) (λq lam cd cl A outer s H E hr=>'2') rfl)|((exists (sj _ _ _ (rz (FR _)) _));refine AA ((V8 T hT LQ).toT (Cl:=Cl)) (ym rfl Bj) hr '3' rfl ?_<;>walk_at "a")|((exists (sj _ _ _ (Bz _) _));first|exact AA (VR T B hT LQ) (ym rfl Bj) hr '3' rfl '6'|refine AA (VR T B hT LQ) (ym rfl D9) hr '3' rfl ?_<;>walk_at "a")|((exists (sj _ _ _ (FQ _) _));first|exact AA (V6 T B hT LQ) (ym rfl Bj) hr '3' rfl '6'|refine AA (V6 T B hT LQ) (ym rfl D9) hr '3' rfl ?_<;>walk_at "a")|((exists (sj _ _ _ (Co _) _));first|exact AA (Wd T B hT LQ) (ym rfl Bj) hr '3' rfl '6'|refine AA (Wd T B hT LQ) (ym rfl D9) hr '3' rfl ?_<;>walk_at "a")|((exists (sj _ _ _ (Er _) _));first|exact AA (V2 T B hT LQ) (ym rfl Bj) hr '3' rfl '6'|refine AA (V2 T B hT LQ) (ym rfl D9) hr '3' rfl ?_<;>walk_at "a"))
local macro_rules|`(tactic| walk_at "so")=>`(tactic| first|refine Ui ?_<;>walk_at "e")
local macro_rules|`(tactic| walk_at "m")=>`(tactic| first|((exists (B7 _ _ _ _ _ _ _));first|exists x0,3))
local macro_rules|`(tactic| walk_at "e1")=>`(tactic| first|((exists (qr _));refine QP rfl ?_<;>walk_at "v")|((exists (dC _));first|walk_at "k"|walk_at "n")|((exists (g_ _ _ _));walk_at "o")|((exists (o_ _ _ _));walk_at "f")|((exists (sR _));refine Rq ?_<;>walk_at "a")|((exists (rL _));refine QN ?_<;>walk_at "a")|((exists (qE _ _ _ _ _ _ _));first|exists x0,2)|((exists (pP _ _));walk_at "c")|((exists (zx _ _));refine Q8 ?_ ?_<;>walk_at "e")|((exists (DC _));refine Rp ?_<;>walk_at "e")|walk_at "c"|walk_at "m"|walk_at "o")
local macro_rules|`(tactic| walk_at "e")=>`(tactic| first|(show PD _ _ (.BoolOp _ [_] _) _;refine Rx ?_<;>walk_at "e1")|walk_at "e1")
local macro_rules|`(tactic| walk_at "a")=>`(tactic| first|((with_reducible show tw _ _ _ c_);exact RF)|exact To '2' '6')
local macro_rules|`(tactic| walk_at "t")=>`(tactic| first|((exists (qd (g_ xC _ _)),0);exact zI H_ Iu '2' '2' (Aw _))|((with_reducible show rF _ _ _ (qd (g_ (pU rB) _ _)));exact zI (I_ hr.units) Bl '2' '2' (Aw _))|((exists (qd (g_ Aj _ _)),0);exact zI (RC hr.units) RP '2' '2' (Aw _))|(show rF _ _ (.BoolOp _ _ _) _;refine vc.pt ?_<;>walk_at "w")|((with_reducible show rF _ _ _ (uZ _));refine SU ?_<;>walk_at "t")|((with_reducible show rF _ _ _ (rl _));exact SF '2' (λ_=>rfl)))
local macro_rules|`(tactic| walk_at "w")=>`(tactic| first|(show vc _ _ (.BoolOp .And [_] _) _;refine S_ ?_<;>walk_at "t")|(show vc _ _ (.BoolOp .Or [_] _) _;refine Su ?_<;>walk_at "t")|((with_reducible show vc _ _ _ (yG _ _));exact SS '7' (by walk_at "w")))
local macro_rules|`(tactic| walk_at "i")=>`(tactic| first|((with_reducible show tu _ _ _ _ (tD _));refine VI rfl T.w01 ?_<;>walk_at "a")|refine SR ?_<;>walk_at "e")
local macro_rules|`(tactic| walk_at "g")=>`(tactic| first|(show PG _ (.Name _ _) _;refine QA (vD (by kernel_rfl)) rfl ?_ ?_<;>walk_at "l")|(show PG _ (.Tuple [_,_] _ _) _;refine Q_ rfl (vD (by kernel_rfl)) rfl rfl ?_ ?_ ?_ ?_<;>walk_at "l"))
local macro_rules|`(tactic| walk_at "fs")=>`(tactic| first|exact .nil|exact .cons '7' (by walk_at "fs"))
local macro_rules|`(tactic| walk_at "cs")=>`(tactic| first|exact .nil|(refine oU.cons ?_ (λ_=>rfl) ?_ ?_ ?_;(dsimp only;walk_at "i");(dsimp only;walk_at "g");(dsimp only;walk_at "fs");walk_at "cs"))
local macro_rules|`(tactic| walk_at "s")=>`(tactic| first|((exists (pT _),1);refine SM ?_<;>walk_at "e")|((exists (qT _ _ _),1);exact Rt '7' '8' '8')|(show uA _ _ (.Assign [.Name _ _] (.ListComp _ _ _ _) _) _;first|exists x0,4|exact IU (vD (by kernel_rfl)) rfl (by walk_at "l") '2')|((exists (p_ _ _),1);exact IU (vD (by kernel_rfl)) rfl (by walk_at "l") '2')|((exists (t6 _ _ _),1);exact RQ zjh rfl (by walk_at "i") (by walk_at "g") '8')|((exists (tG _),1);refine T5 ?_<;>walk_at "e")|((exists (HB _ _ _),1);exact zi3 rfl (vD (by kernel_rfl)) rfl rfl (by decide) rfl rfl '6' rfl)|((with_reducible show uA _ _ _ (II 0 _));refine ze7 Bj rfl rfl B.z00 rfl rfl ?_<;>walk_at "a")|((exists qS,1);exact TR))
local macro_rules|`(tactic| walk_at "ss")=>`(tactic| first|((with_reducible show r8 _ _ _ qS);exact T_)|((with_reducible show r8 _ _ _ (pL _ _));exact qM '1' '8')|refine qK ?_<;>walk_at "s")
def D5:DS:=(pL (p_ 3 (sR (a_ (vL (vE Y1) m_) (a_ (vL (vE Y2) m_) (a_ (vL (vE Y2) m_) c_))))) (pL (p_ 3 (g_ rD qC (sR (a_ (vL (vE Y2) m_) (a_ (vL (vE Y2) m_) (a_ (vL (vE Y2) m_) c_)))))) (pL (p_ 3 (g_ rD qC (sR (a_ (vL (vE Y2) m_) (a_ (vL (vE Y2) m_) (a_ (vL (vE Y2) m_) c_)))))) (pL (qT (uZ (rl (vL (vE Y1) m_))) (pT xH) qS) (pT (qE Y2 1 (tD (a_ (dC (.int 9)) c_)) (.one 4) [(rl (g_ qi qC q9))] [] q9))))))
def z5d:rO ["_law_call", "_law_error", "e", "_law_marks"] ["_law_call"] (qc (top 68)):=by walk_at "z"
def Zv{X:Cx}{Ex:Nat->Hp->Prop}{k iT:Nat}{c Pt:af}{tE:DE}{params:eG}{body:aS}{scope:cf}{pn pl pp:Pos}(T:Txt X.K X.mg)(hr:oF (k+2) X.A)(L:uf X.mg X.base c Pt)(sh:X.env.code=.ref c)(LS:Jl X.env.scope scope)(uW:defaultsOf params X.env=([],[]))
  (Dc:∀(name qual:au)(cl:List (au×af))(pm cd ct:ae),bindArgs (cr name qual params body scope cl pm cd ct) ⟨[],[]⟩=pure [])
  (hE:∀(q:au)(lam:af)(cd:ae)(cl:List (au×af))(A:aX)(outer:List Env)(s:ag)(H:Hp)(E:XK),oF k (A.deeper (tx q scope s.heap.objs.size lam cd cl))->PD (Dr (rK X.prog X.w Cl) X.prog X.w X.K X.mg X.base X.N (tx q scope s.heap.objs.size lam cd cl) A outer s H E) (Xk Cl E) body tE)
  (hg:Gl X "_law_refused"):PD X Ex (.Call (.Name "_law_refused" pn) [.Lambda params body scope pl] [] pp) (Bq Pt iT Ca 4 1 tE D5):=
 zbo (N:=["_law_call", "_law_error", "e", "_law_marks"]) (i:=2) (j:=1) (nf := "_law_call") (n := "e") (y := "_law_error") (xT := "TermError") (T:=24) (Cl:=Cl) (Ca:=Ca) T.wM hr rfl z5d (by decide +kernel) rfl rfl rfl 's' 's' rfl rfl (.inl rfl) '4' rfl T.wh1 (XI T) (λf k_ s H hr=>(have x0:Nx ["_law_k"]:=⟨⟩;(qM '1' (qM '1' (qM '1' (qM '1' (qK '1'))))))) L sh LS uW Dc hE hg
def JK:DS:=(qT (uZ (rl (o_ 1 (rz MV) (a_ j_ c_)))) (II 0 (a_ (dC (.str [97,32,102,117,110,99,116,105,111,110,32,105,115,32,97,32,116,117,112,108,101,32,111,102,32,50,44,32,52,44,32,56,32,111,114,32,49,54,32,97,110,115,119,101,114,115,44,32,101,97,99,104,32,48,44,32,49,32,111,114,32,78,111,110,101])) c_)) qS)
def FV:pY:=(qL 1 JK)
def z4P:rO ["thing"] ["thing"] (qc (top 18)):=by walk_at "z"
def z4M(T:Txt K mg)(B:yA mg base):oJ Cl P w K mg base "need_function" 5 1 FV:=
 oJ.self (fnX (k:=4) T.w4 z4P '4' λf k_ A outer s H E hr=>
  ((qK (by delta JK;walk_at "s"))))
def MI:DS:=(pL (tG (o_ 1 FV (a_ j_ c_))) (pT (qE Y2 1 (qy (o_ 1 (rz Ck) (a_ (o_ 1 (rz MW) (a_ j_ c_)) c_))) (.one 1) [(rl (o_ 2 (rz JS) (a_ j_ (a_ m_ c_))))] [] m_)))
def JB:pY:=(qL 1 MI)
def z70:rO ["function"] ["function"] (qc (top 31)):=by walk_at "z"
def z7b(T:Txt K mg)(B:yA mg base):oJ Cl P w K mg base "good_terms" 6 1 JB:=
 oJ.self (fnX (k:=5) T.we z70 '4' λf k_ A outer s H E hr=>
  (have x0:Nx ["term"]:=⟨⟩;(qM '1' (qK '1'))))
def Mz:DS:=(pL (tG (o_ 1 FV (a_ j_ c_))) (pT (pP yk (a_ (qE Y2 1 (qy j_) (.one 1) [] [] (o_ 1 (rz M0) (a_ m_ c_))) c_))))
def FH:pY:=(qL 1 Mz)
def z8v:rO ["function"] ["function"] (qc (top 45)):=by walk_at "z"
def z8x(T:Txt K mg)(B:yA mg base):oJ Cl P w K mg base "opposite" 6 1 FH:=
 oJ.self (fnX (k:=5) T.wq z8v '4' λf k_ A outer s H E hr=>
  (have x0:Nx ["answer"]:=⟨⟩;(qM '1' (qK '1'))))
def Js:DS:=(pT (qE Y2 1 (qy (o_ 1 JB (a_ j_ c_))) (.one 1) [(yG (rl (o_ 2 (rz MX) (a_ j_ (a_ m_ c_)))) (rl (o_ 2 (rz MO) (a_ j_ (a_ m_ c_)))))] [] m_))
def FJ:pY:=(qL 1 Js)
def z8Z:rO ["function"] ["function"] (qc (top 34)):=by walk_at "z"
def z9e(T:Txt K mg)(B:yA mg base):oJ Cl P w K mg base "greatest" 7 1 FJ:=
 oJ.self (fnX (k:=6) T.wh z8Z '4' λf k_ A outer s H E hr=>
  (have x0:Nx ["term"]:=⟨⟩;(qK (by delta Js;walk_at "s"))))
def JO:DS:=(pT (B7 1 (qy (o_ 1 FJ (a_ j_ c_))) (.one 1) [] [] m_ (o_ 1 (rz AH) (a_ m_ c_))))
def FP:pY:=(qL 1 JO)
def z5H:rO ["function"] ["function"] (qc (top 40)):=by walk_at "z"
def z5F(T:Txt K mg)(B:yA mg base):oJ Cl P w K mg base "held_points" 8 1 FP:=
 oJ.self (fnX (k:=7) T.wm z5H '4' λf k_ A outer s H E hr=>
  (have x0:Nx ["term"]:=⟨⟩;(qK (by delta JO;walk_at "s"))))
def Ep(P2:Nat):DS:=(pT (sj P2 1 2 (rz (FR P2)) (a_ (o_ 1 FP (a_ j_ c_)) (a_ (o_ 2 (rz JN) (a_ j_ (a_ rj c_))) c_))))
def FQ(P2:Nat):pY:=vN 2 1 P2 (Ep P2)
def z5J:rO ["function", "<tab2>"] ["function"] (qc (top 41)):=by walk_at "z"
def V6{c2 P2:af}(T:Txt K mg)(B:yA mg base)(hT:yF K mg "covers" (top 38) c2)(LQ:uf mg base c2 P2):B_ Cl P w K mg base "least_forms" 26 1 P2 (FQ P2):=
 HI (k:=25) (i:=1) (z := "<tab2>") T.wn z5J rfl (Ac 'k') '4' λf k_ A outer s H E hr=>
  ((qK (by delta Ep;walk_at "s")))
def Eo(P2:Nat):DS:=(pT (g_ qi (sj P2 1 1 (FQ P2) (a_ j_ c_)) qZ))
def Bz(P2:Nat):pY:=vN 2 1 P2 (Eo P2)
def z7c:rO ["function", "<tab2>"] ["function"] (qc (top 42)):=by walk_at "z"
def VR{c2 P2:af}(T:Txt K mg)(B:yA mg base)(hT:yF K mg "covers" (top 38) c2)(LQ:uf mg base c2 P2):B_ Cl P w K mg base "least_form" 27 1 P2 (Bz P2):=
 HI (k:=26) (i:=1) (z := "<tab2>") T.wo z7c rfl (Ac 'k') '4' λf k_ A outer s H E hr=>
  ((qK (by delta Eo;walk_at "s")))
def Es(P2:Nat):DS:=(pT (sj P2 1 1 (Bz P2) (a_ (o_ 1 FH (a_ j_ c_)) c_)))
def Co(P2:Nat):pY:=vN 2 1 P2 (Es P2)
def z4N:rO ["function", "<tab2>"] ["function"] (qc (top 46)):=by walk_at "z"
def Wd{c2 P2:af}(T:Txt K mg)(B:yA mg base)(hT:yF K mg "covers" (top 38) c2)(LQ:uf mg base c2 P2):B_ Cl P w K mg base "least_product" 28 1 P2 (Co P2):=
 HI (k:=27) (i:=1) (z := "<tab2>") T.wr z4N rfl (Ac 'k') '4' λf k_ A outer s H E hr=>
  ((qK (by delta Es;walk_at "s")))
def FT(P2:Nat):DS:=(pL (p_ 1 (sj P2 3 1 (Bz P2) (a_ j_ c_))) (pL (p_ 2 (sj P2 3 1 (Co P2) (a_ j_ c_))) (pL (qT (qd (g_ Aj (o_ 1 (rz En) (a_ qk c_)) (o_ 1 (rz En) (a_ m_ c_)))) (pT (rL (a_ (dC (.str [112,114,111,100,117,99,116,115])) (a_ qk c_)))) qS) (pT (rL (a_ (dC (.str [115,117,109,115])) (a_ m_ c_)))))))
def Er(P2:Nat):pY:=vN 4 3 P2 (FT P2)
def z5f:rO ["function", "by_sums", "by_products", "<tab2>"] ["function"] (qc (top 48)):=by walk_at "z"
def V2{c2 P2:af}(T:Txt K mg)(B:yA mg base)(hT:yF K mg "covers" (top 38) c2)(LQ:uf mg base c2 P2):B_ Cl P w K mg base "shorter_side" 29 1 P2 (Er P2):=
 HI (k:=28) (i:=3) (z := "<tab2>") T.wt z5f rfl (Ac 'k') '4' λf k_ A outer s H E hr=>
  ((qM '1' (qM '1' (qM '1' (qK '1')))))
abbrev Ia(Pt P2:Nat):DS:=pL (p_ 2 (o_ 2 (rz ME) (a_ j_ (a_ m_ c_)))) (pL (p_ 3 (o_ 3 (rz MZ) (a_ qk (a_ (g_ rD rj (o_ 2 (rz xP) (a_ qk (a_ (dC (.int 4)) c_)))) (a_ A8 c_))))) (pL (HB 4 5 (a_ (o_ 1 (rz JA) (a_ (o_ 1 (rz M5) (a_ qC c_)) c_)) (a_ (o_ 1 (rz JA) (a_ qC c_)) c_))) (pL (qT (uZ (rl (o_ 2 (rz El) (a_ (sj P2 9 1 (Co P2) (a_ qC c_)) (a_ q9 c_))))) Ai qS) (pL (p_ 6 (rL (a_ (dC (.str [115,117,109,115])) Ag))) (pL (qT (qd (g_ Aj (rL (a_ (pP qu (a_ q9 c_)) (a_ (o_ 1 (rz zK) (a_ q9 c_)) c_))) (rL (a_ (pP qu Ag) (a_ (o_ 1 (rz zK) Ag) c_))))) (p_ 6 (rL (a_ (dC (.str [112,114,111,100,117,99,116,115])) (a_ q9 c_)))) qS) (pL (qT (uZ (rl (o_ 2 (rz El) (a_ (sj P2 9 1 (Er P2) (a_ qC c_)) vK)))) Ai qS) (pL (p_ 7 (o_ 1 (rz M4) (a_ qk c_))) (pL (qT (qd (g_ (pU rB) (Bq Pt 8 Ca 4 1 (sj P2 9 1 (Co P2) BW) D5) (sR (a_ qZ c_)))) Ai qS) (qT (qd (g_ (pU rB) (Bq Pt 8 Ca 4 1 (sj P2 9 1 (Er P2) BW) D5) (sR (a_ qZ c_)))) Ai qS)))))))))
def YF(Pt P2:Nat):DS:=(pL (t6 (tD (a_ (pP D0 (a_ rj (a_ (pP D3 (a_ (pP qu (a_ j_ c_)) (a_ (dC (.int 4)) c_))) c_))) c_)) (.one 1) (Ia Pt P2)) (pT A8))
def F_law(Pt P2:Nat):pY:=HN 10 8 9 Pt P2 (YF Pt P2)
def zkL:rO ["_law_script", "_law_k", "_law_state_here", "_law_function_here", "_law_product", "_law_form", "_law_due", "_law_bad", "<tab>", "<tab2>"] ["_law_script"] (qc (top 69)):=by walk_at "z"
def zjY{f c Pt c2 P2:af}{fd:dL}(hF:L2.Fun K "law" "law" (top 69) f fd)(hc:fd.code=.ref c)(T:Txt K mg)(B:yA mg base)(hT:yF K mg "covers" (top 38) c2)(L:uf mg base c Pt)(LQ:uf mg base c2 P2):oP P w K mg base (rK P w Cl) 32 f fd ["_law_script"] (BZ K (Xk Cl) 1 Pt P2 (F_law Pt P2)):=
 XU (k:=31) (i:=8) (j:=9) (z := "<tab>") (y := "<tab2>") hF hc zkL rfl (Ac 'k') rfl (Ac 'k') λA outer s H E hr=>
  ((qM '1' (qK '1')))
def ZT{f c Pt b P2:af}{a:dL}(d:L2.Fun K "law" "law" (top 69) f a)(e:a.code=.ref c)(g:yF K mg "covers" (top 38) b)(T:Txt K mg)(B:yA mg base)(L:uf mg base c Pt)(h:uf mg base b P2):oP P w K mg base (rK P w Cl) 32 f a ["_law_script"] (BZ K (Xk Cl) 1 Pt P2 (F_law Pt P2)):=
 zjY d e T B g L h
end
def fa_mk{K:aj}{h:aR}{c:au->Option ae}(X:K.In h)(G:h.Ns bV c){n:au}{b:cT}{f:af}{e g:Option af}{sl:Array (Option ae)}{i j m o p d:ae}(a:ip K bV n=XE (XE (.ref f)))
  (l:K.lookup f=XE ⟨i,e,.func (bi n n (vm b) (sT b) (qc b) .none j m o g d p),sl⟩) (q:cX K d n=Y1) (k:cV K (.ref f)=Y1):qw K c n b:=⟨f,_,cM X G a,Lk l q k⟩
def gs_mk{K:aj}{h:aR}{a:au->Option ae}(X:K.In h)(G:h.Ns bV a){n:au}{cs:n_}{t:Tok}(s:ip K bV n=XE (XE (.str ⟨cs.toArray⟩ t))):KS a n cs:=⟨_,cM X G s⟩
def gt_mk{K:aj}{h:aR}{a:au->Option ae}(X:K.In h)(G:h.Ns bV a){n:au}{b:List (Int×Int)}{e:af}{o:Obj}(d:ip K bV n=XE (XE (.ref e)))(u:K.lookup e=XE o)(v:HF o b=Y1)(y:(e==sysModules)=Y2):BX K a n b:=⟨_,_,cM X G d,u,v,y⟩
def all_mk{P:aJ}{w:aU}{K:aj}{h:aR}{b:au->Option ae}{I:af}(X:K.In h)(G:h.Ns bV b)(x:b "law" = XE (.ref I))(T:Txt K b)
  {f:af} {W J:Option af} {sl:Array (Option ae)} {Y M N O Q:ae} {i:af} (a:ip K bV "law" = XE (XE (.ref f)))
  (l:K.lookup f=XE ⟨Y,W,.func (bi "law" "law" (vm (top 69)) (sT (top 69)) (qc (top 69)) .none M N O J (.ref i) Q),sl⟩) (q:cX K (.ref i) "law" = Y1) (k:cV K (.ref f)=Y1)
  {v:af} {y z:Option af} {Z:Array (Option ae)} {A B C D E:ae} {j:af} (R:ip K bV "covers" = XE (XE (.ref v)))
  (S:K.lookup v=XE ⟨A,y,.func (bi "covers" "covers" (vm (top 38)) (sT (top 38)) (qc (top 38)) .none B C D z (.ref j) E),Z⟩) (q2:cX K (.ref j) "covers" = Y1) (k2:cV K (.ref v)=Y1)
  (F:l8 K 37 Hz "ValueError.__new__" = Y1)
  {P2:af} {m:ae} {n:Option af} {o:Array (Option ae)} {d:Array ae} (h6:K.lookup j=XE ⟨m,n,.fields d,o⟩) (h7:d[11]?=XE (.ref P2))
  {Pt:af} {p:ae} {r:Option af} {t:Array (Option ae)} {g:Array ae} (h4:K.lookup i=XE ⟨p,r,.fields g,t⟩) (h5:g[11]?=XE (.ref Pt)) (H:jz K=Y1)
  : jz K=Y1/\∃(c Pt U P2:af),gW K "law" = XE (c,Pt)/\gW K "covers" = XE (U,P2)/\∃V:dL,(∀(s:ag)(u:ae),i3 s V ⟨[u],[]⟩ [("_law_script",u)])/\∀base:aR,K.In base->base.Ns bV b->uf b base c Pt->uf b base U P2->oP P w K b base (rK P w Cl) 32 I V ["_law_script"] (BZ K (Xk Cl) 1 Pt P2 (F_law Pt P2)):=by have hF:L2.Fun K "law" "law" (top 69) f (bi "law" "law" (vm (top 69)) (sT (top 69)) (qc (top 69)) .none M N O J (.ref i) Q):=Lk l q k;have e:=x.symm.trans (cM X G a);cases e;have hT:yF K b "covers" (top 38) j:=⟨v,_,cM X G R,Lk S q2 k2,rfl⟩;exact⟨H,i,Pt,j,P2,Rc a l h4 h5,Rc R S h6 h7,_,λs u=>.of_eq rfl,λbase kb nb L LQ=>ZT hF rfl hT T ⟨zjo kb T.w81 F⟩ L LQ⟩
end K51
-- XD 32
namespace K51
open PySem DL
noncomputable def Lb:D->Bool
 |.own _=>Y2
 |.lst _=>Y2
 |.tup _=>Y2
 |.map _ _=>Y2
 |_=>Y1
def xK(n:Nat):D->Bool
 |.own k=>decide (k<n)
 |.lst _=>Y2
 |.tup ds=>ds.all Lb
 |.map _ _=>Y2
 |_=>Y1
def zw(O:Ow):Prop:=∀c∈O,∀d∈c,xK O.length d=Y1
def PN(h:Lb d=Y1):frz O n f d=XE d:=by
 cases d with
 |own k=>cases h
 |lst ds=>cases h
 |tup ds=>cases h
 |map ks ds=>cases h
 |_=>cases f<;>rfl
def AF(h:xK n d=Y1):frz O n (f+1) d=XE d:=by
 cases d with
 | own k=>
  have h:k<n:=by simpa [xK] using h
  unfold frz;dsimp only;rw[JU h]
 |lst ds=>cases h
 | tup ds=>
  show(qe (frz O n f) ds).map D.tup=_;rw[uQ λd a=>PN (ay.mp h d a)];rfl
 |map ks ds=>cases h
 |_=>rfl
def Jr(a:∀c∈O',∀d∈c,xK O'.length d=Y1)(X:Ow)(h:frz (O'++X) O'.length 8 d=qO cs):uC O'.length (.ok d (O'++X))=.ok (.lst cs) O':=by
 unfold uC;dsimp only;rw[h];have:(O'++X).take O'.length=O':=by simp
 rw[this,uQ λc b=>uQ λd e=>AF (a c b d e)]
def Xj:Nat->l_
 |0=>[[]]
 |n+1=>(Xj n).flatMap λt=>[t++[45],t++[48],t++[49]]
noncomputable def Qy:Nat->n_
 |45=>[0,1]
 |49=>[1]
 |_=>[0]
def rf(cs:n_):n_:=cs.foldl (λps c=>ps.flatMap λp=>(Qy c).map (2*p + ·)) [0]
def rn(l:n_):List D:=l.map λ(p:Nat)=>D.int (p:Int)
def oN:l_:=Xj 1++Xj 2++Xj 3++Xj 4
def zhO(O:Ow):(oN.map λcs=>AH [.str cs] O)=oN.map λcs=>R.ok (.lst (rn (rf cs))) O:=by kernel_rfl
def Bg:Nat->Nat->n_
 |0,_=>[]
 |n+1,p=>Bg n (p/2)++[48+p%2]
def pf:List (n_×Nat):=oN.flatMap λcs=>(aW (2 ^ cs.length)).map λp=>(cs,p)
def pD:List (Nat×Nat):=[1,2,3,4].flatMap λn=>(aW (2 ^ n)).map λp=>(n,p)
def zfj(b:1<=n)(c:n<=4)(a:p<2 ^ n):(n,p)∈pD:=by
 unfold pD;rw[gQ];refine⟨n,?_,az.mpr ⟨p,bz.mpr a,rfl⟩⟩;have:n=1\/n=2\/n=3\/n=4:=by lia
 rcases this with rfl|rfl|rfl|rfl<;>simp
def Lx(cs bs:n_):Bool:=(aW cs.length).all λi=>cs.getD i 0==45||cs.getD i 0==bs.getD i 1
def sgn(c:Nat):Bool:=c==45||c==48||c==49
def bit(c:Nat):Bool:=c==48||c==49
def zcx:(pf.all λq=>Lx q.1 (Bg q.1.length q.2)==(rf q.1).contains q.2&&(Bg q.1.length q.2).length==q.1.length&&(Bg q.1.length q.2).all bit&&q.1.all sgn)=Y1:=by decide +kernel
def Ub(h:cs∈oN)(a:p<2 ^ cs.length):(cs,p)∈pf:=by unfold pf;rw[gQ];exact⟨cs,h,az.mpr ⟨p,bz.mpr a,rfl⟩⟩
def MF(h:cs∈oN)(O:Ow):AH [.str cs] O=.ok (.lst (rn (rf cs))) O:=dj.mp (zhO O) cs h
def z6S(O:Ow):Ck [.int 1] O=.ok (.lst ((Xj 1).map .str)) O:=by kernel_rfl
def z6C(O:Ow):Ck [.int 2] O=.ok (.lst ((Xj 2).map .str)) O:=by kernel_rfl
def z76(O:Ow):Ck [.int 3] O=.ok (.lst ((Xj 3).map .str)) O:=by kernel_rfl
def z6u(O:Ow):Ck [.int 4] O=.ok (.lst ((Xj 4).map .str)) O:=by kernel_rfl
def xi(d:D):Prop:=d=.int 0\/d=.int 1\/d=.non
def ui:D->Bool
 |.int i=>i==0
 |_=>Y2
structure Fn(n:Nat)(f:List D):Prop where
 n1:1<=n
 n4:n<=4
 len:f.length=2 ^ n
 ans:∀d∈f,xi d
def uF(f:List D)(cs:n_):Bool:=(rf cs).all λp=>!ui (f.getD p .non)
def ne0(O:Ow)(h:xi d):pU rB O d (.int 0)=.ok (.bl (!ui d)) O:=by rcases h with rfl|rfl|rfl<;>kernel_rfl
def eq0(O:Ow)(h:xi d):pU rV O d (.int 0)=.ok (.bl (ui d)) O:=by rcases h with rfl|rfl|rfl<;>kernel_rfl
def Ae{n:Nat}(a:1<=n)(b:n<=4):n=1\/n=2\/n=3\/n=4:=by lia
def vS(a:1<=n)(b:n<=4)(h:cs∈Xj n):cs∈oN:=by unfold oN;rcases Ae a b with rfl|rfl|rfl|rfl<;>simp[h]
def z79:([1,2,3,4].all λn=>(Xj n).all λcs=>cs.length==n)=Y1:=by decide +kernel
def tW(a:1<=n)(b:n<=4)(h:cs∈Xj n):cs.length=n:=by have:=ay.mp z79 n (by rcases Ae a b with rfl|rfl|rfl|rfl<;>simp);simpa using ay.mp this cs h
def zb6:(oN.all λcs=>(rf cs).all λp=>decide (p<2 ^ cs.length))=Y1:=by decide +kernel
def Ir(h:cs∈oN)(a:p∈rf cs):p<2 ^ cs.length:=by have:=ay.mp zb6 cs h;simpa using ay.mp this p a
def z95:(oN.all λcs=>decide ((rf cs).length<=16))=Y1:=by decide +kernel
def SK(h:cs∈oN):(rf cs).length<=16:=by simpa using ay.mp z95 cs h
theorem RE:∀l:List Bool,yt (l.map D.bl)=XE l
 |[]=>rfl
 | b::l=>by
  show(yt (l.map D.bl)).map (b :: ·)=_;rw[RE l];rfl
def Ma(O:Ow)(l:List Bool):BR O [.lst (l.map D.bl)]=.ok (.bl (l.all id)) O:=by show(match yt (l.map D.bl) with|some bs=>R.ok (D.bl (bs.all id)) O|none=>R.bad)=_;rw[RE]
def Cd{f:List D}{p:Nat}(h:p<f.length):f.getD p .non=f[p]:=by rw[aH,ao h];rfl
def MM{α:Type}(l:List α):l.filter (λ_=>Y1)=l:=by simp
def Te{n:Nat}{f:List D}(a:Fn n f){cs:n_}(h:cs∈Xj n)(O:Ow):JS [.tup f,.str cs] O=.ok (.bl (uF f cs)) O:=by
 have b:=vS a.n1 a.n4 h;have l:=tW a.n1 a.n4 h;have c:qy (o_ 1 AH (a_ m_ c_)) [qF f,sJ cs] O=.ok (.val (rn (rf cs))) O:=vP ((yj (pR rfl) rfl).trans (MF b O));have j:=U7 (ext:=1) (i:=2) (ts:=[]) (te:=g_ (pU rB) (g_ qi j_ qk) qZ) (e:=λd=>.bl (match d with|.int i=>!ui (f.getD i.toNat .non)|_=>Y2)) c (by unfold rn;have:=SK b;simp;lia) (λd k=>rfl) (λd k _=>by
  obtain⟨q,m,rfl⟩:=az.mp k;have g:q<f.length:=by rw[a.len,<- l];exact Ir b m
  refine(rp ((rp rfl rfl).trans (IM g)) rfl).trans ((ne0 O (a.ans _ (bO g))).trans ?_);have:((q:Int)).toNat=q:=by lia
  show _=R.ok (D.bl (!ui (f.getD ((q:Int)).toNat .non))) O;rw[this,Cd g]) Y2
 have o:(((rn (rf cs)).filter λ_=>Y1).map λd=>D.bl (match d with|.int i=>!ui (f.getD i.toNat .non)|_=>Y2))=((rf cs).map λp=>!ui (f.getD p .non)).map D.bl:=by
  rw[MM];unfold rn;rw[bB,bB];exact jq λq _=>by
   show D.bl (!ui (f.getD ((q:Int)).toNat .non))=D.bl (!ui (f.getD q .non));have:((q:Int)).toNat=q:=by lia
   rw[this]
 rw[o] at j;show fin (pT _ [qF f,sJ cs] O)=_;rw[tI ((xr (pR j)).trans (Ma O _))];congr 2;rw[mF];rfl
def zdS(O:Ow)(h:xi d):JI [d] O=.ok (.bl Y1) O:=by rcases h with rfl|rfl|rfl<;>kernel_rfl
def By(a:n<=4):2 ^ n<=16:=aG (de 's' a) 's'
def Mj(O:Ow)(f:List D):qu O [.tup f]=.ok (.int f.length) O:=rfl
def z5M(a:Fn n f)(O:Ow):MV [.tup f] O=.ok (.bl Y1) O:=by
 have b:=U7 (ext:=1) (i:=1) (ts:=[]) (te:=o_ 1 JI (a_ m_ c_)) (it0:=qy j_) (σ:=[qF f]) rfl (by have:=By a.n4;have:=a.len;lia) (λd c=>rfl) (λd c _=>(yj (pR rfl) rfl).trans (zdS O (a.ans d c))) Y2;have e:(f.filter λ_=>Y1).map (λ_=>D.bl Y1)=(f.map λ_=>Y1).map D.bl:=by rw[MM,bB];rfl
 rw[e] at b;have g:qT (BU (uZ (rl (r9 "tuple" j_))) (qd (Az Y1 xR (pP qu (a_ j_ c_))))) Ai qS [qF f] O=.nx [qF f] O:=by
  have:BU (uZ (rl (r9 "tuple" j_))) (qd (Az Y1 xR (pP qu (a_ j_ c_)))) [qF f] O=.ok Y2 O:=by
   show(qd (Az Y1 xR (pP qu (a_ j_ c_))) [qF f] O)=_;refine sH ?_;show R.ok (D.bl (if Y1=Y1 then !(uM xR (f.length:Nat)).isSome else _)) O=_;rw[a.len];rcases Ae a.n1 a.n4 with rfl|rfl|rfl|rfl<;>rfl
  rw[ug this];rfl
 show fin (pL _ _ [qF f] O)=_;rw[tJ g,tI ((xr (pR b)).trans (Ma O _))];show R.ok (D.bl _) O=_;congr 2;rw[mF];exact ay.mpr λ_ _=>rfl
def z8J(a:Fn n f)(O:Ow):MW [.tup f] O=.ok (.int n) O:=by
 show fin (pT (EY xR (pP qu (a_ j_ c_))) [qF f] O)=_;have:EY xR (pP qu (a_ j_ c_)) [qF f] O=.ok (.int n) O:=by
  show(match uM xR (f.length:Nat) with|some v=>R.ok (D.int v) O|none=>R.bad)=_;rw[a.len];rcases Ae a.n1 a.n4 with rfl|rfl|rfl|rfl<;>rfl
 rw[tI this];rfl
def z5i(a:Fn n f)(O:Ow):M6 [.tup f] O=.ok (.int n) O:=by
 show fin (pT (E6 [(2,1),(4,2),(8,3),(16,4)] (pP qu (a_ j_ c_))) [qF f] O)=_;have:E6 [(2,1),(4,2),(8,3),(16,4)] (pP qu (a_ j_ c_)) [qF f] O=.ok (.int n) O:=by
  show(match EX [(2,1),(4,2),(8,3),(16,4)] (f.length:Nat) with|some v=>R.ok (D.int v) O|none=>R.bad)=_;rw[a.len];rcases Ae a.n1 a.n4 with rfl|rfl|rfl|rfl<;>rfl
 rw[tI this];rfl
def Mq(a:1<=n)(b:n<=4):(Xj n).length<=81:=by rcases Ae a b with rfl|rfl|rfl|rfl<;>decide
def tF(n:Nat)(f:List D):l_:=(Xj n).filter (uF f)
structure oX(O:Ow)(m:Nat)(s:Int)(b:Bool):Prop where
 at_:O[m]?=XE [.int s,.bl b]
 nn:0<=s
 lt:b=Y2->s<2147483647
def oX.len(h:oX O m s b):m<O.length:=(ak.mp h.at_).1
def Jp(h:O[m]?=XE [x,y]):qi O (.own m) (.int 0)=.ok x O:=by show(match O[m]? with|some ds=>(match L2.atI ds 0 with|some d=>R.ok d O|none=>R.bad)|none=>_)=_;rw[h];rfl
def Us(h:O[m]?=XE [x,y]):qi O (.own m) (.int 1)=.ok y O:=by show(match O[m]? with|some ds=>(match L2.atI ds 1 with|some d=>R.ok d O|none=>R.bad)|none=>_)=_;rw[h];rfl
def Sd(a:te σ O=.ok y O1)(b:to σ O1=.ok (.own k) O2)(c:ti σ O2=.ok (.int i) O3)(d:O3[k]?=XE ds)(e:L2.ixN ds.length i=XE j):
  Ak te to ti σ O=.nx σ (O3.set k (ds.set j y)):=by show((te σ O).bnS _)=_;rw[a];show((to σ O1).bnS _)=_;rw[b];show((ti σ O2).bnS _)=_;rw[c];show(match O3[k]? with|some ds=>(match L2.ixN ds.length i with|some j=>RS.nx σ (O3.set k (ds.set j y))|none=>RS.bad)|none=>RS.bad)=_;rw[d];show(match L2.ixN ds.length i with|some j=>RS.nx σ (O3.set k (ds.set j y))|none=>RS.bad)=_;rw[e]
def Ff(h:0<j):fI uB O (.int i) (.int j)=.ok (.int (i%j)) O:=by show(match uB i j with|some d=>R.ok d O|none=>R.bad)=_;unfold uB;rw[JU h]
def Rb(h:0<j)(a:j<1073741824):fI ye O (.int i) (.int j)=.ok (.int (i/j)) O:=by show(match ye i j with|some d=>R.ok d O|none=>R.bad)=_;unfold ye;rw[JU ⟨h,a⟩]
def D7(h:-1000000000000000<i)(a:i<1000000000000000):fI uL O (.int i) (.int j)=.ok (.int (i*j)) O:=by show(match uL i j with|some d=>R.ok d O|none=>R.bad)=_;unfold uL;rw[JU (.inl ⟨h,a⟩)]
def Ei:rD O (.int i) (.int j)=.ok (.int (i+j)) O:=rfl
def Fs(h:oX O m s b)(k1:1<=k)(k2:k<=1000):
  ∃(r:Nat)(s':Int),r<k/\xP [.own m,.int k] O=.ok (.int r) (O.set m [.int s',.bl b])/\oX (O.set m [.int s',.bl b]) m s' b:=by
 have e:(0:Int)<(k:Int):=by lia
 have f:∀s',(O.set m [.int s',.bl b])[m]?=XE [D.int s',D.bl b]:=λs'=>by rw[aY h.len]
 have y:∀x:Int,∃r:Nat,r<k/\x%(k:Int)=(r:Int):=λx=>by
  have E:=k7 x (show(k:Int)≠0 by lia);have F:=jR x e;exact⟨(x%(k:Int)).toNat,by lia,by lia⟩
 cases b with
 | true=>
  obtain⟨r,g,i⟩:=y s;refine⟨r,s/k,g,?_,f _,Int.ediv_nonneg h.nn 'o',λz=>by cases z⟩;have l:rl (g_ qi j_ rj) [qA m,pM k,YP,YP] O=.ok Y1 O:=xN ((rp rfl rfl).trans (Us h.at_));have n:p_ 2 (g_ (fI uB) (g_ qi j_ qZ) m_) [qA m,pM k,YP,YP] O=.nx [qA m,pM k,pM r,YP] O:=by
   rw[AD ((rp ((rp rfl rfl).trans (Jp h.at_)) rfl).trans (Ff e)),i];rfl
  have o:Ak (g_ (fI ye) (g_ qi j_ qZ) m_) j_ qZ [qA m,pM k,pM r,YP] O=.nx [qA m,pM k,pM r,YP] (O.set m [.int (s/k),.bl Y1]):=
   Sd (j:=0) ((rp ((rp rfl rfl).trans (Jp h.at_)) rfl).trans (Rb e 'o')) rfl rfl h.at_ rfl
  show fin (pL (qT _ _ _) _ [qA m,pM k,YP,YP] O)=_;have p:qT (rl (g_ qi j_ rj)) (pL (p_ 2 (g_ (fI uB) (g_ qi j_ qZ) m_)) (pL (Ak (g_ (fI ye) (g_ qi j_ qZ) m_) j_ qZ) (pT qk))) qS [qA m,pM k,YP,YP] O=.rt (.int r) (O.set m [.int (s/k),.bl Y1]):=by
   rw[ug l,JU rfl,tJ n,tJ o];rfl
  rw[Fp p];rfl
 | false=>
  have G:=h.lt rfl;let a:Int:=(s*48271+29)%2147483647;have q:0<=a:=k7 _ 's';have t:a<2147483647:=jR _ 's';let c:=O.set m [.int a,.bl Y2];have A:=f a;let d:Int:=(a*a+39373*a+7)%2147483629;let u:Int:=(d*d+16807*d)%2147483587;have l:rl (g_ qi j_ rj) [qA m,pM k,YP,YP] O=.ok Y2 O:=xN ((rp rfl rfl).trans (Us h.at_));have B:qT (rl (g_ qi j_ rj)) (pL (p_ 2 (g_ (fI uB) (g_ qi j_ qZ) m_)) (pL (Ak (g_ (fI ye) (g_ qi j_ qZ) m_) j_ qZ) (pT qk))) qS [qA m,pM k,YP,YP] O=.nx [qA m,pM k,YP,YP] O:=by
   rw[ug l];rfl
  have n:Ak (g_ (fI uB) (g_ rD (g_ (fI uL) (g_ qi j_ qZ) (dC (.int 48271))) (dC (.int 29))) HA) j_ qZ [qA m,pM k,YP,YP] O=.nx [qA m,pM k,YP,YP] c:=
   Sd (j:=0) ((rp ((rp ((rp ((rp rfl rfl).trans (Jp h.at_)) rfl).trans (D7 (by have:=h.nn;lia) 'o')) rfl).trans Ei) rfl).trans (Ff 's')) rfl rfl h.at_ rfl
  have v:∀z w,g_ qi j_ qZ [qA m,pM k,z,w] c=.ok (.int a) c:=λz w=>(rp rfl rfl).trans (Jp A);have o:p_ 3 (g_ (fI uB) (g_ rD (g_ rD (g_ (fI uL) (g_ qi j_ qZ) (g_ qi j_ qZ)) (g_ (fI uL) (dC (.int 39373)) (g_ qi j_ qZ))) (dC (.int 7))) (dC (.int 2147483629))) [qA m,pM k,YP,YP] c=.nx [qA m,pM k,YP,pM d] c:=
   AD ((rp ((rp ((rp ((rp (v YP YP) (v YP YP)).trans (D7 'o' 'o')) ((rp rfl (v YP YP)).trans (D7 's' 's'))).trans Ei) rfl).trans Ei) rfl).trans (Ff 's'))
  have p:p_ 3 (g_ (fI uB) (g_ rD (g_ (fI uL) qC qC) (g_ (fI uL) (dC (.int 16807)) qC)) (dC (.int 2147483587))) [qA m,pM k,YP,pM d] c=.nx [qA m,pM k,YP,pM u] c:=
   AD ((rp ((rp ((rp rfl rfl).trans (D7 'o' 'o')) ((rp rfl rfl).trans (D7 's' 's'))).trans Ei) rfl).trans (Ff 's'))
  obtain⟨r,g,i⟩:=y (u/8);refine⟨r,a,g,?_,f _,q,λ_=>t⟩;have C:pT (g_ (fI uB) (g_ (fI ye) qC (dC (.int 8))) m_) [qA m,pM k,YP,pM u] c=.rt (.int r) c:=by
   rw[tI ((rp ((rp rfl rfl).trans (Rb 's' 's')) rfl).trans (Ff e)),i]
  show fin (pL _ _ [qA m,pM k,YP,YP] O)=_;rw[tJ B,tJ n,tJ o,tJ p,C];rfl
def zg4{ns:List Int}{k:Nat}(O:Ow):∃s b,ME [.lst (ns.map .int),.int k] O=.ok (.own O.length) (O++[[.int s,.bl b]])/\oX (O++[[.int s,.bl b]]) O.length s b:=by
 have f:∀s b,(O++[[D.int s,D.bl b]])[O.length]?=XE [D.int s,D.bl b]:=λs b=>by simp
 obtain⟨c,l⟩:∃c:Int,JR [.lst (ns.map .int),.int k] O=.ok (.int c) O:=by
  have d:qd (g_ xC m_ (pP qu (a_ j_ c_))) [qO (ns.map .int),pM k] O=.ok (decide ((k:Int)<(ns.map D.int).length)) O:=sH ((rp rfl ((xr (pR rfl)).trans rfl)).trans rfl);by_cases g:(k:Int)<(ns.map D.int).length
  ·have e:k<(ns.map D.int).length:=by lia
   have m:g_ qi j_ m_ [qO (ns.map .int),pM k] O=.ok (ns.map D.int)[k] O:=(rp rfl rfl).trans (IP e);refine⟨ns[k]'⇑e,?_⟩;show fin (pL _ _ [qO (ns.map .int),pM k] O)=_;have a:qT (qd (g_ xC m_ (pP qu (a_ j_ c_)))) (pT (g_ qi j_ m_)) qS [qO (ns.map .int),pM k] O=.rt (.int (ns[k]'⇑e)) O:=by
    rw[ug d,JU (decide_eq_true g),tI m];simp
   rw[Fp a];rfl
  ·refine⟨0,?_⟩;show fin (pL _ _ [qO (ns.map .int),pM k] O)=_;have a:qT (qd (g_ xC m_ (pP qu (a_ j_ c_)))) (pT (g_ qi j_ m_)) qS [qO (ns.map .int),pM k] O=.nx [qO (ns.map .int),pM k] O:=by
    rw[ug d,J5 ⇑g];rfl
   rw[tJ a];rfl
 have h:p_ 2 (o_ 2 JR (a_ j_ (a_ m_ c_))) [qO (ns.map .int),pM k,YP] O=.nx [qO (ns.map .int),pM k,pM c] O:=AD ((yj (rm rfl rfl) rfl).trans l);have n:∀i,g_ (fI E5) (dC (.int 10)) (dC (.int 18)) i O=.ok (.int 1000000000000000000) O:=λi=>by
  refine(rp rfl rfl).trans ?_;kernel_rfl
 have d:qd (g_ Dl qk BQ) [qO (ns.map .int),pM k,pM c] O=.ok (decide ((1000000000000000000:Int)<=c)) O:=sH ((rp rfl (n _)).trans rfl);by_cases j:(1000000000000000000:Int)<=c
 ·refine⟨c-1000000000000000000,Y1,?_,f _ _,by lia,λz=>by cases z⟩;have a:qT (qd (g_ Dl qk BQ)) (pT (vB (a_ (g_ (fI vA) qk BQ) (a_ A8 c_)))) qS [qO (ns.map .int),pM k,pM c] O=.rt (.own O.length) (O++[[.int (c-1000000000000000000),.bl Y1]]):=by
   rw[ug d,JU (decide_eq_true j)];refine tI ?_;show((a_ _ _ _ O).bnd _)=_;rfl
  show fin (pL _ _ [qO (ns.map .int),pM k,YP] O)=_;rw[tJ h,Fp a];rfl
 ·refine⟨c%2147483647,Y2,?_,f _ _,k7 _ 's',λ_=>jR _ 's'⟩;have a:qT (qd (g_ Dl qk BQ)) (pT (vB (a_ (g_ (fI vA) qk BQ) (a_ A8 c_)))) qS [qO (ns.map .int),pM k,pM c] O=.nx [qO (ns.map .int),pM k,pM c] O:=by
   rw[ug d,J5 ⇑j];rfl
  show fin (pL _ _ [qO (ns.map .int),pM k,YP] O)=_;rw[tJ h,tJ a];have o:vB (a_ (g_ (fI uB) qk HA) (a_ (dC (.bl Y2)) c_)) [qO (ns.map .int),pM k,pM c] O=.ok (.own O.length) (O++[[.int (c%2147483647),.bl Y2]]):=by
   show((a_ _ _ _ O).bnd _)=_;rfl
  rw[tI o];rfl
def zg9(h:zw O)(m:Nat)(s:Int)(b:Bool):zw (O.set m [.int s,.bl b]):=by
 intro c e d a;rw[cL];rcases ig e with f|rfl
 ·exact h c f d a
 ·simp at a;rcases a with rfl|rfl<;>rfl
def zfu(a:zw O')(X:Ow)(h:frz (O'++X) O'.length 8 d=XE d'):uC O'.length (.ok d (O'++X))=.ok d' O':=by
 unfold uC;dsimp only;rw[h];have:(O'++X).take O'.length=O':=by simp
 rw[this,uQ λc b=>uQ λd e=>AF (a c b d e)]
theorem UN:∀(n:Nat)(cs:n_),cs.length=n->(∀c∈cs,sgn c=Y1)->cs∈Xj n
 | 0,cs,h,_=>by
  have:=cU.mp h;subst this;simp[Xj]
 | n+1,cs,h,hs=>by
  have b:cs≠[]:=by intro e;subst e;simp at h
  obtain⟨t,c,rfl⟩:∃t c,cs=t++[c]:=⟨_,_,(List.dropLast_concat_getLast b).symm⟩;have d:=UN n t ⇑h λc f=>hs c (bS _ f);unfold Xj;rw[gQ];refine⟨t,d,?_⟩;have a:=hs c 'd';unfold sgn at a;simp at a;rcases a with(z|z)|z<;>rw[z]<;>simp
def Y3{σ:Sg}{O:Ow}{t:DE}{n:Nat}(a:n<=4)(h:t σ O=.ok (.int n) O):g_ (fI xl) rj t σ O=.ok (.int ((2 ^ n:Nat):Int)) O:=by
 refine(rp rfl h).trans ?_;have:n=0\/n=1\/n=2\/n=3\/n=4:=by lia
 rcases this with rfl|rfl|rfl|rfl|rfl<;>rfl
def ziL(h:∀d∈ds,xK n d=Y1):frz O n (f+2) (.tup ds)=qF ds:=by show(qe (frz O n (f+1)) ds).map D.tup=_;rw[uQ λd a=>AF (h d a)];rfl
def zf3(h:xi d)(n:Nat):xK n d=Y1:=by rcases h with rfl|rfl|rfl<;>rfl
theorem UL{src:Src}{step:D->Ow->List D->R (List D)}{O:Ow}{g:D->List D}{c:List D}(j:∀i,src.get O i=c[i]?):∀(ds b a:List D)(f:Nat),c=b++ds->ds.length<=f->(∀d∈ds,∀a:List D,a.length<4000000->step d O a=.ok (a++g d) O)->a.length+(ds.flatMap g).length+ds.length<4000000->
  q0 src step f b.length O a=.ok (a++ds.flatMap g) O
 | [],b,a,f,ha,_,_,_=>by
  have e:src.get O b.length=YP:=by rw[j,ha];simp
  cases f<;>(unfold q0;rw[e];simp)
 |d::ds,b,a,0,_,h,_,_=>by simp at h
 | d::ds,b,a,f+1,ha,h,hs,hl=>by
  unfold q0;have e:src.get O b.length=XE d:=by rw[j,ha];simp
  rw[e];simp only[dh,aA,aT] at hl;show((step d O a).bnd λk l=>q0 src step f (b.length+1) l k)=_;rw[hs d av a 'o'];show q0 src step f (b.length+1) O (a++g d)=_;have:=UL j ds (b++[d]) (a++g d) f (by rw[ha];simp) ⇑h (λm n=>hs m (al _ n)) (by rw[aA];lia);rw[aA,fB] at this;rw[this];simp
def zdT{ext:Nat}{it0:DI}{g:Tg}{ts:List DT}{te:DE}{σ:Sg}{O:Ow}{src:Src}{ds:List D}{p:D->Bool}{e:D->D}{τ:D->Sg}(q:it0 σ O=.ok src O)(r:∀i,src.get O i=ds[i]?)(s:src.size O=ds.length)(A:ds.length<1900000)
  (t:∀d∈ds,g.put d (qH (qH (σ++aw ext YP) (g.slots++[])) (g.slots++[]))=XE (τ d)) (u:∀d∈ds,uD ts (τ d) O=.ok (p d) O) (v:∀d∈ds,p d=Y1->te (τ d) O=.ok (e d) O) (o:Bool):
  qE o ext it0 g ts [] te σ O=yd o (.ok ((ds.filter p).map e) O):=by
 unfold qE Cb;rw[q];show yd o (zQ (q0 src _ (src.size O) 0 O []))=_;have c:∀d∈ds,∀a:List D,a.length<4000000->An ⟨it0,g,ts⟩ [] te (qH (σ++aw ext YP) (qz [⟨it0,g,ts⟩])) d O a=.ok (a++(if p d=Y1 then [e d] else [])) O:=by
  intro d k a y;show(match g.put d (qH (qH (σ++aw ext YP) (g.slots++[])) (g.slots++[])) with|some qv=>(uD ts qv O).bnd λb m=>if b=Y1 then xo [] te qv m a else .ok a m|none=>.bad)=_;rw[t d k];show(uD ts (τ d) O).bnd _=_;rw[u d k];show(if p d=Y1 then xo [] te _ O a else .ok a O)=_;by_cases f:p d=Y1
  ·rw[JU f,JU f];unfold xo;rw[v d k f];show(if a.length<4000000 then _ else _)=_;rw[JU y]
  ·rw[J5 f,J5 f];simp
 have n:∀l:List D,(l.flatMap λd=>if p d=Y1 then [e d] else [])=(l.filter p).map e:=by
  intro l
  induction l with
  |nil=>rfl
  | cons x l ih=>
   rw[dh,ih,eD];by_cases j:p x=Y1
   ·rw[JU j,JU j];rfl
   ·rw[J5 j,J5 j];rfl
 have h:((ds.filter p).map e).length<=ds.length:=by rw[aD];exact bD _ _
 have w:=UL (O:=O) (g:=λd=>if p d=Y1 then [e d] else []) r ds [] [] ds.length rfl (aB _) c (by rw[n];simp at h ⊢;lia);rw[n,gd] at w;have z:q0 src (An ⟨it0,g,ts⟩ [] te (qH (σ++aw ext YP) (qz [⟨it0,g,ts⟩]))) (src.size O) 0 O []=.ok ((ds.filter p).map e) O:=by rw[s];exact w
 rw[z];rfl
def Ej(h:r_ O x=XE xs):∃src,Ib x=XE src/\(∀i,src.get O i=xs[i]?)/\src.size O=xs.length:=by
 cases x with
 |lst ds=>cases h;exact⟨.val xs,rfl,λ_=>rfl,rfl⟩
 | own k=>
  have h:O[k]?=XE xs:=h;refine⟨.own k,rfl,λi=>?_,?_⟩
  ·show(match O[k]? with|some ds=>ds[i]?|none=>YP)=_;rw[h]
  ·show(match O[k]? with|some ds=>ds.length|none=>0)=_;rw[h]
 |_=>cases h
def Sw(h:r_ O x=XE xs):qu O [x]=.ok (.int xs.length) O:=by show(match r_ O x with|some ds=>R.ok (D.int ds.length) O|none=>_)=_;rw[h]
structure Sq(O:Ow)(x:D)(xs:List D)(kd:String):Prop where
 zk:∃src,zq x=XE src/\(∀i,src.get O i=xs[i]?)/\src.size O=xs.length
 ln:qu O [x]=.ok (.int xs.length) O
 kind:sY x=kd
def D4(O:Ow)(xs:List D):Sq O (.tup xs) xs "tuple":=⟨⟨_,rfl,λ_=>rfl,rfl⟩,rfl,rfl⟩
def RV{α:Type}{it:DI}{g:Tg}{body:DS}{σ:Sg}{O0 O:Ow}{src:Src}{l:List α}{inj:α->D}(n:it σ O0=.ok src O)(y:src.size O=l.length)(I:Nat->Sg->Ow->Prop)
  (h:∀(k:Nat)a σ O,l[k]?=XE a->I k σ O->src.get O k=XE (inj a)/\∃j σ' b,g.put (inj a) σ=XE j/\body j O=.nx σ' b/\I (k+1) σ' b) (m:∀σ O,I l.length σ O->src.get O l.length=YP) (h0:I 0 σ O):
  ∃σ' b,t6 it g body σ O0=.nx σ' b/\I l.length σ' b:=by
 have e:∀(f i:Nat)(σ:Sg)(O:Ow),I i σ O->l.length<=i+f->i<=l.length->∃σ' b,uN src (λd σ O=>match g.put d σ with|some σ'=>body σ' O|none=>.bad) f i σ O=.nx σ' b/\I l.length σ' b:=by
  intro f
  induction f with
  | zero=>
   intro i σ O c o p;have:i=l.length:=by lia
   subst this;unfold uN;rw[m σ O c];exact⟨σ,O,rfl,c⟩
  | succ f ih=>
   intro i σ O c o p;by_cases q:i=l.length
   ·subst q;unfold uN;rw[m σ O c];exact⟨σ,O,rfl,c⟩
   ·have r:i<l.length:=by lia
    obtain⟨s,j,σ',b,t,u,v⟩:=h i l[i] σ O (ao r) c;unfold uN;rw[s];dsimp only;rw[t];dsimp only;rw[u];exact ih (i+1) σ' b v 'o' 'o'
 obtain⟨σ',b,w,x⟩:=e (src.size O) 0 σ O h0 'o' (bX _);exact⟨σ',b,(RU n).trans w,x⟩
def T7(a:σ[i]?=XE (qA k))(b:t σ O=.ok y O1)(c:r_ O1 y=XE es)(d:O1[k]?=XE ds)(e:ds.length+es.length<=4000000):
  tG (zr (qr i) (a_ t c_)) σ O=.nx σ (O1.set k (ds++es)):=by refine Mp (x:=.non) ?_;unfold zr qr;rw[a];show((a_ t c_ σ O).bnd _)=_;rw[pR b];show(match [y],O1[k]? with|[y],XE ds=>(match r_ O1 y with|some es=>if ds.length+es.length<=4000000 then R.ok D.non (O1.set k (ds++es)) else R.bad|none=>R.bad)|_,_=>R.bad)=_;rw[d];dsimp only;rw[c];dsimp only;rw[JU e]
def Jm(a:σ[i]?=XE (qA k))(b:t σ O=.ok y O1)(c:O1[k]?=XE ds)(d:ds.length<4000000):
  tG (yC (qr i) (a_ t c_)) σ O=.nx σ (O1.set k (ds++[y])):=by refine Mp (x:=.non) ?_;unfold yC qr;rw[a];show((a_ t c_ σ O).bnd _)=_;rw[pR b];show(match [y],O1[k]? with|[y],XE ds=>if ds.length<4000000 then R.ok D.non (O1.set k (ds++[y])) else R.bad|_,_=>R.bad)=_;rw[c];dsimp only;rw[JU d]
def Ce:(O++[x]).set O.length y=O++[y]:=by rw[lF _ _ (aB _),jj];rfl
def xt:(O++[x])[O.length]?=XE x:=by simp
def Ru(h:t σ O=.ok x O1)(a:Ib x=XE src):qy t σ O=.ok src O1:=by
 unfold qy;rw[h];cases x with
 |lst ds=>cases a;rfl
 |own k=>cases a;rfl
 |_=>cases a
def Ee(h:r_ O x=XE xs):r_ (O++X) x=XE xs:=by
 cases x with
 |lst ds=>exact h
 | own k=>
  show(O++X)[k]?=XE xs;rw[aI (ak.mp h).1];exact h
 |_=>cases h
def oX.more(h:oX O m s b):oX (O++X) m s b:=⟨by rw[aI h.len];exact h.at_,h.nn,h.lt⟩
def DU(t:n_):l_:=[t++[45],t++[48],t++[49]]
def z7p{n:Nat}(V:n<=4){O:Ow}(G:zw O):MK [.int n] O=.ok (.lst ((Xj n).map .str)) O:=by
 have s:∀i,i<=4->(Xj i).length<=81:=λi H=>by
  have:i=0\/i=1\/i=2\/i=3\/i=4:=by lia
  rcases this with rfl|rfl|rfl|rfl|rfl<;>decide
 have I:∀i,i<=4->∀t∈Xj i,t.length<=4:=λi H t b=>by
  have:i=0\/i=1\/i=2\/i=3\/i=4:=by lia
  rcases this with rfl|rfl|rfl|rfl|rfl
  ·simp[Xj] at b;simp[b]
  ·rw[tW 's' 's' b];decide
  ·rw[tW 's' 's' b];decide
  ·rw[tW 's' 's' b];decide
  ·rw[tW 's' 's' b];decide
 let N:Option D:=pM n;let E:Ow->D->List D->Prop:=λX d o=>d=.lst o \/ ∃k,d=.own (O.length+k)/\X[k]?=XE o;have u:∀{X d o},E X d o->r_ (O++X) d=XE o:=λ{X d o}h=>by
  rcases h with rfl|⟨k,rfl,h⟩
  ·rfl
  ·show(O++X)[O.length+k]?=_;rw[a8 'o',cj];exact h
 show uC O.length (fin (ML [N,YP,YP,YP,YP] O))=_;unfold ML;rw[tJ (σ':=[N,XE (.lst [.str []]),YP,YP,YP]) (O1:=O) (by rfl)];obtain⟨σ',m,v,d,w,z,f,X,rfl,rfl,e⟩:=Bo (i:=2) (O:=O) (l:=aW n) (body:=(pL (p_ 3 (vB c_)) (pL (t6 (qy m_) (.one 4) (tG (zr qC (a_ (sR (a_ (g_ rD q9 zu) (a_ (g_ rD q9 (dC (.str [48]))) (a_ (g_ rD q9 (dC (.str [49]))) c_)))) c_)))) (p_ 1 qC))))
  (zJ (σ:=[N,XE (.lst [.str []]),YP,YP,YP]) (O:=O) (pR (t:=qr 0) rfl) 'o') (λi σ m=>∃d w z f X,σ=[N,XE d,w,z,f]/\m=O++X/\E X d ((Xj i).map .str)) (λi a σ m J p=>by
   obtain⟨d,w,z,f,X,rfl,rfl,e⟩:=p;have W:i<n:=by
    have:=(ak.mp J).1;simpa using this
   have F:i<=4:=by lia
   rw[tJ (σ':=[N,XE d,pM a,XE (.own (O++X).length),f]) (by rfl)];obtain⟨K,A,Y,L⟩:=Ej (Ee (X:=[[]]) (u e));obtain⟨σ',m,v,M,rfl,rfl⟩:=RV (α:=n_) (g:=.one 4) (l:=Xj i) (inj:=.str) (body:=(tG (zr qC (a_ (sR (a_ (g_ rD q9 zu) (a_ (g_ rD q9 (dC (.str [48]))) (a_ (g_ rD q9 (dC (.str [49]))) c_)))) c_))))
    (Ru (t:=qr 1) rfl A) (by rw[L];simp)
    (λj σ m=>∃f,σ=[N,XE d,pM a,XE (.own (O++X).length),f]/\m=O++X++[(((Xj i).take j).flatMap DU).map .str]) (λj t σ m b p=>by
     obtain⟨f,rfl,rfl⟩:=p;have Z:=(ak.mp b).1;obtain⟨P,r,B,Q⟩:=Ej (Ee (u e));rw[A] at r;cases r;refine⟨by rw[B,bC,b];rfl,[N,XE d,pM a,XE (.own (O++X).length),sJ t],_,_,rfl,T7 (y:=.lst ((DU t).map .str)) (ds:=(((Xj i).take j).flatMap DU).map .str) rfl ?_ rfl xt ?_,_,rfl,?_⟩
     ·have S:=I i F t (aO b);have T:∀c C,rD C (.str t) (.str [c])=.ok (.str (t++[c])) C:=λc C=>by
       match t,S with
       |[],_=>rfl
       |[_],_=>rfl
       |[_,_],_=>rfl
       |[_,_,_],_=>rfl
       |[_,_,_,_],_=>rfl
      simp only[pL,p_,qT,pT,tG,qS,qr,dC,a_,c_,o_,pP,g_,qd,rl,uZ,Dw,R.bnd,R.bnS,fin,fe,fg,fy,gg,aT,dE,eR,iW,gR,jo,if_true,if_false,gY,iy,bZ,ite_true,ite_false,sR,T,DU,bJ,il]
     ·have h1:=s i F;have U:∀l:l_,(l.flatMap DU).length=3*l.length:=λl=>by
       induction l with
       |nil=>rfl
       |cons x l ih=>rw[dh,aA,ih,aT];show 3+_=_;lia
      rw[aD,U,aD];have h3:=List.length_take_le j (Xj i);show 3*((Xj i).take j).length+3<=_;lia
     ·rw[Ce,<- bQ];have:(Xj i).take (j+1)=(Xj i).take j++[t]:=by
       rw[fW,b];rfl
      rw[this,js];simp) (λσ m p=>by
     obtain⟨f,rfl,rfl⟩:=p;obtain⟨P,r,B,Q⟩:=Ej (Ee (u e));rw[A] at r;cases r;rw[B];simp) ⟨f,rfl,by simp⟩
   rw[tJ v];refine⟨_,_,rfl,.own (O++X).length,_,_,_,X++[(((Xj i).take (Xj i).length).flatMap DU).map .str],rfl,by simp,.inr ⟨X.length,by simp,?_⟩⟩;rw[xt,fo];rfl) ⟨_,_,_,_,[],rfl,by simp,.inl rfl⟩
 rw[tJ v,tI (x:=d) rfl];rw[cS] at e;refine Jr G X ?_;rcases e with rfl|⟨k,rfl,h⟩
 ·show(qe (frz (O++X) O.length 7) ((Xj n).map D.str)).map D.lst=_;rw[uQ λd e=>by obtain⟨q,_,rfl⟩:=az.mp e;exact AF rfl];rfl
 ·unfold frz;dsimp only;rw[J5 'o',a8 'o',cj,h];dsimp only;rw[uQ λd e=>by obtain⟨q,_,rfl⟩:=az.mp e;exact AF rfl];rfl
def z6J(O:Ow):(pf.map λq=>AJ [.str q.1,.int (q.2:Nat)] O)=pf.map λq=>R.ok (.bl ((rf q.1).contains q.2)) O:=by kernel_rfl
def MH(h:cs∈oN)(a:p<2 ^ cs.length)(O:Ow):AJ [.str cs,.int (p:Nat)] O=.ok (.bl ((rf cs).contains p)) O:=dj.mp (z6J O) _ (Ub h a)
def zf2(e:c σ O=.ok a O)(f:a=Y1->d σ O=.ok b O):yG c d σ O=.ok (a&&b) O:=by
 show((c σ O).bnd _)=_;rw[e];cases a with
 |true=>exact f rfl
 |false=>rfl
def z8M{n:Nat}{f:List D}(b:Fn n f){cs:n_}(h:cs∈Xj n)(O:Ow):MP [.tup f,.str cs] O=.ok (.bl (uF f cs)) O:=by
 have d:=vS b.n1 b.n4 h;have e:=tW b.n1 b.n4 h;have k:=By b.n4;have g:=b.len;show fin (JD [qF f,sJ cs] O)=_;unfold JD;rw[tI ((rp (yh (p:=λp=>ui (f.getD p .non)&&(rf cs).contains p) (zJ (pR ((xr (pR rfl)).trans rfl)) 'o') (by simp;lia) (λ_=>rfl) (λq a=>by
   have a:=bz.mp a;refine zf2 (sH ((rp ((rp rfl rfl).trans (IM a)) rfl).trans ((eq0 O (b.ans _ (bO a))).trans (by rw[Cd a])))) λ_=>xN ((yj (rm rfl rfl) rfl).trans (MH d (by rw[e,<- g];exact a) O))) (λ_ _ _=>rfl)) rfl).trans (by
  have:=ZP O (((aW f.length).filter λp=>ui (f.getD p .non)&&(rf cs).contains p).map λ(p:Nat)=>(p:Int));rw[bB] at this;exact this))]
 show R.ok (D.bl _) O=_;congr 2;unfold uF;rw[dZ,kJ,jt,gk,ay];constructor
 ·intro h p c;have i:p<f.length:=by rw[g,<- e];exact Ir d c
  have:=h p (bz.mpr i);simp at this;cases j:ui (f.getD p .non) with
  |true=>exact absurd c (this j)
  |false=>rfl
 ·intro h p c a;simp only[br,fF] at a;have:=h p a.2;rw[a.1] at this;cases this
noncomputable def allS:List (n_×Nat):=oN.flatMap λcs=>(aW cs.length).map λk=>(cs,k)
def zeB(h:cs∈oN)(a:k<cs.length):(cs,k)∈allS:=by unfold allS;rw[gQ];exact⟨cs,h,az.mpr ⟨k,bz.mpr a,rfl⟩⟩
def z6T:(oN.all λcs=>cs.all sgn)=Y1:=by decide +kernel
def FG(a:1<=n)(b:n<=4)(h:cs∈Xj n):∀c∈cs,sgn c=Y1:=ay.mp (ay.mp z6T cs (vS a b h))
def Jw(b:1<=n)(d:n<=4)(h:cs∈Xj n)(e:sgn c=Y1):cs.set k c∈Xj n:=by
 refine UN n _ (by rw[cL];exact tW b d h) λx a=>?_;rcases ig a with a|rfl
 ·exact FG b d h x a
 ·exact e
def Sm(O:Ow)(h:sgn c=Y1):pU rB O (.str [c]) (.str [45])=.ok (.bl (c !=45)) O:=by unfold sgn at h;simp at h;rcases h with(rfl|rfl)|rfl<;>kernel_rfl
def Fy{cs:n_}{k:Nat}(h:k<cs.length):cs.getD k 0=cs[k]:=by rw[aH,ao h];rfl
def zjv(O:Ow)(l:n_):pU rB O (.lst (rn l)) (.lst [])=.ok (.bl (!l.isEmpty)) O:=
 (Fh O (Ft 7 l) rfl (by cases l<;>simp)).2
def zj1(O:Ow)(l:n_):pU rV O (.lst (rn l)) (.lst [])=.ok (.bl l.isEmpty) O:=
 (Fh O (Ft 7 l) rfl (by cases l<;>simp)).1
def U9:(oN.all λcs=>cs.all λc=>decide (c<1114112))=Y1:=by decide +kernel
def LV(a:1<=n)(b:n<=4)(h:cs∈Xj n):pl k (.str cs)=Y1:=by have:=ay.mp U9 cs (vS a b h);cases k<;>exact this
def zeI{n k:Nat}(a:1<=n)(b:n<=4){l:l_}(h:∀cs∈l,cs∈Xj n):(l.map D.str).all (pl k)=Y1:=ay.mpr λd c=>by
 obtain⟨cs,e,rfl⟩:=az.mp c;exact LV a b (h cs e)
def zhM(O:Ow)(c:1<=n)(d:n<=4)(e:a∈Xj n)(f:b∈Xj n):pU rB O (.str a) (.str b)=.ok (.bl (decide (a≠b))) O:=by have:=(La O (b:=decide (a=b)) (LV c d e) (LV c d f) 'd').2;rw[this];congr 2;by_cases h:a=b<;>simp[h]
def zeD(O:Ow)(k:Nat)(l:n_):A5 O (.int (k:Nat)) (.lst (rn l))=.ok (.bl (!l.contains k)) O:=
 (PF O (l:=rn l) (b:=l.contains k) rfl (Ft 7 l) (.inl rfl) (by
  rw[fF];unfold rn;rw[az];constructor
  ·intro h;exact⟨k,h,rfl⟩
  ·rintro⟨j,h,e⟩;injection e with e;have:j=k:=by lia
   rw[<- this];exact h)).2
def Vy{α:Type}(p:α->Bool){l:List α}{j:Nat}{x:α}(h:l[j]?=XE x):(l.take (j+1)).filter p=(l.take j).filter p++(if p x=Y1 then [x] else []):=by rw[fW,h,jQ];congr 1;show List.filter p [x]=_;rw[eD];split<;>rfl
def Vb{O:Ow}{m:Nat}{s:Int}{b:Bool}(h:oX (O.set m [.int s,.bl b]) m s b)(X:Ow){k:Nat}(k1:1<=k)(k2:k<=1000):
  ∃(r:Nat)(s':Int),r<k/\xP [.own m,.int k] (O.set m [.int s,.bl b]++X)=.ok (.int r) (O.set m [.int s',.bl b]++X)/\oX (O.set m [.int s',.bl b]) m s' b:=by
 obtain⟨r,s',d,c,a⟩:=Fs (h.more) k1 k2;rw[lW _ _ h.len,List.set_set] at c a;refine⟨r,s',d,c,?_,a.nn,a.lt⟩;have e:m<(O.set m [.int s',.bl b]).length:=by have:=h.len;rw[cL] at this ⊢;exact this
 have:=a.at_;rwa [aI e] at this
def Ik(O:Ow)(i j:Int):xC O (.int i) (.int j)=.ok (.bl (decide (i<j))) O:=rfl
def LJ(O:Ow)(q:Bool):Au O [.bl q]=.ok (.int (if q=Y1 then 1 else 0)) O:=by cases q<;>rfl
def zg6(O:Ow){r:Nat}(h:r<3):∃i:Int,qi O (.lst [.int 2,.int 4,.int 6]) (.int r)=.ok (.int i) O:=by
 have:r=0\/r=1\/r=2:=by lia
 rcases this with rfl|rfl|rfl
 ·exact⟨2,rfl⟩
 ·exact⟨4,rfl⟩
 ·exact⟨6,rfl⟩
def z9d{O:Ow}(Q:zw O){m:Nat}{s:Int}{b:Bool}(h:oX O m s b){n:Nat}(S:1<=n)(u:n<=4)(g:Bool):
  ∃f s',Fn n f/\MZ [.own m,.int n,.bl g] O=.ok (.tup f) (O.set m [.int s',.bl b])/\oX (O.set m [.int s',.bl b]) m s' b:=by
 have hp:=By u;obtain⟨r,E,T,U,V⟩:=Fs h (k:=3) 's' 's';obtain⟨w,x,w1,F,G⟩:=Fs V (k:=3) 's' 's';rw[List.set_set] at F G;obtain⟨i,W⟩:=zg6 (O.set m [.int E,.bl b]) T;obtain⟨z,X⟩:∃z:Int,g_ (fI uL) (o_ 2 xP (a_ j_ (a_ (dC (.int 3)) c_))) (pP Au (a_ qk c_)) [qA m,pM n,Ew g,pM i,YP,YP,YP,YP] (O.set m [.int E,.bl b])=.ok (.int z) (O.set m [.int x,.bl b]):=by
  refine⟨_,rh (rq (rm rfl rfl) F) (tU (pR rfl) (LJ _ g)) (D7 'o' 'o')⟩
 let A:Option D:=qA m;let k:=O.length;have c:∀s',(O.set m [D.int s',D.bl b]).length=O.length:=λs'=>cL;obtain⟨Y,y,Z,e,o,B,C,rfl,rfl,h3,q,t⟩:=Bo (i:=6) (it:=tD (a_ (g_ (fI xl) rj m_) c_)) (body:=(pL (p_ 7 (pP Au (a_ (g_ xC (o_ 2 xP (a_ j_ (a_ (dC (.int 8)) c_))) qC) c_))) (pL (qT (qd (g_ xC (o_ 2 xP (a_ j_ (a_ (dC (.int 5)) c_))) q9)) (p_ 7 xH) qS) (tG (yC vM BW)))))
  (zJ (pR (Y3 u rfl)) 'o') (λj H y=>∃e s' B C,H=[A,pM n,Ew g,pM i,pM z,qA O.length,B,C]/\y=O.set m [.int s',.bl b]++[e]/\oX (O.set m [.int s',.bl b]) m s' b/\e.length=j/\∀d∈e,xi d) (λj a H y ha hI=>by
   obtain⟨e,s',B,C,rfl,rfl,hs,q,t⟩:=hI;have hj:j<2 ^ n:=by have:=(ak.mp ha).1;simpa using this
   obtain⟨I,t1,_,J,g1⟩:=Vb hs [e] (k:=8) 's' 's';obtain⟨q2,l,_,K,L⟩:=Vb g1 [e] (k:=5) 's' 's';have M:xi (.int (if (decide ((I:Int)<i))=Y1 then 1 else 0)):=by
    by_cases h:(I:Int)<i
    ·exact .inr (.inl (by simp[h]))
    ·exact .inl (by simp[h])
   have p:∀v,xi v->tG (yC vM BW) [A,pM n,Ew g,pM i,pM z,qA O.length,pM a,XE v] (O.set m [.int l,.bl b]++[e])=.nx [A,pM n,Ew g,pM i,pM z,qA O.length,pM a,XE v] (O.set m [.int l,.bl b]++[e++[v]]):=λv _=>by
    rw[Jm rfl rfl (by rw[<- c l];exact xt) 'o'];congr 1;rw[<- c l];exact Ce
   have N:∀v,xi v->(e++[v]).length=j+1/\∀d∈e++[v],xi d:=λv hv=>⟨by simp[q],λd hd=>by
    rcases aQ.mp hd with hd|hd
    ·exact t d hd
    ·have:d=v:=⇑hd
     rw[this];exact hv⟩
   by_cases P:(q2:Int)<z
   ·refine⟨_,_,sI (tU (pR (rh (rq (rm rfl rfl) J) rfl (Ik _ _ _))) (LJ _ _)) (vQ ?_ (p .non (.inr (.inr rfl)))),e++[.non],l,_,_,rfl,rfl,L,N _ (.inr (.inr rfl))⟩;rw[ug (sH ((rh (rq (rm rfl rfl) K) rfl (Ik _ _ _)).trans (by rw[decide_eq_true P])))];rfl
   ·refine⟨_,_,sI (tU (pR (rh (rq (rm rfl rfl) J) rfl (Ik _ _ _))) (LJ _ _)) (Bi (sH ((rh (rq (rm rfl rfl) K) rfl (Ik _ _ _)).trans (by rw[decide_eq_false P]))) (p _ M)),_,l,_,_,rfl,rfl,L,N _ M⟩) ⟨[],x,_,_,rfl,rfl,G,rfl,by simp⟩
 rw[cS] at q;refine⟨e,o,⟨S,u,q,t⟩,?_,h3⟩;show uC O.length (fin (M8 [qA m,pM n,Ew g,YP,YP,YP,YP,YP] O))=_;have hB:M8 [qA m,pM n,Ew g,YP,YP,YP,YP,YP] O=.rt (.tup e) (O.set m [.int o,.bl b]++[e]):=by
  refine sI (rh rfl (rq (rm rfl rfl) U) W) (sI X (sI ?_ (vQ Z (tI (tU (pR rfl) ?_)))))
  ·show R.ok (D.own (O.set m [D.int x,D.bl b]).length) _=_;rw[c]
  ·show(match (O.set m [.int o,.bl b]++[e])[O.length]? with|some ds=>R.ok (D.tup ds) _|none=>_)=_;rw[<- c o,xt]
 rw[xO hB];have:=zfu (zg9 Q m o b) [e] (ziL λd hd=>zf3 (t d hd) _);rw[c] at this;exact this
def zex{ns:List Int}(d:ns.length<=63)(σ:Sg)(c:Nat)(e:c<1000)(h0:qr 0 σ []=.ok (.lst (ns.map .int)) []):∃m:Nat,m<100000/\pP D0 (a_ rj (a_ (pP D3 (a_ (pP qu (a_ j_ c_)) (a_ (dC (.int (c:Nat))) c_))) c_)) σ []=.ok (.int (m:Nat)) []:=by
 have a:pP D3 (a_ (pP qu (a_ j_ c_)) (a_ (dC (.int (c:Nat))) c_)) σ []=.ok (.int (if (c:Int)<((ns.map D.int).length:Nat) then (c:Int) else ((ns.map D.int).length:Nat))) []:=(xr (rm ((xr (pR h0)).trans rfl) rfl)).trans rfl;have b:=(xr (f:=D0) (rm (t:=dC (.int 1)) rfl a));refine⟨(if (if (c:Int)<((ns.map D.int).length:Nat) then (c:Int) else ((ns.map D.int).length:Nat))>1 then (if (c:Int)<((ns.map D.int).length:Nat) then (c:Int) else ((ns.map D.int).length:Nat)) else 1).toNat,?_,b.trans ?_⟩
 ·rw[aD];split<;>split<;>lia
 ·show R.ok (D.int (if (if (c:Int)<((ns.map D.int).length:Nat) then (c:Int) else ((ns.map D.int).length:Nat))>1 then (if (c:Int)<((ns.map D.int).length:Nat) then (c:Int) else ((ns.map D.int).length:Nat)) else 1)) []=_;congr 2;rw[aD];split<;>split<;>lia
noncomputable def sZ(n:Nat)(a b:n_):Bool:=(aW n).all λi=>b.getD i 0==45||b.getD i 0==a.getD i 0
def RJ(a:1<=n)(b:n<=4)(h:cs∈Xj n)(d:p<2 ^ n):p∈rf cs↔Lx cs (Bg n p)=Y1:=by have c:=tW a b h;have:=ay.mp zcx _ (Ub (vS a b h) (by rw[c];exact d));simp at this;rw[c] at this;rw[this.1.1.1];simp
def IY(a:1<=n)(b:n<=4)(h:cs∈Xj n)(c:p∈rf cs):p<2 ^ n:=by have:=Ir (vS a b h) c;rw[tW a b h] at this;exact this
def T8(c:1<=n)(d:n<=4)(e:a∈Xj n)(f:b∈Xj n)(h:sZ n a b=Y1)(g:p∈rf a):p∈rf b:=by
 have j:=IY c d e g;have m:=(RJ c d e j).mp g;refine(RJ c d f j).mpr ?_;unfold Lx at m ⊢;unfold sZ at h;rw[tW c d e] at m;rw[tW c d f];rw[ay] at h m ⊢;intro i k;have e1:=h i k;have e2:=m i k;simp at e1 e2 ⊢;rcases e1 with e1|e1
 ·exact .inl e1
 ·rcases e2 with e2|e2
  ·exact .inl (e1.trans e2)
  ·exact .inr (e1.trans e2)
def U1(n:Nat)(a:n_):sZ n a a=Y1:=by unfold sZ;rw[ay];intro i _;simp
def z6y{α:Type}(f:Nat->α):((aW n).map f)[i]?=if i<n then XE (f i) else YP:=by
 rw[bC];by_cases h:i<n
 ·rw[mh h,JU h];rfl
 ·rw[bg.mpr ⇑h,J5 h];rfl
def Ml(a:1<=n)(b:n<=4)(h:cs∈Xj n)(c:i<n):sgn (cs.getD i 0)=Y1:=by have d:=tW a b h;rw[Fy 'o'];exact FG a b h _ (bO _)
def zfE(O:Ow)(h:sgn c=Y1)(h':sgn d=Y1):pU rB O (.str [c]) (.str [d])=.ok (.bl (c !=d)) O:=by unfold sgn at h h';simp at h h';rcases h with(rfl|rfl)|rfl<;>rcases h' with(rfl|rfl)|rfl<;>kernel_rfl
def IW(h:sZ n a b=Y1)(c:k<n):b.getD k 0=45\/b.getD k 0=a.getD k 0:=by have:=ay.mp h k (bz.mpr c);simpa using this
def SW(h:∀k,k<n->b.getD k 0=45\/b.getD k 0=a.getD k 0):sZ n a b=Y1:=by unfold sZ;rw[ay];intro k c;have:=h k (bz.mp c);simpa using this
def zf1{n:Nat}{a b:n_}(e:a.length=n)(f:b.length=n)(h:∀k,k<n->a.getD k 0=b.getD k 0):a=b:=by refine kH 'o' λi c d=>?_;have:=h i 'o';rw[Fy c,Fy d] at this;exact this
def Lp{n:Nat}(a:n<=4){cs:n_}(b:cs.length=n){k:Nat}(c:k<n)(O:Ow):qi O (.str cs) (.int (k:Int))=.ok (.str [cs.getD k 0]) O:=by rw[RK 'o' 'o',Fy 'o']
def zhT(b:n<=4)(a:cs.length=n)(h:qr 0 σ O=.ok (.str cs) O):tD (a_ (pP qu (a_ j_ c_)) c_) σ O=.ok (.val ((aW n).map λ(i:Nat)=>D.int (i:Int))) O:=
 zJ (pR (tU (pR h) ((Ux 'o').trans (by rw[a])))) 'o'
def zey(h:∀k,k<n->p k=q k):(!((aW n).filter p).isEmpty)=(aW n).any q:=by
 rw[dZ,ef,cC];constructor
 ·intro c;have:((aW n).filter p)≠[]:=λe=>by rw[e] at c;cases c
  obtain⟨k,f⟩:=List.exists_mem_of_ne_nil _ this;obtain⟨a,b⟩:=bd.mp f;exact⟨k,a,by rw[<- h k (bz.mp a)];exact b⟩
 ·rintro⟨k,a,b⟩;have d:k∈(aW n).filter p:=bd.mpr ⟨a,by rw[h k (bz.mp a)];exact b⟩;cases e:(aW n).filter p with
  |nil=>rw[e] at d;cases d
  |cons _ _=>rfl
def z8N{n:Nat}(e:1<=n)(c:n<=4){a b:n_}(g:a∈Xj n)(f:b∈Xj n)(O:Ow):MT [.str a,.str b] O=.ok (.bl (sZ n a b)) O:=by
 have i:=tW e c g;have j:=tW e c f;show fin (MU [sJ a,sJ b] O)=_;refine yJ ((rh ((yh (p:=λk=>b.getD k 0 !=45&&b.getD k 0 !=a.getD k 0) (zhT c i rfl) (by simp;lia) (λ_=>rfl) (λk d=>?_) (λ_ _ _=>rfl)).trans rfl) rfl (zj1 O _)).trans ?_)
 ·have d:=bz.mp d;exact Jo (sH (rh (rh rfl rfl (Lp c j d O)) rfl (Sm O (Ml e c f d)))) λ_=>sH (rh (rh rfl rfl (Lp c j d O)) (rh rfl rfl (Lp c i d O)) (zfE O (Ml e c f d) (Ml e c g d)))
 ·congr 2;have h:=zey (n:=n) (p:=λk=>b.getD k 0 !=45&&b.getD k 0 !=a.getD k 0) (q:=λk=>!(b.getD k 0==45||b.getD k 0==a.getD k 0)) λk _=>by simp[bne]
  rw[<- Bool.not_not (b:=((aW n).filter _).isEmpty),h];unfold sZ;rw[List.any_eq_not_all_not];simp
def zhr(O:Ow){n:Nat}(a:1<=n)(b:n<=4){l:l_}(h:∀cs∈l,cs∈Xj n):pU rV O (.lst (l.map D.str)) (.lst [])=.ok (.bl l.isEmpty) O:=
 (Fh O (zeI a b h) rfl (by cases l<;>simp)).1
def zbk{α:Type}{l:List α}{p:α->Bool}:(l.filter p).isEmpty=l.all λx=>!p x:=by rw[dZ,kJ,gk,ay];exact forall_congr' λa=>forall_congr' λ_=>by simp
def CK:D->Bool
 |.int i=>i==1
 |_=>Y2
def eq1(O:Ow)(h:xi d):pU rV O d (.int 1)=.ok (.bl (CK d)) O:=by rcases h with rfl|rfl|rfl<;>kernel_rfl
def E1:D->D
 |.int i=>.int (1-i)
 |d=>d
def qV(f:List D):n_:=(aW f.length).filter λp=>CK (f.getD p .non)
def R_(b:Fn n f)(O:Ow):FN [.tup f] O=.ok (.lst (rn (qV f))) O:=by have c:=b.len;have d:=By b.n4;show fin (MQ [qF f] O)=_;refine yJ ((yh (zJ (pR (tU (pR rfl) (Mj O f))) 'o') (by simp;lia) (λ_=>rfl) (λp a=>?_) (λ_ _ _=>rfl)).trans rfl);have a:=bz.mp a;refine sH (rh (rh rfl rfl (IM a)) rfl ?_);rw[eq1 O (b.ans _ (bO _)),Cd a]
def o4:p∈qV f↔p<f.length/\CK (f.getD p .non)=Y1:=by unfold qV;rw[bd,bz]
def B8(f:List D)(t:n_):Bool:=!((qV f).filter λp=>(rf t).contains p).isEmpty
def Ah(n:Nat)(f:List D)(t:n_):Bool:=((tF n f).filter λo=>decide (o≠t)&&sZ n t o).isEmpty&&B8 f t
def gr(n:Nat)(f:List D):l_:=(tF n f).filter (Ah n f)
def AG(h:t∈tF n f):t∈Xj n:=(bd.mp h).1
def Mx(a:Fn n f):(tF n f).length<=81:=aG (bD _ _) (Mq a.n1 a.n4)
def Jn(a:Fn n f):(qV f).length<=16:=by have b:=bD (λp=>CK (f.getD p .non)) (aW f.length);rw[cS] at b;have c:=By a.n4;have d:=a.len;unfold qV;lia
def zft{n:Nat}{f:List D}(a:Fn n f){t:n_}(i:t∈tF n f){k:Nat}{O:Ow}{l:List D}(j:O[k]?=XE l)(s:l.length<1000){y4 y5:Option D}:
  Ih [qF f,qO ((tF n f).map .str),qA k,sJ t,y4,y5] O=.nx [qF f,qO ((tF n f).map .str),qA k,sJ t,qO (((tF n f).filter λo=>decide (o≠t)&&sZ n t o).map .str),qO (rn ((qV f).filter λp=>(rf t).contains p))] (if Ah n f t=Y1 then O.set k (l++[.str t]) else O):=by
 have d:=a.n1;have e:=a.n4;have u:=Mx a;have h:=Jn a;have g:=AG i;have m:=tW d e g;refine sI ((yh (vP rfl) 'o' (λ_=>rfl) (λo h=>Jo (sH (rh rfl rfl (zhM O d e (AG h) g))) λ_=>xN (rq (rm rfl rfl) (z8N d e g (AG h) O))) (λ_ _ _=>rfl)).trans rfl) (sI ((yh (vP (rq (pR rfl) (R_ a O))) 'o' (λ_=>rfl) (λp q=>xN (rq (rm rfl rfl) (MH (vS d e g) (by rw[m,<- a.len];exact(o4.mp q).1) O))) (λ_ _ _=>rfl)).trans rfl) ?_);rw[ug (b:=Ah n f t) (Jo (sH (rh rfl rfl (zhr O d e λc r=>AG (bd.mp r).1))) λ_=>sH (rh rfl rfl (zjv O _)))];cases Ah n f t with
 |true=>rw[JU rfl,JU rfl];exact Jm rfl rfl j 'o'
 |false=>rfl
def S6(h:t∈gr n f):t∈Xj n:=AG (bd.mp h).1
def NH(f:List D)(l:l_):Bool:=(qV f).all λp=>l.any λt=>(rf t).contains p
def zcZ(h:l.Pairwise (· < ·)):rA l=l:=Fz (Fw l) h λx=>Br l
def znk(h:t σ O=.ok [x] O1)(a:r_ O1 x=XE (l.map .str)\/x=.tup (l.map .str))(b:l.length<1000):P7 Y2 t σ O=.ok (.lst ((rA l).map .str)) O1:=by
 unfold P7;rw[h];show(match (match r_ O1 x with|some ds=>XE ds|none=>BC x) with|some ds=>Pr Y2 (.ok ds O1)|none=>.bad)=_;have e:(match r_ O1 x with|some ds=>XE ds|none=>BC x)=XE (l.map .str):=by
  rcases a with a|rfl
  ·rw[a]
  ·rfl
 rw[e];show(match vf (l.map D.str) with|some ss=>if ss.length<1000 then (if Y2=Y1 then R.ok (D.own _) _ else R.ok (D.lst ((rA ss).map .str)) O1) else .bad|none=>.bad)=_;rw[DL.strL_map];show(if l.length<1000 then _ else _)=_;rw[JU b];rfl
def A7:n_:=[48,49,45,50]
def Xq(O:Ow)(a b:Int):pU rV O (.int a) (.int b)=.ok (.bl (a==b)) O:=rfl
def KE(d:D):Prop:=(∃w:n_,d=.str w/\(∀c∈w,c∈A7)/\w.length<=10)\/(∃xs,d=.tup xs)\/d=.non\/d=.int 0\/d=.bl Y1
section
variable{n:Nat}(h1:1<=n)(h4:n<=4){ds:List D}(hd:∀d∈ds,KE d)(hl:ds.length<100)
include hd hl
include h1 h4
end
def zdW(a:Fn n f)(O:Ow):JN [.tup f,.int 1] O=.ok (.lst (((aW (2 ^ n)).filter λp=>CK (f.getD p .non)).map λ(p:Nat)=>D.int (p:Int))) O:=by
 have e:=By a.n4;have b:ID (a_ j_ c_) [qF f,pM 1] O=.ok (.val (zE f)) O:=rfl;have h:=L8 (o:=Y2) (ext:=2) (g:=.two 2 3) (ts:=[(qd (g_ (pU rV) qC m_))]) (te:=qr 2) (inj:=λ(p:Nat)=>D.tup [.int (p:Int),f.getD p .non])
  b (λi=>by
   rw[z6y];show(zE f)[i]?=_;rw[UO];by_cases b:i<2 ^ n
   ·have d:i<f.length:=by rw[a.len];exact b
    rw[JU b,ao d];show XE (D.tup [.int (i:Nat),f[i]])=_;rw[Cd d]
   ·rw[J5 b,bg.mpr (by rw[a.len];lia)];rfl) (by
   show(zE f).length=_;unfold zE;simp[a.len]) (by rw[cS];lia) (λk _=>rfl) (λp c=>Tq (by
   have c:=bz.mp c;have j:xi (f.getD p .non):=by
    rw[Cd (by rw[a.len];exact c)];exact a.ans _ (bO _)
   exact sH ((rp rfl rfl).trans (eq1 O j)))) (λp _ _=>rfl)
 show fin (pT _ [qF f,pM 1] O)=_;rw[tI (h.trans rfl)];rfl
def z8F(a:Fn n f)(O:Ow):JN [.tup f,.int 1] O=.ok (.lst (rn (qV f))) O:=by rw[zdW a O];unfold qV rn;rw[a.len]
def ziB(O:Ow)(k:Nat)(l:n_):BL O (.int (k:Nat)) (.lst (rn l))=.ok (.bl (l.contains k)) O:=
 (PF O (l:=rn l) rfl (Ft 7 l) (.inl rfl) (by
  rw[fF];unfold rn;rw[az];constructor
  ·intro h;exact⟨k,h,rfl⟩
  ·rintro⟨j,h,e⟩;injection e with e;have:j=k:=by lia
   rw[<- this];exact h)).1
section
variable{n:Nat}{f:List D}(hf:Fn n f){l:l_}(ht:∀t∈l,t∈Xj n)(hlen:l.length<100)
include hf ht hlen
end
def z7g{n:Nat}(a:1<=n)(b:n<=4)(O:Ow):Ck [.int n] O=.ok (.lst ((Xj n).map .str)) O:=by
 rcases Ae a b with rfl|rfl|rfl|rfl
 ·exact z6S O
 ·exact z6C O
 ·exact z76 O
 ·exact z6u O
def zbc(e:sZ n a b=Y1)(f:sZ n b c=Y1):sZ n a c=Y1:=SW λk d=>by
 rcases IW f d with z|z
 ·exact .inl z
 ·rcases IW e d with y|y
  ·exact .inl (z.trans y)
  ·exact .inr (z.trans y)
def Dy(n:Nat)(l:l_):l_:=l.filter λt=>!(l.any λo=>decide (t≠o)&&sZ n t o)
def o6:t∈Dy n l↔t∈l/\∀o∈l,sZ n t o=Y1->t=o:=by
 unfold Dy;rw[bd];refine and_congr_right λ_=>?_;rw[ef,gz];constructor
 ·intro h o a c;have:=h o a;simp only[br,decide_eq_true_eq,not_and] at this;exact cH λd=>this d c
 ·intro h o a b;simp at b;exact b.1 (h o a b.2)
def Hs(n:Nat)(a:n_):Nat:=(aW n).countP λk=>a.getD k 0==45
theorem Vh{α:Type}{p q:α->Bool}:∀(l:List α),(∀x∈l,p x=Y1->q x=Y1)->(∃x∈l,q x=Y1/\p x=Y2)->l.countP p<l.countP q
 |[],_,h=>by obtain⟨_,h,_⟩:=h;cases h
 | x::l,h,he=>by
  have e:=lJ λy hy=>h y (al _ hy);rw[nG,nG];obtain⟨y,hy,b,c⟩:=he;rcases ar.mp hy with rfl|hy
  ·rw[b,c];simp;lia
  ·have f:=Vh l (λy hy=>h y (al _ hy)) ⟨y,hy,b,c⟩;have d:=h x av;by_cases a:p x=Y1
   ·rw[JU a,JU (d a)];lia
   ·rw[J5 a];lia
def R4{n:Nat}{a b:n_}(f:a.length=n)(g:b.length=n)(h:sZ n a b=Y1)(i:a≠b):Hs n a<Hs n b:=by
 refine Vh _ (λk c d=>?_) ?_
 ·have d:a.getD k 0=45:=⇑d
  rcases IW h (bz.mp c) with z|z
  ·simpa using z
  ·rw[z,d];rfl
 ·refine cH λj=>i (zf1 f g λk c=>?_);rcases IW h c with z|z
  ·refine cH λe=>j ⟨k,bz.mpr c,by simpa using z,?_⟩;rw[z] at e;simpa using e
  ·exact z.symm
def zin(n:Nat)(a:n_):Hs n a<=n:=by have:=List.countP_le_length (p:=λk=>a.getD k 0==45) (l:=aW n);rw[cS] at this;exact this
theorem T9(b:∀t∈l,t.length=n):∀(f:Nat)(s:n_),s∈l->n<=Hs n s+f->∃t∈Dy n l,sZ n s t=Y1
 | 0,s,hs,hd=>⟨s,o6.mpr ⟨hs,λo a h=>cH λc=>by
   have:=R4 (b s hs) (b o a) h c;have:=zin n o;lia⟩,U1 n s⟩
 | f+1,s,hs,hd=>by
  by_cases d:s∈Dy n l
  ·exact⟨s,d,U1 n s⟩
  ·rw[o6] at d;have:∃o∈l,sZ n s o=Y1/\s≠o:=cH λe=>d ⟨hs,λo a h=>cH λc=>e ⟨o,a,h,c⟩⟩;obtain⟨o,a,h,c⟩:=this;have j:=R4 (b s hs) (b o a) h c;obtain⟨t,g,i⟩:=T9 b f o a 'o';exact⟨t,g,zbc h i⟩
def XX(a:∀t∈l,t.length=n)(b:s∈l):∃t∈Dy n l,sZ n s t=Y1:=T9 a n s b 'o'
def zc1:(pD.all λq=>decide (rf (Bg q.1 q.2)=[q.2])&&decide (Bg q.1 q.2∈Xj q.1))=Y1:=by decide +kernel
def zjp(b:t∈Dy n (tF n f))(c:B8 f t=Y1):t∈gr n f:=by obtain⟨d,e⟩:=o6.mp b;refine bd.mpr ⟨d,?_⟩;unfold Ah;rw[c,ma,kJ,gk];intro o g a;simp at a;exact a.1 (e o g a.2).symm
def zil(h:Fn n f):NH f (gr n f)=Y1:=by
 have b:=h.n1;have c:=h.n4;unfold NH;rw[ay];intro p i;obtain⟨d,g⟩:=o4.mp i;have j:=d;rw[h.len] at d;have a:=ay.mp zc1 (n,p) (zfj b c d);simp at a;have o:ui (f.getD p .non)=Y2:=by
  rw[Cd j] at g ⊢;rcases h.ans _ (bO j) with e|e|e<;>rw[e] at g ⊢ <;> first|rfl|cases g
 have q:Bg n p∈tF n f:=bd.mpr ⟨a.2,by
  unfold uF;rw[a.1];simp only[l9,List.all_nil,ma,o];rfl⟩
 obtain⟨w,k,r⟩:=XX (λt s=>tW b c (AG s)) q;have l:=T8 b c a.2 (AG (o6.mp k).1) r (p:=p) (by rw[a.1];simp);rw[cC];refine⟨w,zjp k ?_,by simpa using l⟩;unfold B8;have m:p∈(qV f).filter λp=>(rf w).contains p:=bd.mpr ⟨i,by simpa using l⟩;cases e:(qV f).filter λp=>(rf w).contains p with
 |nil=>rw[e] at m;cases m
 |cons _ _=>rfl
def DN(f:List D)(cs:n_):Bool:=(rf cs).any λp=>CK (f.getD p .non)
def z5K(a:Fn n f)(h:cs∈Xj n)(O:Ow):MX [.tup f,.str cs] O=.ok (.bl (DN f cs)) O:=by
 have b:=vS a.n1 a.n4 h;have g:=tW a.n1 a.n4 h;have c:qy (o_ 1 AH (a_ m_ c_)) [qF f,sJ cs] O=.ok (.val (rn (rf cs))) O:=vP ((yj (pR rfl) rfl).trans (MF b O));have j:=zC (o:=Y2) (ext:=1) (i:=2) (te:=g_ (pU rV) (g_ qi j_ qk) rj) (e:=λp=>D.bl (CK (f.getD p .non))) c (by have:=SK b;lia) (λ_=>rfl) (λq k=>by
  have d:q<f.length:=by rw[a.len,<- g];exact Ir b k
  refine(rp ((rp rfl rfl).trans (IM d)) rfl).trans ((eq1 O (a.ans _ (bO d))).trans ?_);rw[Cd d])
 show fin (pT _ [qF f,sJ cs] O)=_;rw[tI ((xr (pR j)).trans (TN O _ _))];rfl
def zeJ(O:Ow):(allS.map λq=>JH [.str q.1,.int (q.2:Nat),.str [45]] O)=allS.map λq=>R.ok (.str (q.1.set q.2 45)) O:=by kernel_rfl
def ziU(h:cs∈oN)(a:k<cs.length)(O:Ow):JH [.str cs,.int (k:Nat),.str [45]] O=.ok (.str (cs.set k 45)) O:=dj.mp (zeJ O) _ (zeB h a)
def A9(f:List D)(cs:n_)(k:Nat):Bool:=cs.getD k 0 !=45&&uF f (cs.set k 45)
def D8(f:List D)(cs:n_):Bool:=!(aW cs.length).any (A9 f cs)
def zk3(a:Fn n f)(h:cs∈Xj n)(b:k<cs.length)(O:Ow):JP [.tup f,.str cs,.int (k:Nat)] O=.ok (.bl (A9 f cs k)) O:=by
 have d:=vS a.n1 a.n4 h;have g:cs.length<=4:=by rw[tW a.n1 a.n4 h];exact a.n4
 have e:=FG a.n1 a.n4 h _ (bO b);show fin (JQ [qF f,sJ cs,pM (k:Nat)] O)=_;unfold JQ A9;rw[Fy b];simp only[pL,p_,qT,pT,tG,qS,qr,dC,a_,c_,o_,pP,g_,qd,rl,uZ,Dw,R.bnd,R.bnS,fin,fe,fg,fy,gg,aT,dE,eR,iW,gR,jo,if_true,if_false,gY,iy,bZ,ite_true,ite_false,zx];rw[show qi O (D.str cs) (D.int (k:Nat))=.ok (.str [cs[k]]) O from RK 'o' b];simp only[pL,p_,qT,pT,tG,qS,qr,dC,a_,c_,o_,pP,g_,qd,rl,uZ,Dw,R.bnd,R.bnS,fin,fe,fg,fy,gg,aT,dE,eR,iW,gR,jo,if_true,if_false,gY,iy,bZ,ite_true,ite_false,Sm O e];cases i:(cs[k] !=45) with
 | true=>
  simp only[pL,p_,qT,pT,tG,qS,qr,dC,a_,c_,o_,pP,g_,qd,rl,uZ,Dw,R.bnd,R.bnS,fin,fe,fg,fy,gg,aT,dE,eR,iW,gR,jo,if_true,if_false,gY,iy,bZ,ite_true,ite_false,ziU d b O,Te a (Jw a.n1 a.n4 h (c:=45) rfl) O,om]
 |false=>simp only[pL,p_,qT,pT,tG,qS,qr,dC,a_,c_,o_,pP,g_,qd,rl,uZ,Dw,R.bnd,R.bnS,fin,fe,fg,fy,gg,aT,dE,eR,iW,gR,jo,if_true,if_false,gY,iy,bZ,ite_true,ite_false,ll]
def zd2(a:Fn n f)(h:cs∈Xj n)(O:Ow):MO [.tup f,.str cs] O=.ok (.bl (D8 f cs)) O:=by
 have e:cs.length<=4:=by rw[tW a.n1 a.n4 h];exact a.n4
 have b:tD (a_ (pP qu (a_ m_ c_)) c_) [qF f,sJ cs] O=.ok (.val ((aW cs.length).map λ(i:Nat)=>D.int (i:Int))) O:=zJ (pR ((xr (pR rfl)).trans (Ux 'o'))) 'o';have c:=zC (o:=Y2) (ext:=1) (i:=2) (te:=o_ 3 JP (a_ j_ (a_ m_ (a_ qk c_)))) b (by rw[cS];lia) (λ_=>rfl) (λk d=>by
  exact(yj (L_ rfl (rm rfl rfl)) rfl).trans (zk3 a h (bz.mp d) O))
 show fin (JG [qF f,sJ cs] O)=_;unfold JG D8;have:=(xr (pR c)).trans (TN O _ _);unfold pT DC;rw[this];rfl
def Kt(f:List D)(cs:n_):Bool:=DN f cs&&D8 f cs
def IC(n:Nat)(f:List D):l_:=(tF n f).filter (Kt f)
def UB(h:cs∈tF n f):cs∈Xj n/\uF f cs=Y1:=bd.mp h
theorem Qh{α:Type}{src:Src}{step:D->Ow->List D->R (List D)}{O:Ow}{inj:α->D}{g:α->D}{c:List α}(j:∀i,src.get O i=(c.map inj)[i]?)(k:∀b a r,c=b++a::r->step (inj a) O (b.map g)=.ok (b.map g++[g a]) O):∀(ds b:List α)(f:Nat),c=b++ds->ds.length<=f->q0 src step f b.length O (b.map g)=.ok (c.map g) O
 | [],b,f,ha,_=>by
  have e:src.get O b.length=YP:=by rw[j,ha];simp
  have l:c=b:=by rw[ha];simp
  cases f<;>(unfold q0;rw[e,l])
 |d::ds,b,0,_,h=>by simp at h
 | d::ds,b,f+1,ha,h=>by
  unfold q0;have e:src.get O b.length=XE (inj d):=by rw[j,ha];simp
  rw[e];show((step (inj d) O (b.map g)).bnd λm n=>q0 src step f (b.length+1) n m)=_;rw[k b d ds ha];have:=Qh j k ds (b++[d]) f (by rw[ha];simp) ⇑h;rw[aA,fB,bQ] at this;exact this
def zga{α:Type}{ext i:Nat}{it0:DI}{tk tv:DE}{σ:Sg}{O O0:Ow}{l:List α}{inj key val:α->D}{kk:α->DK}{τ:α->Sg}(m:it0 σ O0=.ok (.val (l.map inj)) O)(v:l.length<1000)(h:(l.map kk).Nodup)
  (n:∀a,(qH (qH (σ++aw ext YP) [i]) [i]).set i (XE (inj a))=τ a) (o:∀a∈l,tk (τ a) O=.ok (key a) O) (p:∀a∈l,xI (key a)=XE (kk a)) (q:∀a∈l,tv (τ a) O=.ok (val a) O):
  B7 ext it0 (.one i) [] [] tk tv σ O0=.ok (.map (l.map kk) (l.map val)) O:=by
 unfold B7 Cf;rw[m];show((zQ (q0 (.val (l.map inj)) _ ((l.map inj).length) 0 O [])).bnd _)=_;have w:=Qh (src:=.val (l.map inj)) (step:=u4 ⟨it0,.one i,[]⟩ [] (Dp tk tv) (qH (σ++aw ext YP) (qz [⟨it0,.one i,[]⟩]))) (λ_=>rfl) (λc a r f=>by
  have g:a∈l:=by rw[f];simp
  show(match (XE ((qH (qH (σ++aw ext YP) [i]) [i]).set i (XE (inj a))):Option Sg) with|some qv=>(uD [] qv O).bnd λb j=>if b=Y1 then vh [] (Dp tk tv) qv j (c.map λa=>tT (kk a,val a)) else .ok (c.map λa=>tT (kk a,val a)) j|none=>.bad)=_;rw[n a];show((tk (τ a) O).bnd _)=_;rw[o a g];show(match xI (key a) with|some k=>_|none=>_)=_;rw[p a g];rw[q a g];have d:(c.map λa=>tT (kk a,val a)).length<1000:=by
   rw[aD];have:=congrArg jC f;simp at this;lia
  have s:(c.map λa=>tT (kk a,val a)).any (DH (kk a))=Y2:=by
   rw[gz];intro x t;obtain⟨b,u,rfl⟩:=az.mp t;have:kk b≠kk a:=by
    rw[f,bQ,bJ,gm] at h;exact h.2.2 _ (az.mpr ⟨b,u,rfl⟩) _ av
   show ¬ decide (kk b=kk a)=Y1;rw[decide_eq_true_eq];exact this
  show(if _/\_ then R.ok _ O else R.bad)=_;rw[JU ⟨d,s⟩];rfl) l [] ((l.map inj).length) rfl 'd'
 rw[show q0 (.val (l.map inj)) _ ((l.map inj).length) 0 O []=_ from w];show R.ok (D.map (ED (l.map λa=>tT (kk a,val a))) (EE (l.map λa=>tT (kk a,val a)))) O=_;have e:(l.map λa=>tT (kk a,val a))=(l.map λa=>(kk a,val a)).map tT:=by rw[bB];rfl
 rw[e,LG,LP,bB,bB];rfl
theorem UG{α:Type}{kk:α->DK}{val:α->D}{a:α}:∀{l:List α},a∈l->(l.map kk).Nodup->xJ (kk a) (l.map kk) (l.map val)=XE (val a)
 |[],h,_=>by cases h
 | b::l,h,hn=>by
  rw[bJ,bA] at hn;show(if kk b=kk a then XE (val b) else xJ (kk a) (l.map kk) (l.map val))=_;rcases ar.mp h with rfl|h
  ·rw[JU rfl]
  ·rw[J5 (λe=>hn.1 (by rw[e];exact az.mpr ⟨a,h,rfl⟩))];exact UG h hn.2
def Sl(a:td σ O=.ok (.map ks ds) O)(b:tz σ O=.ok y O)(c:xI y=XE k)(e:xJ k ks ds=XE d):DY td tz σ O=.ok d O:=by unfold DY;rw[a];show((tz σ O).bnd _)=_;rw[b];show(match xI y with|some k=>_|none=>_)=_;rw[c];show(match xJ k ks ds with|some d=>R.ok d O|none=>R.bad)=_;rw[e]
def zeC(a:1<=n)(b:n<=4):(Xj n).Pairwise (· < ·):=by rcases Ae a b with rfl|rfl|rfl|rfl<;>decide +kernel
theorem Ue(x:n_):∀l:l_,(vO x l).length<=l.length+1
 |[]=>by simp[vO]
 | y::r=>by
  unfold vO;split
  ·simp
  ·split
   ·simp
   ·have:=Ue x r;simp;lia
def zeK(c:l_):(rA c).length<=c.length:=by
 have:∀(l b:l_),(l.foldl (λl x=>vO x l) b).length<=b.length+l.length:=λl=>by
  induction l with
  |nil=>intro b;simp
  | cons a l ih=>
   intro b;rw[fE];have d:=ih (vO a b);have e:=Ue a b;rw[aT];lia
 have h:=this c [];simpa [rA] using h
def IG(a:Fn n f):(gr n f).Pairwise (· < ·):=((zeC a.n1 a.n4).filter _).filter _
def Io(h:sgn c=Y1):c∈A7:=by unfold sgn at h;simp at h;rcases h with(rfl|rfl)|rfl<;>decide
def zf9(a:1<=n)(b:n<=4)(h:cs∈Xj n):KE (.str cs):=.inl ⟨cs,rfl,λc d=>Io (FG a b h c d),by rw[tW a b h];lia⟩
section
variable{m:Nat}{O:Ow}{b:Bool}
def OO(O:Ow)(m:Nat)(b:Bool)(s:Int)(L Fd:l_):Ow:=O.set m [.int s,.bl b]++[L.map .str,Fd.map .str]
end
def Ay(h:tA σ O=.ok ds O1)(a:ds.length<=4000000):rL tA σ O=.ok (.tup ds) O1:=by show((tA σ O).bnd _)=_;rw[h];show(if ds.length<=4000000 then _ else _)=_;rw[JU a]
structure Sub(ds l:List D)(lo hi:Option Int):Prop where
 mem:∀d∈l,d∈ds
 len:l.length<=ds.length
 cut:l.length<=HT.sIx ds.length ds.length hi-HT.sIx ds.length 0 lo
section
variable{n:Nat}(h1:1<=n)(h4:n<=4){l:l_}(qm:∀t∈l,t∈Xj n)(hlen:l.length<=54)
include h1 h4 qm hlen
end
def U2{α β:Type}{g:α->List β}{l:List α}{i:Nat}{a:α}(h:l[i]?=XE a):(l.take (i+1)).flatMap g=(l.take i).flatMap g++g a:=by rw[fW,h,js];simp
def z7u{α β:Type}{g:α->List β}(l:List α)(i:Nat):((l.take i).flatMap g).length<=(l.flatMap g).length:=by
 conv=>rhs;rw[<- cB i l]
 rw[js,aA];lia
theorem Ci{α β:Type}{g:α->List β}{k:Nat}:∀l:List α,(∀a∈l,(g a).length<=k)->(l.flatMap g).length<=l.length*k
 |[],_=>by simp
 | x::l,h=>by
  rw[dh,aA,aT,Nat.succ_mul];have:=h x av;have:=Ci l λa b=>h a (al _ b);lia
def z8s(d:Fn n f)(h:cs∈Xj n):DN f cs=B8 f cs:=by
 have:B8 f cs=Y1↔DN f cs=Y1:=by
  unfold B8 DN;simp only[ef,cC];constructor
  ·intro e;cases b:(qV f).filter λp=>(rf cs).contains p with
   |nil=>rw[b] at e;cases e
   | cons p l=>
    have g:p∈(qV f).filter λp=>(rf cs).contains p:=by rw[b];exact av
    obtain⟨a,c⟩:=bd.mp g;exact⟨p,by simpa using c,(o4.mp a).2⟩
  ·rintro⟨p,a,c⟩;cases b:(qV f).filter λp=>(rf cs).contains p with
   | nil=>
    have:p∈(qV f).filter λp=>(rf cs).contains p:=bd.mpr ⟨o4.mpr ⟨by rw[d.len];exact IY d.n1 d.n4 h a,c⟩,by simpa using a⟩;rw[b] at this;cases this
   |cons p l=>rfl
 cases a:DN f cs<;>cases c:B8 f cs<;>simp_all
def zhS:(oN.all λa=>oN.all λb=>!(a.length==b.length&&sZ a.length a b&&decide (a≠b))||(aW a.length).any λk=>a.getD k 0 !=45&&sZ a.length (a.set k 45) b)=Y1:=by decide +kernel
def zeT(b:a.length=n):sZ n a (a.set k 45)=Y1:=SW λj c=>by
 by_cases e:k=j
 ·subst e;left;rw[aH,aY 'o'];rfl
 ·right;rw[aH,aZ e,<- aH]
def ze0(c:Fn n f)(d:a∈Xj n)(e:b∈Xj n)(h:sZ n a b=Y1)(g:uF f b=Y1):uF f a=Y1:=by unfold uF at *;rw[ay] at *;exact λp i=>g p (T8 c.n1 c.n4 d e h i)
def UT{n:Nat}{f:List D}(a:Fn n f):IC n f=gr n f:=by
 refine m7 λt u=>?_;have i:=AG u;have b:=tW a.n1 a.n4 i;unfold Kt Ah;rw[z8s a i,Bool.and_comm];congr 1;unfold D8;rw[zbk];have j:(aW t.length).any (A9 f t)=Y1 ↔ ∃o∈tF n f,o≠t/\sZ n t o=Y1:=by
  rw[cC];constructor
  ·rintro⟨k,l,d⟩;have l:=bz.mp l;unfold A9 at d;rw[br] at d;have v:=Jw a.n1 a.n4 i (k:=k) (c:=45) rfl;refine⟨t.set k 45,bd.mpr ⟨v,d.2⟩,λe=>?_,zeT b⟩;have w:t.getD k 0≠45:=⇑d.1
   have:(t.set k 45).getD k 0=45:=by rw[aH,aY l];rfl
   rw[e] at this;exact w this
  ·rintro⟨o,g,m,p⟩;have q:=AG g;have h:=ay.mp (ay.mp zhS t (vS a.n1 a.n4 i)) o (vS a.n1 a.n4 q);rw[b,tW a.n1 a.n4 q,p,decide_eq_true (bw m)] at h;simp only[beq_self_eq_true,Bool.and_self,gY,jX] at h;rw[cC] at h;obtain⟨k,l,r⟩:=h;rw[br] at r;refine⟨k,by rw[b];exact l,?_⟩;unfold A9;rw[br];exact⟨r.1,ze0 a (Jw a.n1 a.n4 i rfl) q r.2 (bd.mp g).2⟩
 cases d:(aW t.length).any (A9 f t) with
 | true=>
  obtain⟨o,g,m,p⟩:=j.mp d;symm;show(tF n f).all _=Y2;rw[List.all_eq_false];exact⟨o,g,by simp[m,p]⟩
 | false=>
  symm;show(tF n f).all _=Y1;rw[ay];intro o g;cases s:(decide (o≠t)&&sZ n t o) with
  |false=>rfl
  | true=>
   rw[br] at s;have:=j.mpr ⟨o,g,of_decide_eq_true s.1,s.2⟩;rw[d] at this;cases this
def yq(g:Nat->Bool)(t:n_):Bool:=(rf t).all g
def Cr(g:Nat->Bool)(t:n_):Bool:=yq g t && !(aW t.length).any λk=>t.getD k 0 !=45&&yq g (t.set k 45)
def zj7:∀a b c d e f g h:Bool,((Xj 3).filter (Cr λp=>[a,b,c,d,e,f,g,h].getD p Y2)).length<=6:=by decide +kernel
def RB(h:∀p,p<8->g p=k p)(b:t∈Xj 3):yq g t=yq k t:=by
 unfold yq;rw[dZ,ay,ay];constructor
 ·intro q p a;rw[<- h p (IY 's' 's' b a)];exact q p a
 ·intro q p a;rw[h p (IY 's' 's' b a)];exact q p a
def zk2(h:∀p,p<8->g p=k p)(a:t∈Xj 3):Cr g t=Cr k t:=by unfold Cr;rw[RB h a];congr 3;funext i;rw[RB h (Jw 's' 's' a rfl)]
def six(g:Nat->Bool):((Xj 3).filter (Cr g)).length<=6:=by
 have:=zj7 (g 0) (g 1) (g 2) (g 3) (g 4) (g 5) (g 6) (g 7);rwa [m7 λt a=>zk2 (λp b=>by
  have:p=0\/p=1\/p=2\/p=3\/p=4\/p=5\/p=6\/p=7:=by lia
  rcases this with rfl|rfl|rfl|rfl|rfl|rfl|rfl|rfl<;>rfl) a] at this
def qG(f:List D)(t:n_):Bool:=uF f t&&D8 f t
def zhw{α:Type}{p q:α->Bool}{l:List α}(h:∀x∈l,p x=Y1->q x=Y1):(l.filter p).length<=(l.filter q).length:=by rw[<- jA,<- jA];exact lJ h
def zfB(n:Nat)(f:List D):(IC n f).length<=((Xj n).filter (qG f)).length:=by unfold IC tF;rw[List.filter_filter];refine zhw λt _ h=>?_;unfold Kt at h;unfold qG;simp at h ⊢;exact⟨h.2,h.1.2⟩
theorem Ql{q a b c:n_->Bool}:∀(l:l_),(∀t∈l,(q (t++[45])=Y1->a t=Y1)/\(q (t++[48])=Y1->b t=Y1)/\(q (t++[49])=Y1->c t=Y1))->((l.flatMap λt=>[t++[45],t++[48],t++[49]]).filter q).length<=(l.filter a).length+(l.filter b).length+(l.filter c).length
 |[],_=>by simp
 | t::l,h=>by
  have g:=Ql l λs f=>h s (al _ f);rw[dh,jQ,aA];have e:([t++[45],t++[48],t++[49]].filter q).length<=(if a t=Y1 then 1 else 0)+(if b t=Y1 then 1 else 0)+(if c t=Y1 then 1 else 0):=by
   cases i:q (t++[45])<;>cases j:q (t++[48])<;>cases k:q (t++[49])<;>simp_all<;>(repeat' split)<;>lia
  have d:∀p:n_->Bool,((t::l).filter p).length=(if p t=Y1 then 1 else 0)+(l.filter p).length:=λp=>by
   rw[eD];split<;>simp<;>lia
  rw[d a,d b,d c];lia
def LL(t:n_)(c:Nat):rf (t++[c])=(rf t).flatMap λp=>(Qy c).map (2*p + ·):=by unfold rf;rw[mZ];rfl
def Lg{f:List D}{c:Nat}{g:Nat->Bool}(a:∀s,uF f (s++[c])=yq g s){t:n_}(h:qG f (t++[c])=Y1):Cr g t=Y1:=by unfold qG D8 at h;simp only[br,ef,gz] at h;unfold Cr;simp only[br,ef,gz];refine⟨by rw[<- a];exact h.1,λk d=>?_⟩;have b:=bz.mp d;have:=h.2 k (bz.mpr (by rw[aA];lia));unfold A9 at this;rw[lW _ _ b,a,aH,aI b,<- aH,br] at this;exact this
def ZO(f:List D)(s:n_):uF f (s++[45])=yq (λp=>!ui (f.getD (2*p) .non) && !ui (f.getD (2*p+1) .non)) s:=by unfold uF yq;rw[LL,kK];congr 1;funext p;show([2*p+0,2*p+1].all _)=_;simp
def ZR(f:List D)(s:n_):uF f (s++[48])=yq (λp=>!ui (f.getD (2*p) .non)) s:=by unfold uF yq;rw[LL,kK];congr 1;funext p;show([2*p+0].all _)=_;simp
def YV(f:List D)(s:n_):uF f (s++[49])=yq (λp=>!ui (f.getD (2*p+1) .non)) s:=by unfold uF yq;rw[LL,kK];congr 1;funext p;show([2*p+1].all _)=_;simp
def HS{n:Nat}{f:List D}(d:Fn n f):(gr n f).length<=18:=by
 rw[<- UT d];refine aG (zfB n f) ?_;rcases Ae d.n1 d.n4 with rfl|rfl|rfl|rfl
 ·exact aG (bD _ _) 's'
 ·exact aG (bD _ _) 's'
 ·have:=six λp=>!ui (f.getD p .non);exact aG (aG (ir rfl) this) 's'
 ·have h:=Ql (Xj 3) λt _=>⟨Lg (ZO f),Lg (ZR f),Lg (YV f)⟩;have a:=six λp=>!ui (f.getD (2*p) .non) && !ui (f.getD (2*p+1) .non);have b:=six λp=>!ui (f.getD (2*p) .non);have c:=six λp=>!ui (f.getD (2*p+1) .non);have e:Xj 4=(Xj 3).flatMap λt=>[t++[45],t++[48],t++[49]]:=rfl;rw[e];lia
def BN:D->Bool
 |.non=>Y1
 |.bl _=>Y1
 |.int _=>Y1
 |.str _=>Y1
 |_=>Y2
def CB:D->Bool
 |.tup ds=>ds.all BN
 |d=>BN d
def Pl(O:Ow):Prop:=∀c∈O,∀d∈c,CB d=Y1
def At(O:Ow):Prop:=∀c∈O,∀d∈c,BN d=Y1
def zeE:∀{d:D},BN d=Y1->xK n d=Y1
 |.non,_=>rfl
 |.bl _,_=>rfl
 |.int _,_=>rfl
 |.str _,_=>rfl
def Z3:∀{d:D},BN d=Y1->nm d=Y1
 |.non,_=>rfl
 |.bl _,_=>rfl
 |.int _,_=>rfl
 |.str _,_=>rfl
def ZJ:∀{d:D},BN d=Y1->CB d=Y1
 |.non,_=>rfl
 |.bl _,_=>rfl
 |.int _,_=>rfl
 |.str _,_=>rfl
def At.flat(h:At O):zw O:=λc a d b=>zeE (h c a d b)
def At.pl(h:At O):Pl O:=λc a d b=>ZJ (h c a d b)
theorem Lj:∀{ds:List D},(∀d∈ds,nm d=Y1)->nms ds=Y1
 |[],_=>rfl
 | d::ds,h=>by
  unfold nms;rw[h d av,Lj λx a=>h x (al _ a)];rfl
def Z6:∀{d:D},CB d=Y1->nm d=Y1
 | .tup ds,h=>by
  exact Lj λd a=>Z3 (ay.mp h d a)
 |.non,_=>rfl
 |.bl _,_=>rfl
 |.int _,_=>rfl
 |.str _,_=>rfl
def Pl.nms(h:Pl O):O.all nms=Y1:=ay.mpr λc a=>Lj λd b=>Z6 (h c a d b)
def YO:∀{d:D},BN d=Y1->Lb d=Y1
 |.non,_=>rfl
 |.bl _,_=>rfl
 |.int _,_=>rfl
 |.str _,_=>rfl
def Jb:∀{d:D},CB d=Y1->frz O n (f+1) d=XE d
 | .tup ds,h=>by
  show(qe (frz O n f) ds).map D.tup=_;rw[uQ λd a=>PN (YO (ay.mp h d a))];rfl
 |.non,_=>rfl
 |.bl _,_=>rfl
 |.int _,_=>rfl
 |.str _,_=>rfl
def Eb(a:Pl O')(X:Ow)(h:frz (O'++X) O'.length 8 d=XE d'):uC O'.length (.ok d (O'++X))=.ok d' O':=by
 unfold uC;dsimp only;rw[h];have:(O'++X).take O'.length=O':=by simp
 rw[this,uQ λc b=>uQ λd e=>Jb (a c b d e)]
def Pl.one(h:Pl O)(a:∀d∈c,CB d=Y1):Pl (O++[c]):=λx hx=>by
 rcases aQ.mp hx with hx|hx
 ·exact h x hx
 ·have:x=c:=⇑hx
  subst this;exact a
def toT(c:l_):D:=.tup (c.map .str)
def QL(c:l_):CB (toT c)=Y1:=by show(c.map D.str).all BN=Y1;rw[ay];intro d a;obtain⟨x,_,rfl⟩:=az.mp a;rfl
def LN(l:List l_):∀d∈l.map toT,CB d=Y1:=λd a=>by
 obtain⟨x,_,rfl⟩:=az.mp a;exact QL x
section
variable{α:Type}[DecidableEq α]
noncomputable def ux(inj:α->D)(h:DLC.Held α):D:=.map ((DLC.keys h).map dq) (h.map λkv=>.lst (kv.2.map inj))
structure Inj(inj:α->D):Prop where
 in_:∀(O:Ow)(x:α)(l:List α),BL O (inj x) (.lst (l.map inj))=.ok (.bl (l.contains x)) O
 nin:∀(O:Ow)(x:α)(l:List α),A5 O (inj x) (.lst (l.map inj))=.ok (.bl (!l.contains x)) O
variable{inj:α->D}(J:Inj inj)
def Q7(n:(DLC.keys h).Nodup)(m:kv∈h):xJ (.inr kv.1) ((DLC.keys h).map dq) (h.map λkv=>D.lst (kv.2.map inj))=qO (kv.2.map inj):=by
 have e:(DLC.keys h).map dq=h.map λkv=>(dq kv.1:DK):=by unfold DLC.keys;rw[bB];rfl
 rw[e];refine UG (kk:=λkv:n_×List α=>(dq kv.1:DK)) m ?_;rw[<- e];exact gw.mpr (List.Pairwise.imp (λa e=>a (jB e)) n)
def zj5(n:(DLC.keys h).Nodup)(m:t∈DLC.keys h):xJ (.inr t) ((DLC.keys h).map dq) (h.map λkv=>D.lst (kv.2.map inj))=qO ((DLC.at_ h t).map inj):=by obtain⟨kv,a,rfl⟩:=az.mp m;rw[Q7 n a,DLC.at_mem n a]
include J in
theorem Vs(n:(DLC.keys h).Nodup)(b:h.length<=100)(x:α)(O:Ow):Cm [ux inj h,inj x] O=.ok (.lst ((DLC.hold h x).map .str)) O:=by
 show fin (MG [XE (ux inj h),XE (inj x)] O)=_;have c:Hy j_ [XE (ux inj h),XE (inj x)] O=.ok (.val (h.map λa=>D.str a.1)) O:=by
  show R.ok (Src.val (((DLC.keys h).map dq).map BB)) O=_;unfold DLC.keys;rw[bB,bB];rfl
 refine yJ ((yh c 'o' (λ_=>rfl) (λa d=>sH (rh rfl (Sl rfl rfl rfl (Q7 n d)) (J.in_ O x a.2))) (λ_ _ _=>rfl)).trans ?_);unfold DLC.hold;rw[bB];rfl
theorem Md:∀(w:List α)(b:α),(∀y∈w,tE (σ++[XE (inj y)]) O=.ok (.int (f y:Nat)) O)->DL.minGo tE σ (w.map inj) (inj b) (f b:Nat) O=.ok (inj (DLC.minGo f w b)) O
 |[],b,_=>rfl
 | x::w,b,h=>by
  rw[bJ];unfold DL.minGo DLC.minGo;rw[h x av];dsimp only;by_cases c:f x<f b
  ·rw[JU (show((f x:Nat):Int)<(f b:Nat) by lia),JU c];exact Md w x λy a=>h y (al _ a)
  ·rw[J5 (show ¬ ((f x:Nat):Int)<(f b:Nat) by lia),J5 c];exact Md w b λy a=>h y (al _ a)
def stC(inj:α->D)(h:DLC.Held α)(w:List α)(m:Int)(y:Option D)(k:Nat)(a b c:Option D)(Pt:Nat):Sg:=[XE (ux inj h),qO (w.map inj),pM m,y,qA k,a,b,c,XE (.tab Pt)]
include J in
theorem zhX(n:(DLC.keys h).Nodup)(d:w.length<=300)(b:t∈DLC.keys h)(O:Ow):B2 (stC inj h w m y k a (sJ t) c Pt) O=.ok (.lst ((DLC.left h w t).map inj)) O:=
 (yh (vP rfl) 'o' (λ_=>rfl) (λx e=>sH (rh rfl (Sl rfl rfl rfl (zj5 n b)) (J.nin O x _))) (λ_ _ _=>rfl)).trans rfl
def yI(a:σ[iT]?=XE (XE (.tab Pt)))(b:t σ O=.ok ds O1)(c:F ds O1=z)(d:ds.length=n:=by rfl):sj Pt iT n F t σ O=z:=by unfold sj;rw[a];dsimp only;rw[JU rfl];exact rq b c d
def zkS{h r:DLC.Held α}{w l:List α}{t:n_}{m:Nat}{y:Option D}{Pt:Nat}{F:pY}{O:Ow}{a cs:List l_}(d:F [ux inj r,.lst (l.map inj),.int (m:Nat)] (O++[a.map toT])=.ok (.lst (cs.map toT)) (O++[a.map toT]))(n:a.length+cs.length<=1700000)(b:∀c∈cs,c.length<=1000):
  A6 Pt F (stC inj h w ((m+1:Nat):Int) y O.length (XE (ux inj r)) (sJ t) (qO (l.map inj)) Pt) (O++[a.map toT])=.ok .non (O++[(a++cs.map (t :: ·)).map toT]):=by
 have f:((m+1:Nat):Int)-1=(m:Nat):=by lia
 have g:sj Pt 8 3 F (a_ vM (a_ (qr 7) (a_ (g_ (fI vA) qk rj) c_))) (stC inj h w ((m+1:Nat):Int) y O.length (XE (ux inj r)) (sJ t) (qO (l.map inj)) Pt) (O++[a.map toT])=.ok (.lst (cs.map toT)) (O++[a.map toT]):=by
  refine yI rfl ?_ d;show R.ok [ux inj r,.lst (l.map inj),.int (((m+1:Nat):Int)-1)] _=_;rw[f]
 have j:=zC (o:=Y2) (ext:=1) (i:=9) (te:=g_ rD (rL vK) (qr 9)) (e:=λc=>toT (t::c)) (vP g) 'o' (λ_=>rfl) (λc k=>by
  refine rh rfl rfl ?_;show(if [D.str t]≠[]/\[D.str t].length+(c.map D.str).length<=4000000 then R.ok (D.tup ([D.str t]++c.map D.str)) (O++[a.map toT]) else .bad)=_;rw[JU ⟨by simp,by rw[aD];have:=b c k;simp;lia⟩];rfl)
 unfold A6 zr;show((a_ _ c_ _ (O++[a.map toT])).bnd _)=_;rw[pR (j.trans (rfl))];show(match [D.lst (cs.map λc=>toT (t::c))],(O++[a.map toT])[O.length]? with|[y],XE ds=>(match r_ (O++[a.map toT]) y with|some es=>if ds.length+es.length<=4000000 then R.ok D.non ((O++[a.map toT]).set O.length (ds++es)) else R.bad|none=>R.bad)|_,_=>R.bad)=_;rw[xt];dsimp only[r_];rw[JU (by simp;lia),Ce,bQ,bB];rfl
def K1(inj:α->D)(Pt k m:Nat):Prop:=∀(h:DLC.Held α)(w:List α)(O:Ow),Pl O->(DLC.keys h).Nodup->h.length<=20->w.length<=300->xQ Pt k [ux inj h,.lst (w.map inj),.int (m:Nat)] O=.ok (.lst ((DLC.cov m h w).map toT)) O
def TX(h:DLC.Held α)(t:n_):(DLC.drop h t).length<=h.length:=bD _ _
def zek(r:DLC.Held α)(t:n_):vk (.inr t) ((DLC.keys r).map dq)=(DLC.keys (DLC.drop r t)).map dq:=by
 unfold vk DLC.keys DLC.drop
 induction r with
 |nil=>rfl
 | cons kv r ih=>
  simp only[bJ];by_cases e:kv.1=t
  ·rw[dI (by simp[e]),dI (by simp[e])];exact ih
  ·rw[dJ ⇑e,dJ ⇑e];simp only[bJ];rw[ih]
def zcS(r:DLC.Held α)(t:n_):yH (.inr t) ((DLC.keys r).map dq) (r.map λkv=>D.lst (kv.2.map inj))=(DLC.drop r t).map λkv=>D.lst (kv.2.map inj):=by
 unfold DLC.keys DLC.drop
 induction r with
 |nil=>rfl
 | cons kv r ih=>
  simp only[bJ];unfold yH;by_cases e:kv.1=t
  ·rw[JU (by rw[e]),dI (by simp[e])];exact ih
  ·rw[J5 (λz=>e (jB z)),dJ ⇑e,bJ,ih]
def Z9(h:t∈DLC.keys r):EG (.inr t) ((DLC.keys r).map dq)=Y1:=by unfold EG;rw[cC];exact⟨.inr t,az.mpr ⟨t,h,rfl⟩,by simp⟩
include J in
theorem Si{Pt k m:Nat}(x:K1 inj Pt k m)(z:m<=100){h:DLC.Held α}{w:List α}(n:(DLC.keys h).Nodup)(j:h.length<=20)(l:w.length<=300){O:Ow}(o:Pl O){y:Option D}:
  ∀(ts:l_)(r:DLC.Held α)(d:List l_)(b c:Option D),(∀t∈ts,t∈DLC.keys r)->ts.Nodup->(∀kv∈r,kv∈h)->(DLC.keys r).Nodup->r.length<=20->d.length+2 ^ r.length<=1700000->(∀t∈ts,t∈DLC.keys h)->
   ∃p q,Al 5 6 7 B2 (A6 Pt (xQ Pt k)) (ts.map D.str) ((DLC.keys r).map dq) (r.map λkv=>D.lst (kv.2.map inj)) (stC inj h w ((m+1:Nat):Int) y O.length YP b c Pt) (O++[d.map toT])=.nx (stC inj h w ((m+1:Nat):Int) y O.length YP p q Pt) (O++[(d++DLC.covL (DLC.cov m) h w ts r).map toT])
 |[],r,d,b,c,_,_,_,_,_,_,_=>⟨b,c,by unfold DLC.covL;rw[bP];rfl⟩
 | t::ts,r,d,b,c,f,nt,hr,nr,fr,hl,W1=>by
  have A:∀kv∈DLC.drop r t,kv∈h:=λkv f=>hr kv (DLC.mem_drop.mp f).1;have K:=DLC.cov_pow m (DLC.drop r t) (DLC.left h w t) (DLC.nd_drop nr);have B:=DLC.drop_lt (f t av);have C:2 ^ ((DLC.drop r t).length+1)<=2 ^ r.length:=de 'o' B;rw[Nat.pow_succ] at C;have E:=zhX J n l (W1 t av) (m:=((m+1:Nat):Int)) (y:=y) (k:=O.length) (Pt:=Pt) (a:=YP) (c:=c) (O++[d.map toT]);have F:=x (DLC.drop r t) (DLC.left h w t) (O++[d.map toT]) (o.one (LN d)) (DLC.nd_drop nr) (aG (TX r t) fr) (aG (bD _ _) l);have g:d.length+(DLC.cov m (DLC.drop r t) (DLC.left h w t)).length<=1700000:=by lia
  have G:=zkS (h:=h) (w:=w) (t:=t) (y:=y) (Pt:=Pt) F g λc H=>by have:=(DLC.cov_sound m (DLC.nd_drop nr) H).1;lia
  obtain⟨p,q,I⟩:=Si x z n j l o ts (DLC.drop r t) (d++(DLC.cov m (DLC.drop r t) (DLC.left h w t)).map (t :: ·)) (sJ t) (qO ((DLC.left h w t).map inj))
   (λs i=>DLC.keys_drop.mpr ⟨f s (al _ i),λe=>(bA.mp nt).1 (e▸i)⟩) (bA.mp nt).2 A (DLC.nd_drop nr) (aG (TX r t) fr) (by rw[aA,aD];lia) (λs i=>W1 s (al _ i))
  refine⟨p,q,?_⟩;rw[bJ];unfold Al;dsimp only[xI];rw[JU (Z9 (f t av))];have u:B2 ((stC inj h w ((m+1:Nat):Int) y O.length YP b c Pt).set 6 (sJ t)) (O++[d.map toT])=.ok (.lst ((DLC.left h w t).map inj)) (O++[d.map toT]):=E;rw[u];dsimp only;rw[zek,zcS];have v:A6 Pt (xQ Pt k) ((((stC inj h w ((m+1:Nat):Int) y O.length YP b c Pt).set 6 (sJ t)).set 7 (qO ((DLC.left h w t).map inj))).set 5 (XE (.map ((DLC.keys (DLC.drop r t)).map dq) ((DLC.drop r t).map λkv=>D.lst (kv.2.map inj))))) (O++[d.map toT])=_:=G;rw[v];dsimp only;rw[JU (o.one (LN _)).nms];refine Eq.trans I ?_;show _=RS.nx _ (O++[(d++((DLC.cov m (DLC.drop r t) (DLC.left h w t)).map (t :: ·)++DLC.covL (DLC.cov m) h w ts (DLC.drop r t))).map toT]);rw[bh]
include J in
theorem UH:∀(m k:Nat),m<k->m<=100->K1 inj Pt k m
 |m,0,hk,_=>by lia
 | 0,k+1,_,_=>by
  intro h w O f n a q;show uC O.length (fin (AE Pt (xQ Pt k) [XE (ux inj h),qO (w.map inj),pM 0,YP,YP,YP,YP,YP,XE (.tab Pt)] O))=_;unfold AE;cases w with
  | nil=>
   rw[xO (Ip (O1:=O) (x:=.lst [.tup []]) (Bv (b:=Y2) rfl) rfl)];have:=Eb f [] (d:=.lst [.tup []]) (d':=.lst [.tup []]) rfl;rw[bP] at this;exact this
  | cons x w=>
   rw[xO (Bi (O1:=O) (Bv (b:=Y1) rfl) (Ip (O1:=O) (x:=.lst []) (sH (b:=Y1) rfl) rfl))];have:=Eb f [] (d:=.lst []) (d':=.lst []) rfl;rw[bP] at this;exact this
 | m+1,k+1,hk,hm=>by
  intro h w O f n a q;cases w with
  | nil=>
   show uC O.length (fin (AE Pt (xQ Pt k) [XE (ux inj h),XE (.lst []),pM ((m+1:Nat):Int),YP,YP,YP,YP,YP,XE (.tab Pt)] O))=_;unfold AE;rw[xO (Ip (O1:=O) (x:=.lst [.tup []]) (Bv (b:=Y2) rfl) rfl)];have:=Eb f [] (d:=.lst [.tup []]) (d':=.lst [.tup []]) rfl;rw[bP] at this;exact this
  | cons x w=>
   have u:K1 inj Pt k m:=UH m k 'o' 'o';let c:Sg:=[XE (ux inj h),qO ((x::w).map inj),pM ((m+1:Nat):Int),YP,YP,YP,YP,YP,XE (.tab Pt)];have r:∀y,BY (c++[XE (inj y)]) O=.ok (.int ((DLC.hold h y).length:Nat)) O:=λy=>tU (pR (rq (rm rfl rfl) (Vs J n 'o' y O))) (by show R.ok (D.int (((DLC.hold h y).map D.str).length:Nat)) O=_;rw[aD]);generalize g:DLC.minGo (λy=>(DLC.hold h y).length) w x=y;have v:y∈x::w:=by
    rcases DLC.minGo_mem (λy=>(DLC.hold h y).length) w x with e|e
    ·rw[<- g,e];exact av
    ·rw[<- g];exact al _ e
   have z:DP Pt 8 m_ BY c O=.ok (inj y) O:=by
    show(if Pt=Pt then (R.bnd (R.ok (D.lst ((x::w).map inj)) O) λx O1=>match x with|.lst ds=>DB BY c O1 ds|_=>.bad) else .bad)=_;rw[JU rfl];show DB BY c O (inj x::w.map inj)=_;show(match BY (c++[XE (inj x)]) O with|.ok (.int j) O1=>DL.minGo BY c (w.map inj) (inj x) j O1|_=>.bad)=_;rw[r x];dsimp only;rw[<- g];exact Md w x λy _=>r y
   have s:2 ^ h.length<=1700000:=by
    have:=de (n:=2) 's' a;lia
   obtain⟨I,K,A⟩:=Si J u 'o' n a q f (y:=XE (inj y)) (DLC.hold h y) h [] YP YP (λt i=>((DLC.mem_hold n).mp i).1) (DLC.hold_nd n y) (λ_ h=>h) n a (by simp only[dE];lia) (λt i=>((DLC.mem_hold n).mp i).1);have B:((m+1:Nat):Int)≠0:=by lia
   have C:qd (g_ (pU rV) qk qZ) c O=.ok Y2 O:=sH (rh rfl rfl (show pU rV O (.int ((m+1:Nat):Int)) (.int 0)=_ from by
    show R.ok (D.bl (((m+1:Nat):Int)==0)) O=_;rw[beq_eq_false_iff_ne.mpr B]))
   have l:qy (o_ 2 Cm (a_ j_ (a_ qC c_))) (stC inj h (x::w) ((m+1:Nat):Int) (XE (inj y)) O.length YP YP YP Pt) (O++[[]])=.ok (.val ((DLC.hold h y).map D.str)) (O++[[]]):=vP (rq (rm rfl rfl) (Vs J n 'o' y (O++[[]])));have E:E9 5 6 7 j_ (qy (o_ 2 Cm (a_ j_ (a_ qC c_)))) B2 (A6 Pt (xQ Pt k)) (pT q9) (stC inj h (x::w) ((m+1:Nat):Int) (XE (inj y)) O.length YP YP YP Pt) (O++[[]])=.rt (.own O.length) (O++[((DLC.covL (DLC.cov m) h (x::w) (DLC.hold h y) h)).map toT]):=by
    unfold E9;show(R.bnS (R.ok (ux inj h) (O++[[]])) _)=_;show(R.bnS (qy (o_ 2 Cm (a_ j_ (a_ qC c_))) (stC inj h (x::w) ((m+1:Nat):Int) (XE (inj y)) O.length YP YP YP Pt) (O++[[]])) _)=_;rw[l];show(match Al 5 6 7 B2 (A6 Pt (xQ Pt k)) ((DLC.hold h y).map D.str) ((DLC.keys h).map dq) (h.map λo=>D.lst (o.2.map inj)) (stC inj h (x::w) ((m+1:Nat):Int) (XE (inj y)) O.length YP YP YP Pt) (O++[[]]) with|.nx σ' O'=>pT q9 σ' O'|_=>.bad)=_;have F:Al 5 6 7 B2 (A6 Pt (xQ Pt k)) ((DLC.hold h y).map D.str) ((DLC.keys h).map dq) (h.map λo=>D.lst (o.2.map inj)) (stC inj h (x::w) ((m+1:Nat):Int) (XE (inj y)) O.length YP YP YP Pt) (O++[[]])=_:=A;rw[F];rw[gd];rfl
   have p:AE Pt (xQ Pt k) c O=.rt (.own O.length) (O++[((DLC.covL (DLC.cov m) h (x::w) (DLC.hold h y) h)).map toT]):=by
    unfold AE;exact Bi (O1:=O) (Bv (b:=Y1) rfl) (Bi C (sI (x:=inj y) z (sI (x:=.own O.length) (O1:=O++[[]]) rfl E)))
   show uC O.length (fin (AE Pt (xQ Pt k) c O))=_;rw[xO p];have G:=Eb f [(DLC.covL (DLC.cov m) h (x::w) (DLC.hold h y) h).map toT] (d:=.own O.length) (d':=.lst ((DLC.covL (DLC.cov m) h (x::w) (DLC.hold h y) h).map toT)) (by
    unfold frz;dsimp only;rw[J5 (cw _),xt];dsimp only;rw[uQ λd H=>Jb (LN _ d H)];rfl)
   refine G.trans ?_;show _=R.ok (D.lst ((DLC.covL (DLC.cov m) h (x::w) (DLC.hold h (DLC.minGo (λy=>(DLC.hold h y).length) w x)) h).map toT)) O;rw[g]
end
def zeR(h:t σ O=.ok (.lst ds) O1):rl t σ O=.ok (!ds.isEmpty) O1:=by show((t σ O).bnd _)=_;rw[h];rfl
noncomputable def yO(t:n_):Int:=((t.length-t.count 45:Nat):Int)
def zf4(O:Ow):(oN.map λcs=>FL [.str cs] O)=oN.map λcs=>R.ok (D.int (yO cs)) O:=by kernel_rfl
def zhU(h:cs∈oN)(O:Ow):FL [.str cs] O=.ok (.int (yO cs)) O:=dj.mp (zf4 O) cs h
def qx(c:l_):Int:=(c.map yO).sum
theorem FE:∀l:List Int,yg (l.map D.int)=XE l
 |[]=>rfl
 | x::l=>by
  show(yg (l.map D.int)).map (x :: ·)=_;rw[FE l];rfl
def R1(a:∀t∈c,t∈oN)(e:c.length<=1000)(O:Ow):zL [toT c] O=.ok (.int (qx c)) O:=by
 have b:=zC (o:=Y2) (ext:=1) (i:=1) (it0:=qy j_) (σ:=[XE (toT c)]) (te:=o_ 1 FL (a_ m_ c_)) (Cc rfl) 'o' (λ_=>rfl) (λt d=>rq (pR rfl) (zhU (a t d) O));show fin (MC [XE (toT c)] O)=_;refine yJ (tU (pR b) ?_);show(match yg (c.map λt=>D.int (yO t)) with|some ns=>R.ok (D.int ns.sum) O|none=>.bad)=_;have:(c.map λt=>D.int (yO t))=(c.map yO).map D.int:=by rw[bB];rfl
 rw[this,FE];rfl
section
variable{α:Type}[DecidableEq α]{inj:α->D}(J:Inj inj)
def ur(inj:α->D)(h:DLC.Held α)(w:List α)(Pt m:Nat)(x:Option D):Sg:=[XE (ux inj h),qO (w.map inj),pM (m:Nat),qO ((DLC.cov m h w).map toT),x,XE (.tab Pt)]
structure Sz(h:DLC.Held α)(w:List α):Prop where
 nd:(DLC.keys h).Nodup
 few:h.length<=18
 wl:w.length<=300
include J in
theorem Q0(z:Sz h w)(d:m<=18)(c:Pl O):sj Pt 5 3 (FC Pt) (a_ j_ (a_ m_ (a_ qk c_))) [XE (ux inj h),qO (w.map inj),pM (m:Nat),a,b,XE (.tab Pt)] O=.ok (.lst ((DLC.cov m h w).map toT)) O:=
 yI rfl (L_ rfl (rm rfl rfl)) (UH J m 20 'o' 'o' h w O c z.nd (aG z.few 's') z.wl)
include J in
theorem Vl(z:Sz h w)(g:DLC.cov 18 h w≠[]):∀(fuel m:Nat),m<=18->18<m+fuel->∃c,m<=c/\c<=18/\DLC.cov c h w≠[]/\(∀j,m<=j->j<c->DLC.cov j h w=[])/\∀(Pt:Nat)(O:Ow),Pl O->xp cW (bW Pt) fuel (ur inj h w Pt m YP) O=.nx (ur inj h w Pt c YP) O
 |0,m,h1,h2=>by lia
 | fuel+1,m,h1,h2=>by
  by_cases e:DLC.cov m h w=[]
  ·have x:m≠18:=λq=>g (q▸e);obtain⟨c,y,i,l,n,o⟩:=Vl z g fuel (m+1) 'o' 'o';refine⟨c,by lia,i,l,λj p s=>?_,λPt O d=>?_⟩
   ·by_cases q:j=m
    ·rw[q];exact e
    ·exact n j 'o' s
   ·have f:cW (ur inj h w Pt m YP) O=.ok Y1 O:=by
     unfold ur;rw[e];rfl
    have u:bW Pt (ur inj h w Pt m YP) O=.nx (ur inj h w Pt (m+1) YP) O:=by
     refine vQ (σ':=[XE (ux inj h),qO (w.map inj),pM ((m+1:Nat):Int),qO ((DLC.cov m h w).map toT),YP,XE (.tab Pt)]) (O1:=O) rfl ?_;rw[AD (Q0 J z 'o' d)];rfl
    show((cW (ur inj h w Pt m YP) O).bnS λk O1=>if k=Y1 then (match bW Pt (ur inj h w Pt m YP) O1 with
     |.nx σ' O'=>xp cW (bW Pt) fuel σ' O'
     |.ct σ' O'=>xp cW (bW Pt) fuel σ' O'
     |.bk σ' O'=>.nx σ' O'
     |r=>r) else .nx (ur inj h w Pt m YP) O1)=_
    rw[f];show(if Y1=Y1 then (match bW Pt (ur inj h w Pt m YP) O with
     |.nx σ' O'=>xp cW (bW Pt) fuel σ' O'
     |.ct σ' O'=>xp cW (bW Pt) fuel σ' O'
     |.bk σ' O'=>.nx σ' O'
     |r=>r) else RS.nx (ur inj h w Pt m YP) O)=_
    rw[JU rfl,u];exact o Pt O d
  ·refine⟨m,aB _,h1,e,λj a b=>by lia,λPt O d=>?_⟩;have f:cW (ur inj h w Pt m YP) O=.ok Y2 O:=by
    refine Bv (b:=Y1) ?_;rw[zeR (t:=qr 3) (σ:=ur inj h w Pt m YP) (O:=O) (O1:=O) (ds:=(DLC.cov m h w).map toT) rfl];cases v:DLC.cov m h w with
    |nil=>exact absurd v e
    |cons _ _=>rfl
   show((cW (ur inj h w Pt m YP) O).bnS λk O1=>if k=Y1 then (match bW Pt (ur inj h w Pt m YP) O1 with
     |.nx σ' O'=>xp cW (bW Pt) fuel σ' O'
     |.ct σ' O'=>xp cW (bW Pt) fuel σ' O'
     |.bk σ' O'=>.nx σ' O'
     |r=>r) else .nx (ur inj h w Pt m YP) O1)=_
   rw[f];rfl
theorem Uu:∀l:List l_,Af (l.map toT)=XE l
 |[]=>rfl
 | x::l=>by
  show(match vf (x.map D.str),Af (l.map toT) with|some ks,XE t=>XE (ks::t)|_,_=>YP)=_;rw[strL_map,Uu l]
def few(h:DLC.Held α)(w:List α)(m:Nat):Int:=Be ((DLC.cov m h w).map qx)
def Ab(h:DLC.Held α)(w:List α)(m:Nat):List l_:=Bd (((DLC.cov m h w).filter λc=>qx c==few h w m).map rA)
theorem Fv:∀(l:List Int)(x:Int),l.foldl min x=x\/l.foldl min x∈l
 |[],x=>.inl rfl
 | y::l,x=>by
  rcases Fv l (min x y) with e|e
  ·rw[show(List.foldl min x (y::l))=l.foldl min (min x y) from rfl,e];rcases Int.le_total x y with g|g
   ·left;lia
   ·right;rw[show min x y=y by lia];exact av
  ·right;exact al _ e
def zig{h:DLC.Held α}{w:List α}{m:Nat}(a:DLC.cov m h w≠[]):∃c∈DLC.cov m h w,qx c=few h w m:=by
 unfold few;cases b:DLC.cov m h w with
 |nil=>exact absurd b a
 | cons c l=>
  rcases Fv (l.map qx) (qx c) with e|e
  ·exact⟨c,av,e.symm⟩
  ·obtain⟨d,f,q⟩:=az.mp e;exact⟨d,al _ f,q⟩
def o9{h:DLC.Held α}{w:List α}{m:Nat}{x:l_}:x∈Ab h w m ↔ ∃c∈DLC.cov m h w,qx c=few h w m/\rA c=x:=by
 unfold Ab;rw[(Mu _).mem_iff,az];constructor
 ·rintro⟨c,d,rfl⟩;obtain⟨a,b⟩:=bd.mp d;exact⟨c,a,by simpa using b,rfl⟩
 ·rintro⟨c,a,b,rfl⟩;exact⟨c,bd.mpr ⟨a,by simpa using b⟩,rfl⟩
def zhC{h:DLC.Held α}{w:List α}{m:Nat}(a:DLC.cov m h w≠[]):Ab h w m≠[]:=by obtain⟨c,b,e⟩:=zig a;have:=o9.mpr ⟨c,b,e,rfl⟩;intro q;rw[q] at this;cases this
include J in
theorem YQ(z:Sz h w)(u:∀t∈DLC.keys h,t∈oN)(v:DLC.cov 18 h w≠[]):∃m,m<=18/\DLC.Lm h w m/\∀(Pt:Nat)(O:Ow),Pl O->FR Pt [ux inj h,.lst (w.map inj)] O=.ok (.lst ((Ab h w m).map toT)) O:=by
 obtain⟨m,_,y,l,A,B⟩:=Vl J z v 20 0 'o' 'o';refine⟨m,y,⟨z.nd,l,λj C=>A j 'o' C⟩,λPt O n=>?_⟩;show fin (V7 Pt [XE (ux inj h),qO (w.map inj),YP,YP,YP,XE (.tab Pt)] O)=_;have p:(DLC.cov m h w).length<=262144:=aG (DLC.cov_pow m h w z.nd) (aG (de 's' z.few) 's');have r:∀c∈DLC.cov m h w,∀O,zL [toT c] O=.ok (.int (qx c)) O:=λc a O=>by
  obtain⟨s,e,b⟩:=DLC.cov_sound m z.nd a;exact R1 (λt f=>u t (b.1 t f)) 'o' O
 have E:pP Fb (a_ (qE Y2 1 (qy qC) (.one 6) [] [] (o_ 1 zL vK)) c_) (ur inj h w Pt m YP) O=.ok (.int (few h w m)) O:=by
  have g:=zC (o:=Y2) (ext:=1) (i:=6) (it0:=qy qC) (σ:=ur inj h w Pt m YP) (te:=o_ 1 zL vK) (vP rfl) 'o' (λ_=>rfl) (λc a=>rq (pR rfl) (r c a O));refine tU (pR g) ?_;show(match yg ((DLC.cov m h w).map λc=>D.int (qx c)) with|some ns=>(if ns≠[] then R.ok (D.int (Be ns)) O else .bad)|none=>.bad)=_;have:((DLC.cov m h w).map λc=>D.int (qx c))=((DLC.cov m h w).map qx).map D.int:=by rw[bB];rfl
  rw[this,FE];show(if (DLC.cov m h w).map qx≠[] then R.ok (D.int (Be ((DLC.cov m h w).map qx))) O else .bad)=_;rw[JU (by intro q;exact l (jt.mp q))];rfl
 have F:pP E8 (a_ (qE Y2 1 (qy qC) (.one 6) [(qd (g_ (pU rV) (o_ 1 zL vK) q9))] [] (pP yk (a_ (pP B4 vK) c_))) c_) (ur inj h w Pt m (pM (few h w m))) O=.ok (.lst ((Ab h w m).map toT)) O:=by
  have g:=yh (o:=Y2) (ext:=1) (i:=6) (it0:=qy qC) (σ:=ur inj h w Pt m (pM (few h w m))) (t:=qd (g_ (pU rV) (o_ 1 zL vK) q9)) (te:=pP yk (a_ (pP B4 vK) c_)) (vP rfl) 'o' (λ_=>rfl)
   (λc a=>sH ((rp (rq (pR rfl) (r c a O)) rfl).trans (Xq O _ _)))
   (λc a _=>by
    obtain⟨s,e,b⟩:=DLC.cov_sound m z.nd a;have G:pP B4 vK (ur inj h w Pt m (pM (few h w m))++[XE (toT c)]) O=.ok (.lst ((rA c).map .str)) O:=by
     refine tU (pR rfl) ?_;show(match vf (c.map D.str) with|some ss=>(if ss.Nodup/\ss.length<=1000 then R.ok (D.lst ((rA ss).map .str)) O else .bad)|none=>.bad)=_;rw[strL_map];show(if c.Nodup/\c.length<=1000 then R.ok (D.lst ((rA c).map .str)) O else .bad)=_;rw[JU ⟨e,by lia⟩]
    exact tU (pR G) rfl)
  refine tU (pR g) ?_;have H:(((DLC.cov m h w).filter λc=>qx c==few h w m).map λc=>toT (rA c))=(((DLC.cov m h w).filter λc=>qx c==few h w m).map rA).map toT:=by rw[bB];rfl
  show(match Af (((DLC.cov m h w).filter λc=>qx c==few h w m).map λc=>toT (rA c)) with|some rE=>(if (2<=rE.length->(rE.all λd=>!d.isEmpty)=Y1)/\rE.length<=4000000 then R.ok (D.lst ((Bd rE).map DL.toT)) O else .bad)|none=>.bad)=_;rw[H,Uu];have I:(((DLC.cov m h w).filter λc=>qx c==few h w m).map rA).length<=4000000:=by
   rw[aD];have:=bD (λc=>qx c==few h w m) (DLC.cov m h w);lia
  have k:2<=(((DLC.cov m h w).filter λc=>qx c==few h w m).map rA).length->((((DLC.cov m h w).filter λc=>qx c==few h w m).map rA).all λd=>!d.isEmpty)=Y1:=by
   intro K;cases w with
   | nil=>
    exfalso;rw[aD] at K;have N:=bD (λc=>qx c==few h ([]:List α) m) (DLC.cov m h []);have P:(DLC.cov m h ([]:List α)).length=1:=by unfold DLC.cov;rfl
    lia
   | cons x w=>
    rw[ay];intro d L;obtain⟨c,a,rfl⟩:=az.mp L;have a:=(bd.mp a).1;obtain⟨s,e,b⟩:=DLC.cov_sound m z.nd a;obtain⟨t,f,_⟩:=b.2 x av;have:=(Br _).mpr f;cases M:rA c with
    |nil=>rw[M] at this;cases this
    |cons _ _=>rfl
  show(if _/\_ then R.ok (D.lst ((Bd (((DLC.cov m h w).filter λc=>qx c==few h w m).map rA)).map DL.toT)) O else .bad)=_;rw[JU ⟨k,I⟩];rfl
 refine xO (sI rfl (sI (Q0 J z (m:=0) 'o' n) (vQ ?_ (sI E ?_))))
 ·exact B Pt O n
 ·exact tI F
end
def L9(n:Sq O x xs kd)(o:Sq O y ys kd)(s:kd = "list" \/ kd = "tuple")(G:xs.length=ys.length)(X:ys.length<10000)(H:∀(i:Nat)(x y:D),xs[i]?=XE x->ys[i]?=XE y->AI k [x,y] O=.ok (.bl Y1) O):AI (k+1) [x,y] O=.ok (.bl Y1) O:=by
 obtain⟨c,I,J,K⟩:=n.zk;obtain⟨j,L,M,N⟩:=o.zk;have A:=n.kind;have t:=o.kind;have f:HQ (a_ j_ (a_ m_ c_)) [XE x,XE y] O=.ok (.zip c j) O:=by
  show(match zq x,zq y with|some p,XE q=>R.ok (Src.zip p q) O|_,_=>R.bad)=_;rw[I,L]
 have u:∀i,(Src.zip c j).get O i=((xs.zip ys).map λq=>D.tup [q.1,q.2])[i]?:=by
  intro i;show(match c.get O i,j.get O i with|some x,XE y=>XE (D.tup [x,y])|_,_=>YP)=_;rw[J,M,bC];cases l:xs[i]? with
  | none=>
   have:(xs.zip ys)[i]?=YP:=by
    rw[bg] at l ⊢;rw[ic];lia
   rw[this];rfl
  | some a=>
   have f:=(ak.mp l).1;have h:ys[i]?=XE ys[i]:=ao 'o';have:(xs.zip ys)[i]?=XE (a,ys[i]):=ki.mpr ⟨l,h⟩;rw[this,h];rfl
 have v:(Src.zip c j).size O=((xs.zip ys).map λq=>D.tup [q.1,q.2]).length:=by
  show min (c.size O) (j.size O)=_;rw[K,N,aD,ic]
 have B:=zdT (ext:=2) (g:=.two 2 3) (ts:=[]) (te:=o_ 2 (AI k) (a_ qk (a_ qC c_))) (p:=λ_=>Y1) (e:=λ_=>.bl Y1) (τ:=λd=>match d with|.tup [a,b]=>[XE x,XE y,XE a,XE b]|_=>[]) f u v (by rw[aD,ic];lia)
  (λd m=>by obtain⟨q,_,rfl⟩:=az.mp m;rfl) (λd m=>rfl) (λd m _=>by
   obtain⟨q,P,rfl⟩:=az.mp m;obtain⟨i,f,e⟩:=cE.mp P;have e:(xs.zip ys)[i]?=XE (q.1,q.2):=by rw[ao f,e]
   obtain⟨l,h⟩:=ki.mp e;exact(yj (rm rfl rfl) rfl).trans (H i q.1 q.2 l h)) Y2
 have h:((((xs.zip ys).map λq=>D.tup [q.1,q.2]).filter λ_=>Y1).map λ_=>D.bl Y1)=((xs.zip ys).map λ_=>Y1).map D.bl:=by rw[MM,bB,bB];rfl
 rw[h] at B;have Q:rl (D1 "tuple" "list" m_) [XE x,XE y] O=.ok Y1 O:=by
  show rl (λ_ O=>if (sY y == "function")=Y1 then .bad else R.ok (D.bl (uY (sY y) "tuple" || uY (sY y) "list")) O) [XE x,XE y] O=_;rw[t];rcases s with rfl|rfl<;>rfl
 have C:∀z:D,sY z=kd->∀i,([XE x,XE y]:Sg)[i]?=XE (XE z)->r9 "tuple" (qr i) [XE x,XE y] O=.ok (.bl (uY kd "tuple")) O:=λz w i f=>by
  show(((match ([XE x,XE y]:Sg)[i]? with|some (XE d)=>R.ok d O|_=>R.bad):R D).bnd _)=_;rw[f];show(if (sY z == "function")=Y1 then R.bad else R.ok (D.bl (uY (sY z) "tuple")) O)=_;rw[w];rcases s with rfl|rfl<;>rfl
 have E:∀z:D,sY z=kd->∀i,([XE x,XE y]:Sg)[i]?=XE (XE z)->r9 "list" (qr i) [XE x,XE y] O=.ok (.bl (uY kd "list")) O:=λz w i f=>by
  show(((match ([XE x,XE y]:Sg)[i]? with|some (XE d)=>R.ok d O|_=>R.bad):R D).bnd _)=_;rw[f];show(if (sY z == "function")=Y1 then R.bad else R.ok (D.bl (uY (sY z) "list")) O)=_;rw[w];rcases s with rfl|rfl<;>rfl
 have F:∀b:Bool,pU rB O (.bl b) (.bl b)=.ok (.bl Y2) O:=λb=>by cases b<;>kernel_rfl
 have S:BU (qd (g_ (pU rB) (r9 "tuple" j_) (r9 "tuple" m_))) (qd (g_ (pU rB) (r9 "list" j_) (r9 "list" m_))) [XE x,XE y] O=.ok Y2 O:=by
  have T:qd (g_ (pU rB) (r9 "tuple" j_) (r9 "tuple" m_)) [XE x,XE y] O=.ok Y2 O:=sH ((rp (C x A 0 rfl) (C y t 1 rfl)).trans (F _));have U:qd (g_ (pU rB) (r9 "list" j_) (r9 "list" m_)) [XE x,XE y] O=.ok Y2 O:=sH ((rp (E x A 0 rfl) (E y t 1 rfl)).trans (F _));show((qd (g_ (pU rB) (r9 "tuple" j_) (r9 "tuple" m_)) [XE x,XE y] O).bnd _)=_;rw[T];exact U
 have V:qd (g_ (pU rB) (pP qu (a_ j_ c_)) (pP qu (a_ m_ c_))) [XE x,XE y] O=.ok Y2 O:=by
  refine sH ((rp ((xr (pR rfl)).trans n.ln) ((xr (pR rfl)).trans o.ln)).trans ?_);rw[G];show R.ok (D.bl (!((ys.length:Int)==(ys.length:Int)))) O=_;simp
 show fin (pL _ _ [XE x,XE y] O)=_;have W:∀(a:DS),pL (qT (rl (D1 "tuple" "list" m_)) a qS) (pT (zx (g_ (pU rV) j_ m_) (g_ (pU rV) (r9 "bool" j_) (r9 "bool" m_)))) [XE x,XE y] O=match a [XE x,XE y] O with|.nx σ' O'=>pT (zx (g_ (pU rV) j_ m_) (g_ (pU rV) (r9 "bool" j_) (r9 "bool" m_))) σ' O'|r=>r:=λa=>by
  show(match qT (rl (D1 "tuple" "list" m_)) a qS [XE x,XE y] O with|.nx σ' O'=>_|r=>r)=_;rw[ug Q,JU rfl]
 rw[W,tJ (σ':=[XE x,XE y]) (O1:=O) (by rw[ug S];rfl),tJ (σ':=[XE x,XE y]) (O1:=O) (by rw[ug V];rfl),tI ((xr (pR B)).trans (Ma O _))];show R.ok (D.bl _) O=_;congr 2;rw[mF];exact ay.mpr λ_ _=>rfl
def zdr(a:Fn n f)(r:zw O):fin (FW [qF f,YP,YP,YP,YP,YP] O)=.ok (.own O.length) (O++[(gr n f).map .str]):=by
 have o:=a.n1;have q:=a.n4;have v:=Mx a;have w:=Mq o q;let A:Option D:=qF f;let S:Option D:=qO ((tF n f).map .str);obtain⟨σ',h,m,b,c,d,rfl,rfl⟩:=Bo (i:=3) (it:=qy m_) (body:=Ih) (σ:=[A,S,qA O.length,YP,YP,YP]) (O0:=O++[[]]) (O:=O++[[]]) (l:=tF n f) (inj:=D.str) rfl
  (λj σ h=>∃b c d,σ=[A,S,qA O.length,b,c,d]/\h=O++[(((tF n f).take j).filter (Ah n f)).map D.str]) (λj t σ h g s=>by
   obtain⟨b,c,d,rfl,rfl⟩:=s;have u:((((tF n f).take j).filter (Ah n f)).map D.str).length<1000:=by
    have o:=bD (Ah n f) ((tF n f).take j);have y:=lX j (tF n f);rw[aD];lia
   refine⟨_,_,zft a (aO g) (k:=O.length) xt u,_,_,_,rfl,?_⟩;rw[Vy _ g];split
   ·rw[Ce,bQ];rfl
   ·rw[bP]) ⟨YP,YP,YP,rfl,by simp⟩
 rw[fo] at m;unfold Ih at m;show fin (FW [A,YP,YP,YP,YP,YP] O)=_;unfold FW;refine xO (sI (x:=.lst ((tF n f).map .str)) (O1:=O) ((yh (l:=Xj n) (inj:=D.str) (p:=uF f) (e:=D.str) (τ:=λt=>[A,YP,YP,sJ t,YP,YP]) (vP (rq (pR (rq (pR rfl) (z5i a O))) (z7p q r))) 'o' (λ_=>rfl) (λt g=>xN (rq (rm rfl rfl) (z8M a g O))) (λ_ _ _=>rfl)).trans rfl) (sI (x:=.own O.length) (O1:=O++[[]]) rfl (vQ (σ':=[A,S,qA O.length,b,c,d]) (O1:=O++[(gr n f).map .str]) ?_ (tI rfl))));exact m
def z97(b:Fn n f)(a:zw O):JM [.tup f] O=.ok (.lst ((gr n f).map .str)) O:=by
 show uC O.length (fin (FW [qF f,YP,YP,YP,YP,YP] O))=_;rw[zdr b a];refine Jr a _ ?_;unfold frz;dsimp only;rw[J5 (cw _),xt];dsimp only;rw[uQ λd c=>?_]
 ·rfl
 ·obtain⟨x,_,rfl⟩:=az.mp c;rfl
section
variable{n:Nat}(h1:1<=n)(h4:n<=4){ds:List D}(hd:∀d∈ds,KE d)(hl:ds.length<100)
include hd hl
include h1 h4
end
section
variable{n:Nat}{f:List D}(hf:Fn n f){l:l_}(ht:∀t∈l,t∈Xj n)(hlen:l.length<100)
include hf ht hlen
end
section
variable{n:Nat}{g:List D}(hg:Fn n g)
include hg
end
noncomputable def PB(cs:n_):List D:=[.str cs,.str (aw cs.length 45),.str cs.dropLast,.str (cs++[48]),.str (cs.map λc=>if c==48 then 50 else c),.non,.int 0,.tup [.str cs],.str [],.bl Y1]
def zne(a:1<=n)(b:n<=4)(h:cs∈Xj n):∀d∈PB cs,KE d:=λd e=>by
 have i:=tW a b h;have f:=FG a b h;unfold PB at e;simp only[ar,bU,or_false] at e;rcases e with rfl|rfl|rfl|rfl|rfl|rfl|rfl|rfl|rfl|rfl
 ·exact zf9 a b h
 ·exact .inl ⟨_,rfl,λc hc=>by rw[List.eq_of_mem_replicate hc];decide,by rw[i4];lia⟩
 ·exact .inl ⟨_,rfl,λc hc=>Io (f c ((List.dropLast_sublist cs).subset hc)),by rw[List.length_dropLast];lia⟩
 ·refine .inl ⟨_,rfl,λc hc=>?_,by simp;lia⟩;rcases aQ.mp hc with hc|hc
  ·exact Io (f c hc)
  ·have:c=48:=⇑hc
   rw[this];decide
 ·refine .inl ⟨_,rfl,λc hc=>?_,by simp;lia⟩;obtain⟨x,g,rfl⟩:=az.mp hc;split
  ·decide
  ·exact Io (f x g)
 ·exact .inr (.inr (.inl rfl))
 ·exact .inr (.inr (.inr (.inl rfl)))
 ·exact .inr (.inl ⟨_,rfl⟩)
 ·exact .inl ⟨[],rfl,λc hc=>(by cases hc),by simp⟩
 ·exact .inr (.inr (.inr (.inr rfl)))
section
variable{n:Nat}(h1:1<=n)(h4:n<=4){l:l_}(qm:∀t∈l,t∈Xj n)(hlen:l.length<=54)
include h1 h4 qm hlen
end
def rM(r:n_):D:=.tup (rn r)
def zjk(O:Ow)(r:n_)(z:Nat):qi O (rM (r++[z])) (.int (-1))=.ok (.int (z:Nat)) O:=by
 have a:(rn (r++[z])).length=r.length+1:=by unfold rn;rw[aD,aA];rfl
 have e:L2.atI (rn (r++[z])) (-1)=pM (z:Nat):=by
  unfold L2.atI L2.ixN;rw[a,J5 's',JU 'o'];show(rn (r++[z]))[_]?=_;have:((-1:Int)+((r.length+1:Nat):Int)).toNat=r.length:=by lia
  rw[this];unfold rn;rw[bQ,a8 (by rw[aD];exact aB _),aD,jj];rfl
 show(match L2.atI (rn (r++[z])) (-1) with|some d=>R.ok d O|none=>.bad)=_;rw[e]
def zji(O:Ow)(r:n_):pU rB O (rM r) (.tup [])=.ok (.bl (!r.isEmpty)) O:=by
 refine(La O (x:=rM r) (y:=.tup []) (Ft 7 r) rfl (b:=r.isEmpty) ?_).2;cases r with
 |nil=>exact⟨λ_=>rfl,λ_=>rfl⟩
 |cons x l=>exact⟨λh=>(by cases h),λh=>(by cases h)⟩
def ziy(O:Ow)(k:Nat)(h:r.length<=1000):zD O (rM r) (.tup [.int (k:Nat)])=.ok (rM (r++[k])) O:=by
 cases r with
 |nil=>rfl
 | cons x l=>
  show(if rn (x::l)≠[]/\(rn (x::l)).length+[D.int (k:Nat)].length<=4000000 then R.ok (D.tup (rn (x::l)++[.int (k:Nat)])) O else .bad)=_;rw[JU ⟨by unfold rn;simp,by unfold rn;rw[aD];simp only[aT,dE] at *;lia⟩];unfold rM rn;rw[bQ];rfl
def zfT(h:many<=1000)(a:r.length<=1000)(j:DLB.nxt r<=many)(b:O[k]?=XE Xu)(c:Xu.length+(DLB.ext many r).length<=4000000):
  DX [pM (many:Nat),x1,x2,x3,qA k,XE (rM r),x6] O=.nx [pM (many:Nat),x1,x2,x3,qA k,XE (rM r),pM ((DLB.nxt r:Nat))] (O.set k (Xu++(DLB.ext many r).map rM)):=by
 have d:qT (qd (g_ (pU rB) vM (rL c_))) (p_ 6 (g_ zD (g_ qi vM (HH rj)) rj)) qS [pM (many:Nat),x1,x2,x3,qA k,XE (rM r),pM 0] O=.nx [pM (many:Nat),x1,x2,x3,qA k,XE (rM r),pM ((DLB.nxt r:Nat))] O:=by
  rw[ug (sH (rh rfl rfl (zji O r)))];rcases fG r with rfl|⟨f,z,rfl⟩
  ·rfl
  ·rw[fH,JU 'd',DLB.nxt_app];refine(AD (rh (y:=.int 1) (O2:=O) (rh rfl rfl (zjk O f z)) rfl (show zD O (.int (z:Nat)) (.int 1)=.ok (.int ((z:Nat)+1)) O from rfl))).trans ?_;rfl
 unfold DX;refine sI (O1:=O) (x:=.int 0) rfl (vQ d ?_);have g:qE Y2 1 (Ic (a_ (qr 6) (a_ j_ c_))) (.one 7) [] [] (g_ zD vM (rL BW)) [pM (many:Nat),x1,x2,x3,qA k,XE (rM r),pM ((DLB.nxt r:Nat))] O=.ok (.lst ((DLB.ext many r).map rM)) O:=by
  refine(zC (o:=Y2) (ext:=1) (i:=7) (l:=aW (many-DLB.nxt r)) (inj:=λ(i:Nat)=>D.int ((DLB.nxt r+i:Nat):Int)) (e:=λi=>rM (r++[DLB.nxt r+i])) (τ:=λ(i:Nat)=>[pM (many:Nat),x1,x2,x3,qA k,XE (rM r),pM ((DLB.nxt r:Nat)),pM ((DLB.nxt r+i:Nat):Int)]) ?_ (by rw[cS];lia) (λ_=>rfl) (λi _=>rh rfl (Ay (pR rfl) (by show 1<=4000000;decide)) (ziy O _ a))).trans ?_
  ·show(if _ then R.ok (Fi ((DLB.nxt r:Nat):Int) (many:Nat)) O else .bad)=_;rw[JU ⟨by lia,by lia,by lia,by lia⟩];unfold Fi;have:(((many:Nat):Int)-((DLB.nxt r:Nat):Int)).toNat=many-DLB.nxt r:=by lia
   rw[this];congr 3
  ·unfold DLB.ext;rw[bB];rfl
 exact T7 rfl g rfl b (by rw[aD];exact c)
def zjq(d:s<=1000)(h:r∈DLB.pks many s):r.length<=1000/\DLB.nxt r<=many:=by
 obtain⟨a,b,c⟩:=DLB.mem_pks.mp h;refine⟨by lia,?_⟩;rcases fG r with rfl|⟨e,z,rfl⟩
 ·exact bX _
 ·rw[fH] at c ⊢;rw[DLB.nxt_app];exact c z 'd'
def Uh(n:Nat)(r:n_):xK n (rM r)=Y1:=ay.mpr λd a=>by
 obtain⟨x,_,rfl⟩:=az.mp a;rfl
def zgd{b:Nat}(H:b<=18){s:Nat}(S:s<=100){O:Ow}(I:zw O):Jx [.int (b:Nat),.int (s:Nat)] O=.ok (.lst ((DLB.pks b s).map rM)) O:=by
 have w:∀i,(DLB.pks b i).length<=262144:=λi=>aG (DLB.pks_few b i) (aG (de 's' H) 's');let N:Option D:=pM (b:Nat);let B:Option D:=pM (s:Nat);let F:Ow->D->List D->Prop:=λX d n=>d=.lst n \/ ∃k,d=.own (O.length+k)/\X[k]?=XE n;have y:∀{X d n},F X d n->r_ (O++X) d=XE n:=λ{X d n}h=>by
  rcases h with rfl|⟨k,rfl,h⟩
  ·rfl
  ·show(O++X)[O.length+k]?=_;rw[a8 'o',cj];exact h
 show uC O.length (fin (MR [N,B,YP,YP,YP,YP,YP] O))=_;unfold MR;rw[tJ (σ':=[N,B,XE (.lst [rM []]),YP,YP,YP,YP]) (O1:=O) (by rfl)];obtain⟨σ',m,r,d,z,u,e,c,X,rfl,rfl,f⟩:=Bo (i:=3) (O:=O) (l:=aW s) (body:=(pL (p_ 4 (vB c_)) (pL (t6 (qy qk) (.one 5) DX) (p_ 2 q9))))
  (zJ (σ:=[N,B,XE (.lst [rM []]),YP,YP,YP,YP]) (O:=O) (pR (t:=qr 1) rfl) 'o') (λi σ m=>∃d z u e c X,σ=[N,B,XE d,z,u,e,c]/\m=O++X/\F X d ((DLB.pks b i).map rM)) (λi a σ m J o=>by
   obtain⟨d,z,u,e,c,X,rfl,rfl,f⟩:=o;have T:i<s:=by
    have:=(ak.mp J).1;simpa using this
   show ∃σ' m,pL _ _ [N,B,XE d,pM a,u,e,c] (O++X)=_/\_;rw[tJ (σ':=[N,B,XE d,pM a,XE (.own (O++X).length),e,c]) (O1:=O++X++[[]]) (by rfl)];obtain⟨K,A,U,L⟩:=Ej (Ee (X:=[[]]) (y f));obtain⟨σ',m,r,M,P,rfl,rfl⟩:=RV (α:=n_) (g:=.one 5) (l:=DLB.pks b i) (inj:=rM) (body:=DX)
    (Ru (σ:=[N,B,XE d,pM a,XE (.own (O++X).length),e,c]) (O:=O++X++[[]]) (t:=qr 2) rfl A) (by rw[L];simp)
    (λj σ m=>∃e c,σ=[N,B,XE d,pM a,XE (.own (O++X).length),e,c]/\m=O++X++[(((DLB.pks b i).take j).flatMap (DLB.ext b)).map rM]) (λj t σ m v o=>by
     obtain⟨e,c,rfl,rfl⟩:=o;obtain⟨Q,p,C,R⟩:=Ej (Ee (X:=[(((DLB.pks b i).take j).flatMap (DLB.ext b)).map rM]) (y f));rw[A] at p;cases p;have G:=zjq 'o' (aO v);have E:=z7u (g:=DLB.ext b) (DLB.pks b i) (j+1);have V:((DLB.pks b i).flatMap (DLB.ext b)).length<=262144:=w (i+1);rw[U2 v,aA] at E;refine⟨by rw[C,bC,v];rfl,[N,B,XE d,pM a,XE (.own (O++X).length),XE (rM t),c],_,_,rfl,zfT 'o' G.1 G.2 xt (by rw[aD];lia),_,_,rfl,?_⟩;rw[Ce,<- bQ,U2 v]) (λσ m o=>by
     obtain⟨e,c,rfl,rfl⟩:=o;obtain⟨Q,p,C,R⟩:=Ej (Ee (X:=[(((DLB.pks b i).take (DLB.pks b i).length).flatMap (DLB.ext b)).map rM]) (y f));rw[A] at p;cases p;rw[C];simp) ⟨e,c,rfl,by simp⟩
   rw[tJ r];refine⟨_,_,rfl,.own (O++X).length,_,_,_,_,X++[(((DLB.pks b i).take (DLB.pks b i).length).flatMap (DLB.ext b)).map rM],rfl,by simp,.inr ⟨X.length,by simp,?_⟩⟩;rw[xt,fo];rfl) ⟨_,_,_,_,_,[],rfl,by simp,.inl rfl⟩
 unfold DX at r;rw[tJ r,tI (x:=d) rfl];rw[cS] at f;show uC O.length (.ok d (O++X))=_;refine Jr I X ?_;rcases f with rfl|⟨k,rfl,h⟩
 ·show(qe (frz (O++X) O.length 7) ((DLB.pks b s).map rM)).map D.lst=_;rw[uQ λd f=>by obtain⟨q,_,rfl⟩:=az.mp f;exact AF (Uh _ _)];rfl
 ·unfold frz;dsimp only;rw[J5 'o',a8 'o',cj,h];dsimp only;rw[uQ λd f=>by obtain⟨q,_,rfl⟩:=az.mp f;exact AF (Uh _ _)];rfl
def Zd(a b:Nat):iK (a:Int) (b:Int)=((a ||| b:Nat):Int):=by
 have d:decide ((0:Int) <= -(a:Int)-1)=Y2:=decide_eq_false 'o';have e:decide ((0:Int) <= -(b:Int)-1)=Y2:=decide_eq_false 'o';show -(match decide ((0:Int) <= -(a:Int)-1),decide ((0:Int) <= -(b:Int)-1) with|true,Y1=>_|true,Y2=>_|false,Y1=>_|false,Y2=>-((((-(-(a:Int)-1)-1).toNat ||| (-(-(b:Int)-1)-1).toNat:Nat)):Int)-1)-1=_;rw[d,e];have f:(-(-(a:Int)-1)-1).toNat=a:=by lia
 have g:(-(-(b:Int)-1)-1).toNat=b:=by lia
 dsimp only;rw[f,g];show -(-((a ||| b:Nat):Int)-1)-1=_;generalize a ||| b=c;lia
def orF(O:Ow)(a b:Nat):fI Ku O (.int (a:Nat)) (.int (b:Nat))=.ok (.int ((a ||| b:Nat))) O:=by show R.ok (D.int (iK (a:Int) (b:Int))) O=_;rw[Zd]
def Pe(O:Ow)(h:n<=1000000):fI xl O (.int 1) (.int (n:Nat))=.ok (.int ((2 ^ n:Nat))) O:=by show(match xl 1 (n:Nat) with|some d=>R.ok d O|none=>.bad)=_;unfold xl;rw[JU ⟨by lia,by lia,by decide⟩];simp
def Ul(O:Ow)(l:n_):qu O [.lst (rn l)]=.ok (.int (l.length:Nat)) O:=(Sw (xs:=rn l) rfl).trans (by unfold rn;rw[aD])
def Sv{α:Type}(O:Ow)(g:α->D)(l:List α):qu O [.lst (l.map g)]=.ok (.int (l.length:Nat)) O:=(Sw (xs:=l.map g) rfl).trans (by rw[aD])
def Lu{α:Type}(O:Ow)(g:α->D)(l:List α)(h:i<l.length):qi O (.lst (l.map g)) (.int (i:Nat))=.ok (g l[i]) O:=(IP (by rw[aD];exact h)).trans (by rw[iZ])
def zim{α:Type}{it:DI}{i:Nat}{body:DS}{σ:Sg}{O0 O:Ow}{l:List α}{inj:α->D}{d:D}{k:Nat}(J:Ow->Prop)(q:it σ O0=.ok (.val (l.map inj)) O)(u:k<l.length)(I:Nat->Sg->Ow->Prop)(h:∀(j:Nat)a σ O,j<k->l[j]?=XE a->I j σ O->∃σ' b,body (σ.set i (XE (inj a))) O=.nx σ' b/\I (j+1) σ' b)(r:∀a σ O,l[k]?=XE a->I k σ O->∃b,body (σ.set i (XE (inj a))) O=.rt d b/\J b)(h0:I 0 σ O):
  ∃b,t6 it (.one i) body σ O0=.rt d b/\J b:=by
 have c:∀(f j:Nat)(σ:Sg)(O:Ow),I j σ O->j<=k->l.length<=j+f->∃b,uN (.val (l.map inj)) (λd σ O=>match Tg.put (.one i) d σ with|some σ'=>body σ' O|none=>.bad) f j σ O=.rt d b/\J b:=by
  intro f
  induction f with
  |zero=>intro j σ O _ s t;lia
  | succ f ih=>
   intro j σ O p s t;have n:j<l.length:=by lia
   have e:(Src.val (l.map inj)).get O j=XE (inj l[j]):=by
    show(l.map inj)[j]?=_;rw[bC,ao n];rfl
   unfold uN;rw[e];dsimp only;rw[show(Tg.one i).put (inj l[j]) σ=XE (σ.set i (XE (inj l[j]))) from rfl];dsimp only;by_cases o:j=k
   ·subst o;obtain⟨b,g,m⟩:=r l[j] σ O (ao n) p;rw[g];exact⟨b,rfl,m⟩
   ·obtain⟨σ',b,g,m⟩:=h j l[j] σ O 'o' (ao n) p;rw[g];exact ih (j+1) σ' b m 'o' 'o'
 obtain⟨b,g,m⟩:=c (l.map inj).length 0 σ O h0 (bX _) 'd';refine⟨b,?_,m⟩;show((it σ O0).bnS _)=_;rw[q];exact g
def YA(h:t σ O=.ok (.tup [x,y]) O1):EZ (.two i j) t σ O=.nx ((σ.set i (XE x)).set j (XE y)) O1:=by show((t σ O).bnS _)=_;rw[h];rfl
def ziD(O:Ow)(x:Option D):(oN.map λcs=>Nb [x,sJ cs] O)=oN.map λcs=>R.ok (D.int (yO cs)) O:=by kernel_rfl
def Rm(a:qy j_ [XE x] O=.ok (.val (l.map D.str)) O)(d:l.length<=1000)(b:∀t∈l,t∈oN):zK [x] O=.ok (.int (qx l)) O:=by
 have c:=zC (o:=Y2) (ext:=1) (i:=1) (it0:=qy j_) (σ:=[XE x]) (O0:=O) (O:=O) (l:=l) (inj:=D.str) (te:=Nb) (e:=λt=>D.int (yO t)) (τ:=λt=>[XE x,sJ t]) a 'o' (λ_=>rfl) (λt h=>dj.mp (ziD O (XE x)) t (b t h));show fin (JJ [XE x] O)=_;unfold JJ;refine yJ (tU (pR c) ?_);show(match yg (l.map λt=>D.int (yO t)) with|some ns=>R.ok (D.int ns.sum) O|none=>.bad)=_;have:(l.map λt=>D.int (yO t))=(l.map yO).map D.int:=by rw[bB];rfl
 rw[this,FE];rfl
def sub(S:l_)(r:n_):l_:=r.map λk=>S.getD k []
def zeN(h:O[k]?=XE ds):qJ O 8 (.own k)=qJ O 8 (.lst ds):=by show(match O[k]? with|some ds=>(qe (qJ O 7) ds).map eE|none=>YP)=_;rw[h];rfl
def At.set(h:At O)(m:Nat)(s:Int)(b:Bool):At (O.set m [.int s,.bl b]):=λc e d a=>by
 rcases ig e with q|q
 ·exact h c q d a
 ·subst q;simp only[ar,bU,or_false] at a;rcases a with rfl|rfl<;>rfl
def At.app(h:At O)(s:Int)(b:Bool):At (O++[[.int s,.bl b]]):=λc e d a=>by
 rcases aQ.mp e with q|q
 ·exact h c q d a
 ·have:c=[.int s,.bl b]:=⇑q
  subst this;simp only[ar,bU,or_false] at a;rcases a with rfl|rfl<;>rfl
theorem Vp{α:Type}[DecidableEq α]:∀{a b:List α},a.Nodup->(∀t∈a,t∈b)->a.length<=b.length
 |[],_,_,_=>bX _
 | x::a,b,n,h=>by
  have c:=h x av;have d:=bA.mp n;have:=Vp (b:=b.erase x) d.2 λt f=>(lV (λe:t=x=>d.1 (e▸f))).mpr (h t (al _ f));rw[kI c] at this;have:=List.length_pos_of_mem c;rw[aT];lia
def zbe(S:l_)(p:n_->Bool):sub S ((aW S.length).filter λk=>p (S.getD k []))=S.filter p:=by
 have e:((aW S.length).map λk=>S.getD k [])=S:=by
  refine kH 'd' λi b a=>?_;rw[iZ,jS,aH,ao a];rfl
 unfold sub
 conv=>rhs;rw[<- e]
 rw[List.filter_map];rfl
def zgg(O:Ow):(oN.map λcs=>AI 2 [.str cs,.str cs] O)=oN.map λ_=>R.ok (D.bl Y1) O:=by kernel_rfl
def ZS{l:l_}(c:∀t∈l,t∈oN)(d:l.length<=1000)(O:Ow):El [.tup (l.map .str),.tup (l.map .str)] O=.ok (.bl Y1) O:=
 L9 (k:=2) (D4 O _) (D4 O _) (.inr rfl) rfl (by rw[aD];lia) λi x y a b=>by
  rw[a] at b;cases b;rw[bC] at a;cases e:l[i]? with
  |none=>rw[e] at a;cases a
  | some t=>
   rw[e] at a;cases a;exact dj.mp (zgg O) t (c t (aO e))
def Ez(f:List D):List D:=f.map E1
def ziX(h:xi d):xi (E1 d):=by
 rcases h with rfl|rfl|rfl
 ·exact .inr (.inl rfl)
 ·exact .inl rfl
 ·exact .inr (.inr rfl)
def QU(a:Fn n f):Fn n (Ez f):=⟨a.n1,a.n4,by unfold Ez;rw[aD];exact a.len,λd b=>by
 obtain⟨x,c,rfl⟩:=az.mp b;exact ziX (a.ans x c)⟩
def zje(O:Ow)(h:xi d):M0 [d] O=.ok (E1 d) O:=by rcases h with rfl|rfl|rfl<;>rfl
def uq(a:tA σ O=.ok ds O1)(b:F ds O1=.ok d O2)(c:ds.length=n:=by rfl):o_ n (rz F) tA σ O=.ok d O2:=rq a (Um b) c
def TJ(a:Fn n f)(O:Ow):FV [.tup f] O=.ok .non O:=by show fin (JK [qF f] O)=_;unfold JK;rw[ug (b:=Y2) (O1:=O) (Bv (b:=Y1) (xN (uq (pR rfl) (z5M a O))))];rfl
def z8w(a:Fn n f)(O:Ow):FH [.tup f] O=.ok (.tup (Ez f)) O:=by have c:=By a.n4;have g:=a.len;show fin (Mz [qF f] O)=_;unfold Mz;exact xO (Sy (rq (pR rfl) (TJ a O)) (tI (tU (pR ((zC (o:=Y2) (l:=f) (inj:=λd=>d) (e:=E1) (τ:=λd=>[qF f,XE d]) (by rw[List.map_id'];exact Cc rfl) 'o' (λ_=>rfl) (λd b=>uq (pR rfl) (zje O (a.ans d b)))).trans rfl)) rfl)))
def z5c(a:Fn n f)(O:Ow):M5 [.tup f] O=.ok (.tup (Ez f)) O:=by have c:=By a.n4;have g:=a.len;show fin (JL [qF f] O)=_;unfold JL;refine yJ (tU (pR ((zC (l:=f) (inj:=λd=>d) (e:=E1) (τ:=λd=>[qF f,XE d]) (by rw[List.map_id'];exact Cc rfl) 'o' (λ_=>rfl) (λd b=>?_)).trans rfl)) rfl);rcases a.ans d b with rfl|rfl|rfl<;>rfl
def TM(O:Ow):E3 Ca 4 1 D5 (.exc 0 O)=.ok (.lst [.int 0]) O:=by kernel_rfl
noncomputable def Nf:List D:=[.non,.tup [],.tup [.int 0],.tup [.int 0,.int 1,.int 0],.tup [.int 0,.int 2],.tup [.int 0,.bl Y1],.lst [.int 0,.int 1],.tup (aw 32 (.int 0)),.str [48,49],.tup [.str [48],.str [49]],.dct,.int 1,.tup [.int 0,.int 1,.non]]
def ziY(O:Ow):(Nf.map λd=>FH [d] O)=Nf.map λ_=>R.exc 0 O:=by kernel_rfl
def S8(n:Nat)(l:List Int):(l.map D.int).all (pl n)=Y1:=ay.mpr λd a=>by
 obtain⟨i,_,rfl⟩:=az.mp a;cases n<;>rfl
def Pc(O:Ow)(i:Int):pU rB O (.lst [.int i]) (.lst [.int i])=.ok (.bl Y2) O:=(Fh O (S8 _ [i]) (S8 _ [i]) (b:=Y1) ⟨λ_=>rfl,λ_=>rfl⟩).2
def QT(a:σ[iT]?=XE (XE (.tab Pt)))(h:tE σ O=r)(b:E3 Ca 4 1 D5 r=z):Bq Pt iT Ca 4 1 tE D5 σ O=z:=by unfold Bq;rw[a];dsimp only;rw[JU rfl,h];exact b
def z53(c:oX O m s b):∃z s',M4 [.own m] O=.ok z (O.set m [.int s',.bl b])/\oX (O.set m [.int s',.bl b]) m s' b/\z∈Nf:=by obtain⟨r,d,e,f,g⟩:=Fs c (k:=13) 's' 's';have a:r<Nf.length:=e;refine⟨Nf[r],d,?_,g,bO a⟩;show fin (M3 [qA m,YP] O)=_;unfold M3;exact xO (sI (x:=.lst Nf) (O1:=O) rfl (tI (rh (x:=.lst Nf) rfl (rq (rm rfl rfl) f) (IP a))))
def iN(p:Nat):D:=.int (p:Nat)
def Yk:Inj iN:=⟨λO x l=>ziB O x l,λO x l=>zeD O x l⟩
def uI(n:Nat)(f:List D):DLC.Held Nat:=(gr n f).map λt=>(t,rf t)
def Fu(n:Nat)(f:List D):DLC.keys (uI n f)=gr n f:=by unfold DLC.keys uI;rw[bB];exact List.map_id _
def LC{l:l_}(h:l.Pairwise (· < ·)):l.Nodup:=h.imp λa e=>by subst e;exact absurd a (fq _)
def zk1{α:Type}[DecidableEq α]{h:DLC.Held α}{w:List α}{m:Nat}{c:l_}(e:c∈DLC.cov m h w):few h w m<=qx c:=by
 unfold few;cases f:DLC.cov m h w with
 |nil=>rw[f] at e;cases e
 | cons d l=>
  obtain⟨a,b⟩:=LR (l.map qx) (qx d);rw[f] at e;rcases ar.mp e with rfl|h
  ·exact a
  ·exact b _ (az.mpr ⟨c,h,rfl⟩)
def Mm{a b:l_}(h:a.Perm b):qx a=qx b:=by
 unfold qx
 induction h with
 |nil=>rfl
 |cons x _ ih=>simp only[bJ,iV,ih]
 |swap x y l=>simp only[bJ,iV];lia
 |trans _ _ h1 h2=>exact h1.trans h2
structure Cv(n:Nat)(f:List D)(S:l_):Prop where
 inn:∀t∈S,t∈gr n f
 all:∀p∈qV f,∃t∈S,p∈rf t
structure KG(n:Nat)(f:List D)(l:l_):Prop where
 srt:l.Pairwise (· < ·)
 cv:Cv n f l
 few:l.length<=18
 min:∀S:l_,S.Pairwise (· < ·)->Cv n f S->l.length<S.length\/(l.length=S.length/\sU (qx S,S) (qx l,l)=Y2)
section
variable{n:Nat}{f:List D}(hf:Fn n f)
include hf
theorem Ly:∀t∈gr n f,t∈oN:=λt a=>vS hf.n1 hf.n4 (S6 a)
theorem IA:(DLC.keys (uI n f)).Nodup:=by rw[Fu];exact LC (IG hf)
theorem P9(h:t∈gr n f):DLC.at_ (uI n f) t=rf t:=DLC.at_mem (IA hf) (kv:=(t,rf t)) (az.mpr ⟨t,h,rfl⟩)
theorem Zn(a:p∈qV f):∃t∈gr n f,p∈rf t:=by have:=zil hf;unfold NH at this;obtain⟨t,b,c⟩:=cC.mp (ay.mp this p a);exact⟨t,b,by simpa using c⟩
theorem IQ{S:l_}:DLC.Cov (uI n f) (qV f) S↔Cv n f S:=by
 constructor
 ·rintro⟨b,c⟩;have b:∀t∈S,t∈gr n f:=λt a=>by have:=b t a;rwa [Fu] at this
  refine⟨b,λp d=>?_⟩;obtain⟨t,a,q⟩:=c p d;rw[P9 hf (b t a)] at q;exact⟨t,a,q⟩
 ·rintro⟨b,c⟩;refine⟨λt a=>by rw[Fu];exact b t a,λp d=>?_⟩;obtain⟨t,a,q⟩:=c p d;exact⟨t,a,by rw[P9 hf (b t a)];exact q⟩
theorem Yt:DLC.cov 18 (uI n f) (qV f)≠[]:=by obtain⟨c,a,_⟩:=DLC.cov_some 18 (IA hf) ((IQ hf (S:=gr n f)).mpr ⟨λt b=>b,λp d=>Zn hf d⟩) (HS hf);intro e;rw[e] at a;cases a
theorem X5:Sz (uI n f) (qV f):=⟨IA hf,by unfold uI;rw[aD];exact HS hf,aG (Jn hf) 's'⟩
theorem z6r(O:Ow):JB [.tup f] O=.ok (.lst ((tF n f).map .str)) O:=by show fin (MI [qF f] O)=_;unfold MI;exact xO (Sy (rq (pR rfl) (TJ hf O)) (tI (yh (o:=Y2) (l:=Xj n) (inj:=D.str) (p:=uF f) (e:=D.str) (τ:=λt=>[qF f,sJ t]) (vP (uq (pR (uq (pR rfl) (z8J hf O))) (z7g hf.n1 hf.n4 O))) (by have:=Mq hf.n1 hf.n4;lia) (λ_=>rfl) (λt a=>xN (uq (rm rfl rfl) (Te hf a O))) (λ_ _ _=>rfl))))
theorem zd7(O:Ow):FJ [.tup f] O=.ok (.lst ((IC n f).map .str)) O:=by show fin (Js [qF f] O)=_;unfold Js;exact yJ (yh (o:=Y2) (l:=tF n f) (inj:=D.str) (p:=Kt f) (e:=D.str) (τ:=λt=>[qF f,sJ t]) (vP (rq (pR rfl) (z6r hf O))) (by have:=Mx hf;lia) (λ_=>rfl) (λt a=>Jo (xN (uq (rm rfl rfl) (z5K hf (UB a).1 O))) λ_=>xN (uq (rm rfl rfl) (zd2 hf (UB a).1 O))) (λ_ _ _=>rfl))
theorem zhD(O:Ow):FP [.tup f] O=.ok (ux iN (uI n f)) O:=by
 have c:=zd7 hf O;rw[UT hf] at c;have j:=HS hf;have d:=zga (ext:=1) (i:=1) (it0:=qy (o_ 1 FJ (a_ j_ c_))) (tk:=qr 1) (tv:=o_ 1 (rz AH) (a_ m_ c_)) (σ:=[qF f]) (O0:=O) (O:=O) (l:=gr n f) (inj:=D.str) (key:=D.str) (val:=λt=>.lst (rn (rf t))) (kk:=dq) (τ:=λt=>[qF f,sJ t]) (vP (rq (pR rfl) c)) 'o' (by
  refine gw.mpr ((LC (IG hf)).imp ?_);intro a b h e;exact h (jB e)) (λ_=>rfl) (λ_ _=>rfl) (λ_ _=>rfl) (λt g=>uq (pR rfl) (MF (Ly hf t g) O))
 show fin (JO [qF f] O)=_;unfold JO;have e:ux iN (uI n f)=.map ((gr n f).map dq) ((gr n f).map λt=>.lst (rn (rf t))):=by
  unfold ux;rw[Fu];unfold uI;rw[bB];rfl
 rw[e];show fin (pT _ _ _)=_;unfold pT;rw[d];rfl
theorem PQ:∃l,KG n f l/\∀(Pt:Nat)(O:Ow),Pl O->Bz Pt [.tup f] O=.ok (.tup (l.map .str)) O:=by
 obtain⟨m,F,j,G⟩:=YQ Yk (X5 hf) (λt d=>by rw[Fu] at d;exact Ly hf t d) (Yt hf);cases g:Ab (uI n f) (qV f) m with
 |nil=>exact absurd g (zhC j.ne)
 | cons x r=>
  have H:x∈Ab (uI n f) (qV f) m:=by rw[g];exact av
  have I:∀y∈Ab (uI n f) (qV f) m,¬ y<x:=λy hy=>by
   have k:=Mf (((DLC.cov m (uI n f) (qV f)).filter λc=>qx c==few (uI n f) (qV f) m).map rA);have J:Bd (((DLC.cov m (uI n f) (qV f)).filter λc=>qx c==few (uI n f) (qV f) m).map rA)=x::r:=g;rw[J] at k;rw[g] at hy;rcases ar.mp hy with rfl|hy
   ·exact fq _
   ·exact(bK.mp k).1 y hy
  obtain⟨c,u,k,rfl⟩:=o9.mp H;obtain⟨R,K,L⟩:=DLC.cov_sound m (IA hf) u;have v:c.Perm (rA c):=DLC.perm_of_sub K (λt d=>(Br c).mpr d) (zeK c);have o:Cv n f (rA c):=by
   obtain⟨a,b⟩:=(IQ hf).mp L;exact⟨λt d=>a t ((Br c).mp d),λp h=>let ⟨t,d,q⟩:=b p h;⟨t,(Br c).mpr d,q⟩⟩
  have w:(rA c).length=m:=by rw[<- v.length_eq];exact j.len u
  refine⟨rA c,⟨Fw c,o,by lia,λS M A=>?_⟩,λPt O N=>?_⟩
  ·have T:=j.le ((IQ hf).mpr A);rcases fY (rA c).length S.length with z|z
   ·exact .inl z
   ·refine .inr ⟨by lia,?_⟩;obtain⟨B,C,s⟩:=j.all ((IQ hf).mpr A) 'o';have P:=zk1 C;have Q:rA B=S:=by
     rw[<- zcZ M];exact Fz (Fw _) (Fw _) λt=>by rw[Br,Br];exact s.mem_iff
    rw[<- Mm v,k];rw[Mm s] at P;unfold sU;simp only[jm,lI,decide_eq_false_iff_not];refine⟨by lia,?_⟩;by_cases e:qx S=few (uI n f) (qV f) m
    ·exact .inr (I S (o9.mpr ⟨B,C,by rw[Mm s,e],Q⟩))
    ·exact .inl e
  ·have E:FQ Pt [.tup f] O=.ok (.lst ((Ab (uI n f) (qV f) m).map toT)) O:=by
    show fin (Ep Pt [qF f,XE (.tab Pt)] O)=_;unfold Ep;exact yJ (yI rfl (rm (rq (pR rfl) (zhD hf O)) (uq (rm rfl rfl) (z8F hf O))) (Um (G Pt O N)))
   rw[g] at E;show fin (Eo Pt [qF f,XE (.tab Pt)] O)=_;unfold Eo;exact yJ (rh (yI rfl (pR rfl) E) rfl (IP (i:=0) (ds:=List.map toT (rA c::r)) 'd'))
end
def mq(f:List D)(t:n_)(i:Nat):Bool:=(rf t).contains ((qV f).getD i 0)
def uh(f:List D)(t:n_):Nat:=DLB.mkN (mq f t) (qV f).length
def xn(f:List D)(S:l_)(r:n_):Bool:=DLB.orM (uh f) (sub S r)==2 ^ (qV f).length-1
def Ms{l:n_}{i:Nat}(h:i<l.length):l.getD i 0=l[i]:=by rw[aH,ao h];rfl
def pF{f:List D}{S:l_}{r:n_}:xn f S r=Y1 ↔ ∀p∈qV f,∃t∈sub S r,p∈rf t:=by
 unfold xn;rw[beq_iff_eq];refine(DLB.full_iff (p:=mq f) (N:=(qV f).length) (sub S r)).trans ?_;constructor
 ·intro h x c;obtain⟨i,a,rfl⟩:=cE.mp c;obtain⟨t,b,q⟩:=h i a;unfold mq at q;rw[Ms a] at q;exact⟨t,b,by simpa using q⟩
 ·intro h i a;obtain⟨t,b,q⟩:=h _ (bO a);exact⟨t,b,by unfold mq;rw[Ms a];simpa using q⟩
section
variable{n:Nat}{f:List D}(hf:Fn n f)
include hf
theorem zeQ{S:l_}(q:∀t∈S,t∈Xj n)(E:S.length<=18){O:Ow}(r:At O):MJ [.lst (S.map .str),.lst (rn (qV f))] O=.ok (.lst (S.map λt=>D.int (uh f t:Nat))) O:=by
 have F:=Jn hf;let P:Option D:=qO (rn (qV f));let T:Option D:=qO (S.map .str);let st (y:Option D):Sg:=[T,P,qA O.length,y];obtain⟨s,c,g,y,rfl,rfl⟩:=Bo (i:=3) (it:=qy j_) (body:=(tG (yC qk (a_ (pP Ba (a_ (qE Y2 1 (tD (a_ (pP qu (a_ m_ c_)) c_)) (.one 4) [(rl (o_ 2 AJ (a_ qC (a_ (g_ qi m_ q9) c_))))] [] (g_ (fI xl) rj q9)) c_)) c_)))) (l:=S) (inj:=D.str) (σ:=st YP) (O0:=O++[[]]) (O:=O++[[]]) (vP rfl) (λk σ c=>∃y,σ=st y/\c=O++[((S.take k).map λt=>D.int (uh f t:Nat))]) (λk t σ c h u=>by
  obtain⟨y,rfl,rfl⟩:=u;have j:=q t (aO h);have v:=vS hf.n1 hf.n4 j;have w:∀{z},z∈qV f->z<2 ^ t.length:=λ{z}hz=>by rw[tW hf.n1 hf.n4 j,<- hf.len];exact(o4.mp hz).1
  generalize m:O++[((S.take k).map λt=>D.int (uh f t:Nat))]=O1;have A:=yh (o:=Y2) (ext:=1) (i:=4) (l:=aW (qV f).length) (inj:=λ(i:Nat)=>D.int (i:Int)) (it0:=tD (a_ (pP qu (a_ m_ c_)) c_)) (t:=rl (o_ 2 AJ (a_ qC (a_ (g_ qi m_ q9) c_)))) (te:=g_ (fI xl) rj q9) (σ:=st (sJ t)) (O0:=O1) (O:=O1) (p:=mq f t) (e:=λ(i:Nat)=>D.int ((2 ^ i:Nat):Int)) (τ:=λ(i:Nat)=>st (sJ t)++[pM (i:Int)]) (zJ (pR (tU (pR rfl) (Ul O1 _))) 'o') (by rw[cS];lia) (λ_=>rfl) (λi a=>by
   have a:=bz.mp a;have e:(rf t).contains (qV f)[i]=mq f t i:=by unfold mq;rw[Ms a]
   rw[<- e];exact xN (rq (rm rfl (rh rfl rfl (Lu O1 _ _ a))) (MH v (w (bO a)) O1))) (λi a _=>by
   have a:=bz.mp a;exact rh rfl rfl (Pe O1 'o'))
  have B:pP Ba (a_ (qE Y2 1 (tD (a_ (pP qu (a_ m_ c_)) c_)) (.one 4) [(rl (o_ 2 AJ (a_ qC (a_ (g_ qi m_ q9) c_))))] [] (g_ (fI xl) rj q9)) c_) (st (sJ t)) O1=.ok (.int ((uh f t:Nat))) O1:=by
   refine tU (pR A) ?_;show(match yg (((aW (qV f).length).filter (mq f t)).map λ(i:Nat)=>D.int ((2 ^ i:Nat):Int)) with|some ns=>R.ok (D.int ns.sum) O1|none=>.bad)=_;have:(((aW (qV f).length).filter (mq f t)).map λ(i:Nat)=>D.int ((2 ^ i:Nat):Int))=(((aW (qV f).length).filter (mq f t)).map λ(i:Nat)=>((2 ^ i:Nat):Int)).map D.int:=by rw[bB];rfl
   rw[this,FE];show R.ok (D.int _) O1=_;rw[DLB.sum_mkN];rfl
  have b:((S.take k).map λt=>D.int (uh f t:Nat)).length<4000000:=by rw[aD,bT];lia
  refine⟨_,_,Jm (i:=2) rfl B (by rw[<- m];exact xt) b,sJ t,rfl,?_⟩;rw[<- m,Ce,fW,h,bQ];rfl) ⟨YP,rfl,rfl⟩
 rw[fo] at g;show uC O.length (fin (JC [T,P,YP,YP] O))=_;have e:JC [T,P,YP,YP] O=.rt (.own O.length) (O++[S.map λt=>D.int (uh f t:Nat)]):=by
  unfold JC;exact sI (x:=.own O.length) (O1:=O++[[]]) rfl (vQ g (tI rfl))
 rw[e];refine Eb r.pl _ ?_;unfold frz;dsimp only;rw[J5 (cw _),xt];dsimp only;rw[uQ λd C=>Jb (by obtain⟨t,_,rfl⟩:=az.mp C;rfl)];rfl
omit hf in
theorem At.nil(h:At O):At (O++[[]]):=λc b d a=>by
 rcases aQ.mp b with q|q
 ·exact h c q d a
 ·have:c=[]:=⇑q
  subst this;cases a
omit hf in
def tj(f:List D)(S:l_)(j:Nat):List KX:=((DLB.pks S.length j).filter (xn f S)).map λr=>(qx (sub S r),sub S r)
omit hf in
def stK(f:List D)(S:l_)(j:Nat)(y5 y6 y7 y8 y9:Option D):Sg:=[qF f,qO (S.map .str),qO (rn (qV f)),qO (S.map λt=>D.int (uh f t:Nat)),pM (j:Nat),y5,y6,y7,y8,y9]
variable{S:l_}(hS:∀t∈S,t∈Xj n)(ES:S.length<=18)
include hS ES
theorem zhN(d:∀q∈r,q<S.length)(h:r.length<=1000)(w:O[k]?=XE Xu)(y:Xu.length<4000000):
  ∃z a A,Hx (stK f S j (qA k) (XE (rM r)) y7 y8 y9) O=.nx (stK f S j (qA k) (XE (rM r)) z a A) (if xn f S r=Y1 then O.set k (Xu++[xD (qx (sub S r),sub S r)]) else O):=by
 have I:=Jn hf;obtain⟨B,c,m,a,rfl,C⟩:=Bo (i:=8) (it:=qy (qr 6)) (body:=Qp) (σ:=stK f S j (qA k) (XE (rM r)) (pM ((0:Nat):Int)) y8 y9) (O0:=O) (O:=O) (l:=r) (inj:=λ(q:Nat)=>D.int (q:Int)) (Cc rfl)
  (λi σ c=>∃a,σ=stK f S j (qA k) (XE (rM r)) (pM ((DLB.orM (uh f) (sub S (r.take i)):Nat))) a y9/\c=O) (λi q σ c b E=>by
   obtain⟨a,rfl,rfl⟩:=E;have s:=d q (aO b);have F:g_ qi qC (qr 8) (stK f S j (qA k) (XE (rM r)) (pM ((DLB.orM (uh f) (sub S (r.take i)):Nat))) (pM (q:Nat)) y9) c=.ok (.int ((uh f S[q]:Nat))) c:=rh rfl rfl (Lu c _ S s);have G:DLB.orM (uh f) (sub S (r.take (i+1)))=DLB.orM (uh f) (sub S (r.take i)) ||| uh f S[q]:=by
    rw[<- DLB.orM_app];unfold sub;rw[fW,b,bQ];show DLB.orM (uh f) (_++[S.getD q []])=_;rw[aH,ao s];rfl
   refine⟨_,_,AD (rh rfl F (orF c _ _)),pM (q:Nat),?_,rfl⟩;rw[<- G];rfl) ⟨y8,rfl,rfl⟩
 rw[fo,C] at m;have u:Qe (stK f S j (qA k) (XE (rM r)) (pM ((DLB.orM (uh f) (sub S r):Nat))) a y9) O=.ok (xn f S r) O:=by
  refine sH (rh rfl (rh (rh rfl (tU (pR rfl) (Ul O _)) (Pe O 'o')) rfl rfl) ((Xq O _ _).trans ?_));have:(((DLB.orM (uh f) (sub S r):Nat):Int)==((2 ^ (qV f).length:Nat):Int)-1)=xn f S r:=by
   unfold xn;have J:=jO (n:=(qV f).length);rw[dZ,beq_iff_eq,beq_iff_eq];lia
  rw[this]
 unfold Hx;by_cases g:xn f S r=Y1
 ·have p:∀t∈sub S r,t∈oN:=λt v=>by
   unfold sub at v;obtain⟨q,b,rfl⟩:=az.mp v;rw[aH,ao (d q b)];exact vS hf.n1 hf.n4 (hS _ (bO (d q b)))
  refine⟨pM ((DLB.orM (uh f) (sub S r):Nat)),a,qF ((sub S r).map .str),sI (x:=.int ((0:Nat):Int)) (O1:=O) rfl (vQ m ((ug u).trans ?_))⟩;rw[JU g,JU g];have H:pP yk (a_ (qE Y2 0 (qy (qr 6)) (.one 8) [] [] (g_ qi m_ (qr 8))) c_) (stK f S j (qA k) (XE (rM r)) (pM ((DLB.orM (uh f) (sub S r):Nat))) a y9) O=.ok (.tup ((sub S r).map .str)) O:=by
   refine tU (pR (zC (o:=Y2) (ext:=0) (i:=8) (l:=r) (inj:=λ(q:Nat)=>D.int (q:Int)) (e:=λq=>D.str (S.getD q [])) (τ:=λ(q:Nat)=>stK f S j (qA k) (XE (rM r)) (pM ((DLB.orM (uh f) (sub S r):Nat))) (pM (q:Int)) y9) (Cc rfl) 'o' (λ_=>rfl) (λq b=>rh rfl rfl ((Lu O D.str S (d q b)).trans (by rw[aH,ao (d q b)];rfl))))) ?_;unfold sub;rw[bB];rfl
  refine sI H (Jm rfl (Ay (rm (rq (pR rfl) (Rm (l:=sub S r) (x:=.tup ((sub S r).map .str)) (Cc rfl) (by unfold sub;rw[aD];exact h) p)) rfl) (by show 2<=4000000;decide)) w y)
 ·refine⟨pM ((DLB.orM (uh f) (sub S r):Nat)),a,y9,sI (x:=.int ((0:Nat):Int)) (O1:=O) rfl (vQ m ((ug u).trans ?_))⟩;rw[J5 g,J5 g];rfl
omit hf hS ES in
theorem YM(l:List KX)(c:∀q∈l,∀t∈q.2,t∈oN):(l.map xD).all (pl 7)=Y1:=ay.mpr λd a=>by
 obtain⟨q,e,rfl⟩:=az.mp a;have g:∀t∈q.2,pl 5 (.str t)=Y1:=λt b=>by
  have:=ay.mp (ay.mp U9 t (c q e t b));exact ay.mpr this
 show(Y1&&((q.2.map D.str).all (pl 5)&&Y1))=Y1;rw[om,ma,ay];intro d a;obtain⟨t,b,rfl⟩:=az.mp a;exact g t b
theorem Yn:∀q∈tj f S j,∀t∈q.2,t∈oN:=λq c t d=>by
 obtain⟨r,e,rfl⟩:=az.mp c;obtain⟨g,h,a⟩:=DLB.mem_pks.mp (bd.mp e).1;obtain⟨k,b,rfl⟩:=az.mp d;rw[aH,ao (a k b)];exact vS hf.n1 hf.n4 (hS _ (bO (a k b)))
theorem SN(v:j<=100)(w:At O):
  ∃z g a c d,Hw (stK f S j y5 y6 y7 y8 y9) O=(if tj f S j≠[] then .rt (.tup ((Bc (tj f S j)).2.map .str)) (O++[(tj f S j).map xD]) else .nx (stK f S j z g a c d) (O++[[]])):=by
 have A:(DLB.pks S.length j).length<=262144:=aG (DLB.pks_few S.length j) (aG (de 's' ES) 's');obtain⟨B,o,m,g,a,c,d,rfl,rfl⟩:=Bo (i:=6) (it:=qy (o_ 2 Jx (a_ (pP qu (a_ m_ c_)) (a_ q9 c_)))) (body:=Hx) (σ:=stK f S j (qA O.length) y6 y7 y8 y9) (O0:=O++[[]]) (O:=O++[[]]) (l:=DLB.pks S.length j) (inj:=rM) (vP (rq (rm (tU (pR rfl) (Sv _ D.str S)) rfl) (zgd ES v w.nil.flat)))
  (λi σ o=>∃g a c d,σ=stK f S j (qA O.length) g a c d/\o=O++[((((DLB.pks S.length j).take i).filter (xn f S)).map λr=>xD (qx (sub S r),sub S r))]) (λi r σ o p C=>by
   obtain⟨g,a,c,d,rfl,rfl⟩:=C;obtain⟨I,J,E⟩:=DLB.mem_pks.mp (aO p);have K:=bD (xn f S) ((DLB.pks S.length j).take i);have L:=lX i (DLB.pks S.length j);obtain⟨M,N,P,q⟩:=zhN hf hS ES (y7:=a) (y8:=c) (y9:=d) (j:=j) (k:=O.length) (O:=O++[((((DLB.pks S.length j).take i).filter (xn f S)).map λr=>xD (qx (sub S r),sub S r))]) E 'o' xt (by rw[aD];lia);refine⟨_,_,q,_,_,_,_,rfl,?_⟩;rw[Vy _ p];split
   ·rw[Ce,bQ];rfl
   ·rw[bP]) ⟨y6,y7,y8,y9,rfl,by simp⟩
 rw[fo] at m;have F:(((DLB.pks S.length j).filter (xn f S)).map λr=>xD (qx (sub S r),sub S r))=(tj f S j).map xD:=by
  unfold tj;rw[bB];rfl
 rw[F] at m;have s:(O++[(tj f S j).map xD])[O.length]?=XE ((tj f S j).map xD):=xt;have u:pU rB (O++[(tj f S j).map xD]) (.own O.length) (.lst [])=.ok (.bl (!(tj f S j).isEmpty)) (O++[(tj f S j).map xD]):=by
  have e:=(Fh (O++[(tj f S j).map xD]) (x:=(tj f S j).map xD) (y:=[]) (YM _ (Yn hf hS ES)) rfl (b:=(tj f S j).isEmpty) (by cases tj f S j<;>simp)).2;unfold pU py at e ⊢;rw[zeN s];exact e
 unfold Hw;by_cases h:tj f S j=[]
 ·refine⟨qA O.length,g,a,c,d,?_⟩;rw[J5 (by rw[h];simp)];refine sI (x:=.own O.length) (O1:=O++[[]]) rfl (vQ m ?_);rw[ug (sH (rh rfl rfl u)),h];rfl
 ·refine⟨YP,YP,YP,YP,YP,?_⟩;rw[JU h];refine sI (x:=.own O.length) (O1:=O++[[]]) rfl (vQ m ?_);have G:(!(tj f S j).isEmpty)=Y1:=by
   cases H:tj f S j with
   |nil=>exact absurd H h
   |cons _ _=>rfl
  rw[ug (sH (rh rfl rfl u)),JU G];refine tI (rh (x:=xD (Bc (tj f S j))) (tU (pR rfl) ?_) rfl rfl);show(match (O++[(tj f S j).map xD])[O.length]? with|some ds=>(match Cq ds with|some ps=>if ps≠[] then R.ok (xD (Bc ps)) _ else .bad|none=>.bad)|none=>.bad)=_;rw[s];dsimp only;rw[SV];dsimp only;rw[JU h]
end
def zi8(f:S.Pairwise (· < ·))(g:r.Pairwise (· < ·))(c:∀k∈r,k<S.length):(sub S r).Pairwise (· < ·):=by unfold sub;refine gw.mpr (kC ?_ g);intro a b h i j;have d:=c a h;have e:=c b i;rw[aH,aH,ao d,ao e];exact eJ.mp f a b d e j
section
variable{n:Nat}{f:List D}(hf:Fn n f)
include hf
theorem Zw(a:∀k∈r,k<(gr n f).length):∀t∈sub (gr n f) r,t∈gr n f:=λt b=>by
 unfold sub at b;obtain⟨k,c,rfl⟩:=az.mp b;rw[aH,ao (a k c)];exact bO (a k c)
theorem Qz(a:∀k∈r,k<(gr n f).length):xn f (gr n f) r=Y1↔Cv n f (sub (gr n f) r):=pF.trans ⟨λh=>⟨Zw hf a,h⟩,λh=>h.all⟩
variable{l:l_}(h:KG n f l)
include h
theorem R5(b:r∈DLB.pks (gr n f).length j)(c:xn f (gr n f) r=Y1):l.length<j\/(l.length=j/\sU (qx (sub (gr n f) r),sub (gr n f) r) (qx l,l)=Y2):=by
 obtain⟨d,g,a⟩:=DLB.mem_pks.mp b;have:=h.min _ (zi8 (IG hf) g a) ((Qz hf a).mp c);have e:(sub (gr n f) r).length=j:=by unfold sub;rw[aD,d]
 rwa [e] at this
theorem Zo(c:j<l.length):tj f (gr n f) j=[]:=by unfold tj;rw[jt,gk];intro r a b;have:=R5 hf h a b;lia
theorem zib:tj f (gr n f) l.length≠[]/\Bc (tj f (gr n f) l.length)=(qx l,l):=by
 let r:=(aW (gr n f).length).filter λk=>decide ((gr n f).getD k []∈l);have b:sub (gr n f) r=l:=by
  refine(zbe (gr n f) λt=>decide (t∈l)).trans (Fz ((IG hf).filter _) h.srt λt=>?_);rw[bd,decide_eq_true_eq];exact⟨λq=>q.2,λq=>⟨h.cv.inn t q,q⟩⟩
 have d:∀k∈r,k<(gr n f).length:=λk g=>bz.mp (bd.mp g).1;have a:r.length=l.length:=by
  have:=congrArg jC b;unfold sub at this;rwa [aD] at this
 have c:(qx l,l)∈tj f (gr n f) l.length:=az.mpr ⟨r,bd.mpr ⟨DLB.mem_pks.mpr ⟨a,List.pairwise_lt_range.filter _,d⟩,(Qz hf d).mpr (by rw[b];exact h.cv)⟩,by rw[b]⟩;refine⟨λe=>(by rw[e] at c;cases c),zeb c λq i=>?_⟩;obtain⟨p,j,rfl⟩:=az.mp i;obtain⟨m,o⟩:=bd.mp j;rcases R5 hf h m o with z|z
 ·lia
 ·exact z.2
theorem Tn(c:At O):JA [.tup f] O=.ok (.tup (l.map .str)) O:=by
 have m:=HS hf;have F:l.length<=(gr n f).length:=Vp (LC h.srt) h.cv.inn;have o:∀t∈gr n f,t∈Xj n:=λt G=>S6 G;let A:Option D:=qF f;let C:Option D:=qO ((gr n f).map .str);let P:Option D:=qO (rn (qV f));let M:Option D:=qO ((gr n f).map λt=>D.int (uh f t:Nat));have H:EZ (.two 1 2) (rL (a_ (o_ 1 JM (a_ j_ c_)) (a_ (o_ 1 FN (a_ j_ c_)) c_))) [A,YP,YP,YP,YP,YP,YP,YP,YP,YP] O=.nx [A,C,P,YP,YP,YP,YP,YP,YP,YP] O:=
  (YA (Ay (rm (rq (pR rfl) (z97 hf c.flat)) (rq (pR rfl) (R_ hf O))) (by show 2<=4000000;decide))).trans rfl
 have I:tD (a_ (g_ rD (pP qu (a_ m_ c_)) rj) c_) [A,C,P,M,YP,YP,YP,YP,YP,YP] O=.ok (.val ((aW ((gr n f).length+1)).map λ(i:Nat)=>D.int (i:Int))) O:=
  zJ (n:=(gr n f).length+1) (pR ((rh (tU (pR rfl) (Sv O D.str (gr n f))) rfl Ei).trans (by rfl))) 'o'
 obtain⟨J,K⟩:=zib hf h;obtain⟨b,L,X,rfl⟩:=zim (i:=4) (body:=Hw) (d:=.tup (l.map .str)) (k:=l.length) (λb=>∃X,b=O++X) I (by rw[cS];lia)
  (λj p b=>∃r y5 y6 y7 y8 y9 X,p=[A,C,P,M,r,y5,y6,y7,y8,y9]/\b=O++X/\At b)
  (λj a p b s u v=>by
   obtain⟨r,y5,y6,y7,y8,y9,X,rfl,rfl,g⟩:=v;obtain⟨w,e⟩:=ak.mp u;rw[jS] at e;subst e;rw[cS] at w;obtain⟨x,y,z,B,E,q⟩:=SN hf o m (y5:=y5) (y6:=y6) (y7:=y7) (y8:=y8) (y9:=y9) (j:=j) 'o' g;rw[Zo hf h s,J5 'd'] at q;exact⟨_,_,q,pM (j:Nat),x,y,z,B,E,X++[[]],rfl,by rw[bh],g.nil⟩)
  (λa p b u v=>by
   obtain⟨r,y5,y6,y7,y8,y9,X,rfl,rfl,g⟩:=v;obtain⟨w,e⟩:=ak.mp u;rw[jS] at e;subst e;obtain⟨x,y,z,B,E,q⟩:=SN hf o m (y5:=y5) (y6:=y6) (y7:=y7) (y8:=y8) (y9:=y9) (j:=l.length) 'o' g;rw[JU J,K] at q;exact⟨_,q,X++[(tj f (gr n f) l.length).map xD],by rw[bh]⟩) ⟨YP,YP,YP,YP,YP,YP,[],rfl,by simp,c⟩
 have N:Jz [A,YP,YP,YP,YP,YP,YP,YP,YP,YP] O=.rt (.tup (l.map .str)) (O++X):=by
  unfold Jz;exact vQ H (sI (i:=3) (rq (rm rfl rfl) (zeQ hf o m c)) (Fp (d:=pT xH) L))
 show uC O.length (fin (Jz [A,YP,YP,YP,YP,YP,YP,YP,YP,YP] O))=_;rw[xO N];exact Eb c.pl X (Jb (QL l))
end
def zhL(h:t σ O=.ok [x,y] O1):HB i j t σ O=.nx ((σ.set i (XE x)).set j (XE y)) O1:=by show((t σ O).bnS _)=_;rw[h];rfl
section
variable{σ:Sg}{O O1:Ow}{t u:DE}{tA:DA}{c:Nat}
def SG(h:t σ O=.exc c O1):a_ t tA σ O=.exc c O1:=by show((t σ O).bnd _)=_;rw[h];rfl
def Q3(h:tA σ O=.exc c O1):o_ n F tA σ O=.exc c O1:=by show((tA σ O).bnd _)=_;rw[h];rfl
def IT(a:σ[iT]?=XE (XE (.tab P)))(h:o_ n F tA σ O=.exc c O1):sj P iT n F tA σ O=.exc c O1:=by unfold sj;rw[a];dsimp only;rw[JU rfl];exact h
def ZW(h:t σ O=.exc c O1):g_ f t u σ O=.exc c O1:=by show((t σ O).bnd _)=_;rw[h];rfl
def L4(h:t σ O=.exc c O1):fin (pT t σ O)=.exc c O1:=by show fin ((t σ O).bnS _)=_;rw[h];rfl
def zjc(h:t σ O=.exc c O1):fin (pL (p_ i t) d σ O)=.exc c O1:=by
 have e:p_ i t σ O=.exc c O1:=by show((t σ O).bnS _)=_;rw[h];rfl
 show fin (match p_ i t σ O with|.nx σ' O'=>d σ' O'|r=>r)=_;rw[e];rfl
end
def zfL(O:Ow):(Nf.map λd=>FP [d] O)=Nf.map λ_=>R.exc 0 O:=by kernel_rfl
def zff(P2:Nat)(O:Ow)(h:d∈Nf):Bz P2 [d] O=.exc 0 O:=by
 have a:FQ P2 [d] O=.exc 0 O:=by
  show fin (Ep P2 [XE d,XE (.tab P2)] O)=_;unfold Ep;exact L4 (IT rfl (Q3 (SG ((yj (pR rfl) rfl).trans (dj.mp (zfL O) d h)))))
 show fin (Eo P2 [XE d,XE (.tab P2)] O)=_;unfold Eo;exact L4 (ZW (IT rfl ((yj (pR rfl) rfl).trans a)))
def z91(P2:Nat)(O:Ow)(h:d∈Nf):Co P2 [d] O=.exc 0 O:=by show fin (Es P2 [XE d,XE (.tab P2)] O)=_;unfold Es;exact L4 (IT rfl (Q3 (SG ((yj (pR rfl) rfl).trans (dj.mp (ziY O) d h)))))
def zg8(P2:Nat)(O:Ow)(h:d∈Nf):Er P2 [d] O=.exc 0 O:=by show fin (FT P2 [XE d,YP,YP,XE (.tab P2)] O)=_;unfold FT;exact zjc (IT rfl ((yj (pR rfl) rfl).trans (zff P2 O h)))
def wP:n_:=[112,114,111,100,117,99,116,115]
def wS:n_:=[115,117,109,115]
def A_(p l:l_):D:=if u9 (p.length:Nat) (qx p) (l.length:Nat) (qx l)=Y1 then .tup [.str wP,.tup (p.map .str)] else .tup [.str wS,.tup (l.map .str)]
def zkf(O:Ow):([wP,wS].map λw=>AI 2 [.str w,.str w] O)=[wP,wS].map λ_=>R.ok (D.bl Y1) O:=by kernel_rfl
def zcz(O:Ow):(oN.map λcs=>AI 1 [.str cs,.str cs] O)=oN.map λ_=>R.ok (D.bl Y1) O:=by kernel_rfl
def U8{w:n_}(c:w∈[wP,wS]){l:l_}(d:∀t∈l,t∈oN)(f:l.length<=1000)(O:Ow):El [.tup [.str w,.tup (l.map .str)],.tup [.str w,.tup (l.map .str)]] O=.ok (.bl Y1) O:=
 L9 (k:=2) (D4 O _) (D4 O _) (.inr rfl) rfl (by show 2<_;lia) λi x y a b=>by
  rw[a] at b;cases b
  match i,a with
  |0,a=>cases a;exact dj.mp (zkf O) w c
  | 1,a=>
   cases a;exact L9 (k:=1) (D4 O _) (D4 O _) (.inr rfl) rfl (by rw[aD];lia) λi x y a b=>by
    rw[a] at b;cases b;rw[bC] at a;cases e:l[i]? with
    |none=>rw[e] at a;cases a
    | some t=>
     rw[e] at a;cases a;exact dj.mp (zcz O) t (d t (aO e))
section
variable{n:Nat}{f:List D}(hf:Fn n f){p l:l_}(hl:KG n f l)(hp:KG n (Ez f) p)
include hf hl in
theorem J_:∀t∈l,t∈oN:=λt a=>Ly hf t (hl.cv.inn t a)
include hf hl in
theorem length_eq(O:Ow):En [.tup (l.map .str)] O=.ok (.tup [.int (l.length:Nat),.int (qx l)]) O:=by have:=hl.few;show fin (JF [qF (l.map .str)] O)=_;unfold JF;exact yJ (Ay (rm (tU (pR rfl) ((Mj O _).trans (by rw[aD]))) (rq (pR rfl) (R1 (J_ hf hl) 'o' O))) (by show 2<=4000000;decide))
include hf hl in
theorem VN(h:qr i σ O=.ok (.tup (l.map .str)) O):rL (a_ (pP qu (a_ (qr i) c_)) (a_ (o_ 1 (rz zK) (a_ (qr i) c_)) c_)) σ O=.ok (.tup [.int (l.length:Nat),.int (qx l)]) O:=by have:=hl.few;exact Ay (rm (tU (pR h) ((Mj O _).trans (by rw[aD]))) (uq (pR h) (Rm (l:=l) (x:=.tup (l.map .str)) (Cc rfl) 'o' (J_ hf hl)))) (by show 2<=4000000;decide)
variable(P2:Nat){O:Ow}(hle:Bz P2 [.tup f] O=.ok (.tup (l.map .str)) O)(CT:Bz P2 [.tup (Ez f)] O=.ok (.tup (p.map .str)) O)
include hf CT in
theorem VC:Co P2 [.tup f] O=.ok (.tup (p.map .str)) O:=by show fin (Es P2 [qF f,XE (.tab P2)] O)=_;unfold Es;exact yJ (yI rfl (pR (rq (pR rfl) (z8w hf O))) CT)
include hf hl hp hle CT in
theorem zi5:Er P2 [.tup f] O=.ok (A_ p l) O:=by
 show fin (FT P2 [qF f,YP,YP,XE (.tab P2)] O)=_;unfold FT A_;have a:qd (g_ Aj (o_ 1 (rz En) (a_ qk c_)) (o_ 1 (rz En) (a_ m_ c_))) [qF f,qF (l.map .str),qF (p.map .str),XE (.tab P2)] O=.ok (u9 (p.length:Nat) (qx p) (l.length:Nat) (qx l)) O:=
  sH (rh (uq (pR rfl) (length_eq (QU hf) hp O)) (uq (pR rfl) (length_eq hf hl O)) rfl)
 refine xO (sI (yI rfl (pR rfl) hle) (sI (yI rfl (pR rfl) (VC hf P2 CT)) ?_));cases b:u9 (p.length:Nat) (qx p) (l.length:Nat) (qx l) with
 | true=>
  rw[b] at a;exact Ip a (tI (Ay (rm rfl rfl) (by show 2<=4000000;decide)))
 | false=>
  rw[b] at a;exact Bi a (tI (Ay (rm rfl rfl) (by show 2<=4000000;decide)))
end
def zfv{Pt P2:Nat}{ns:List Int}{k:Nat}{O:Ow}(Q:At O){y2 y3 y4 y5 y6 y7:Option D}:
  ∃E R T U V W G,Ia Pt P2 [qO (ns.map .int),pM (k:Int),y2,y3,y4,y5,y6,y7,XE (.tab Pt),XE (.tab P2)] O=.nx [qO (ns.map .int),pM (k:Int),E,R,T,U,V,W,XE (.tab Pt),XE (.tab P2)] G/\At G:=by
 let A:Option D:=qO (ns.map .int);let B:Option D:=pM (k:Int);let j:Option D:=XE (.tab Pt);let o:Option D:=XE (.tab P2);obtain⟨s,b,X,Y⟩:=zg4 (ns:=ns) (k:=k) O;have q:At (O++[[.int s,.bl b]]):=Q.app s b;generalize hm:O.length=m at *;generalize GX:O++[[D.int s,D.bl b]]=O1 at *;obtain⟨r,t,r1,Z,r3⟩:=Fs Y (k:=4) 's' 's';have h1:1<=1+r:=by lia
 have h4:1+r<=4:=by lia
 have H:=q.set m t b;have en:g_ rD rj (o_ 2 (rz xP) (a_ qk (a_ (dC (.int 4)) c_))) [A,B,qA m,y3,y4,y5,y6,y7,j,o] O1=.ok (.int ((1+r:Nat):Int)) (O1.set m [.int t,.bl b]):=(rh rfl (uq (rm rfl rfl) Z) Ei).trans (by congr 2);generalize hn:1+r=n at *;generalize hO2:O1.set m [D.int t,D.bl b]=O2 at *;obtain⟨f,I,c,f1,f2⟩:=z9d H.flat r3 h1 h4 Y1;have h:=H.set m I b;generalize hO3:O2.set m [D.int I,D.bl b]=a at *;have u:=h.pl;have i:=QU c;obtain⟨l,e,v⟩:=PQ c;obtain⟨p,g,J⟩:=PQ i;obtain⟨z,K,z1,E,M⟩:=z53 f2;have w:=h.set m K b;generalize hO4:a.set m [D.int K,D.bl b]=d at *;have C:=J_ c e;have N:=J_ i g;have l18:=e.few;have p18:=g.few;let S:Option D:=qA m;let F:Option D:=qF f;let P:Option D:=qF (p.map .str);let L:Option D:=qF (l.map .str);let st (x:Option D):Sg:=[A,B,S,F,P,L,x,y7,j,o];have ht:qd (g_ Aj (rL (a_ (pP qu (a_ q9 c_)) (a_ (o_ 1 (rz zK) (a_ q9 c_)) c_))) (rL (a_ (pP qu Ag) (a_ (o_ 1 (rz zK) Ag) c_)))) (st (XE (.tup [.str wS,.tup (l.map .str)]))) a=.ok (u9 (p.length:Nat) (qx p) (l.length:Nat) (qx l)) a:=
  sH (rh (VN i g rfl) (VN c e rfl) rfl)
 have e6:qT (qd (g_ Aj (rL (a_ (pP qu (a_ q9 c_)) (a_ (o_ 1 (rz zK) (a_ q9 c_)) c_))) (rL (a_ (pP qu Ag) (a_ (o_ 1 (rz zK) Ag) c_))))) (p_ 6 (rL (a_ (dC (.str wP)) (a_ q9 c_)))) qS (st (XE (.tup [.str wS,.tup (l.map .str)]))) a=.nx (st (XE (A_ p l))) a:=by
  rw[ug ht];unfold A_;cases u9 (p.length:Nat) (qx p) (l.length:Nat) (qx l) with
  |true=>exact(AD (Ay (rm rfl rfl) (by show 2<=4000000;decide))).trans rfl
  |false=>rfl
 have vn:El [A_ p l,A_ p l] a=.ok (.bl Y1) a:=by
  unfold A_;cases u9 (p.length:Nat) (qx p) (l.length:Nat) (qx l) with
  |true=>exact U8 'd' N 'o' a
  |false=>exact U8 'd' C 'o' a
 refine⟨S,F,P,L,XE (A_ p l),XE z,d,?_,w⟩;unfold Ia;refine sI (x:=.own m) (uq (rm rfl rfl) X) (sI (x:=.tup f) (O1:=a) (uq (L_ rfl (rm en rfl)) f1) (vQ (σ':=[A,B,S,F,P,L,y6,y7,j,o]) (O1:=a) ((zhL (rm (uq (pR (uq (pR rfl) (z5c c a))) (Tn i g h)) (uq (pR rfl) (Tn c e h)))).trans rfl) ?_));refine Bi (O1:=a) (Bv (b:=Y1) (xN (uq (rm (yI rfl (pR rfl) (VC c P2 (J P2 a u))) rfl) (ZS N 'o' a)))) ?_;refine sI (x:=.tup [.str wS,.tup (l.map .str)]) (O1:=a) (Ay (rm rfl rfl) (by show 2<=4000000;decide)) (vQ e6 ?_);refine Bi (O1:=a) (Bv (b:=Y1) (xN (uq (rm (yI rfl (pR rfl) (zi5 c e g P2 (v P2 a u) (J P2 a u))) rfl) vn))) (sI (x:=z) (O1:=d) (uq (pR rfl) z1) ?_);refine Bi (O1:=d) (sH (rh (x:=.lst [.int 0]) (y:=.lst [.int 0]) (QT rfl (yI rfl (pR rfl) (z91 P2 d M)) (TM _)) rfl (Pc _ 0))) ?_;exact(ug (b:=Y2) (O1:=d) (sH (rh (x:=.lst [.int 0]) (y:=.lst [.int 0]) (QT rfl (yI rfl (pR rfl) (zg8 P2 d M)) (TM _)) rfl (Pc _ 0)))).trans rfl
def pure_law(Pt P2:Nat)(ns:List Int)(h:ns.length<=63):∃O,F_law Pt P2 [.lst (ns.map .int)] []=.ok (.bl Y1) O:=by
 let A:Option D:=qO (ns.map .int);let d:Option D:=XE (.tab Pt);let e:Option D:=XE (.tab P2);let f:Sg:=[A,YP,YP,YP,YP,YP,YP,YP,d,e];obtain⟨m,j,l⟩:=zex h f 4 's' rfl;obtain⟨n,a,o,b,y2,y3,y4,y5,y6,y7,rfl,u⟩:=Bo (i:=1) (body:=Ia Pt P2) (zJ (pR l) j) (λ_ g a=>∃b y2 y3 y4 y5 y6 y7,g=[A,b,y2,y3,y4,y5,y6,y7,d,e]/\At a) (λ_ i g a _ p=>by
   obtain⟨b,y2,y3,y4,y5,y6,y7,rfl,q⟩:=p;obtain⟨v,w,x,y,z,B,C,r,s⟩:=zfv (Pt:=Pt) (P2:=P2) (ns:=ns) (k:=i) q (y2:=y2) (y3:=y3) (y4:=y4) (y5:=y5) (y6:=y6) (y7:=y7);exact⟨_,_,r,_,_,_,_,_,_,_,rfl,s⟩) ⟨YP,YP,YP,YP,YP,YP,YP,rfl,λc t=>by cases t⟩
 refine⟨a,?_⟩;show fin (pL _ (pT A8) f [])=_;exact xO (vQ o rfl)
end K51
open PySem PySem.W PyProof.Rows
set_option maxRecDepth 100000 in
set_option maxHeartbeats 0 in
theorem PySem.Challenge.cw_leastterms_k51_least_products_holds : PySem.Challenge.rw_leastterms_k51_least_products.Holds := by
 w_on;refine mH K51.ws fun Ng=>?_;refine PySem.W.holds_openX (q:=K51.Qv) (loose:=K51.Lv) (N:=7434) (Xt:=K51.Xv) (XP:=PySem.W.XL K51.Qv []) (Yf:=(fun s=>(PySem.W.Hook.obs K51.Hk s,decide (0<s.toks)))) (Ya:=(fun w=>(PySem.W.Hook.val K51.Hk w,true))) K51.lw (fun s e=>PySem.W.xl_of s (jn.mp e).1) PySem.W.XL.keeps (by rfl) (by rfl) (by rfl) (fun s e=>PySem.W.recFacts_of (jn.mp e).2) (by rfl) (by first|assumption|decide +kernel) (by decide +kernel) ⟨rfl,rfl,rfl,rfl,rfl,by decide +kernel⟩ ?hw ?hc;(case hw=>w_witness2)
 delta K51.Hk;k_fill
 refine DL.walk2 (xd := "covers") (l:=PySem.Challenge.rw_leastterms_k51_least_products) (k:=32) (x := "_law_script") (Cl:=K51.Cl) (F:=K51.F_law) rfl rfl ⟨rfl,by decide,by decide⟩ (PySem.W.Hook.of K51.Hk) (PySem.W.Hook.keeps K51.Hk) (fun w h Y=>PySem.W.km_in_of Y) ?R ?S ?F K51.pure_law
 case R=>first|rfl|kernel_rfl
 case S=>first|rfl|kernel_rfl
 case F=>
  intro w mg fa h KX G GD
  refine' K51.all_mk KX G GD ⟨'9','9','9','9','9','9','9','9','9','9','9','9','9','9','9','9','9','9','9','9','9','9','9','9','9','9','9','9','9','9','9','9','9','9','9','9','9','9','9','9','9','9','9','9','9','9','9','9','9','9',bE KX G ?_,bE KX G ?_,bE KX G ?_,bE KX G ?_,bE KX G ?_,bE KX G ?_,bE KX G ?_,bE KX G ?_,bE KX G ?_,bE KX G ?_,bE KX G ?_,bE KX G ?_,bE KX G ?_,bE KX G ?_,bE KX G ?_,bE KX G ?_,bE KX G ?_,bE KX G ?_,K51.gs_mk KX G ?_,K51.gt_mk KX G ?_ ?_ ?_ ?_,cM KX G ?_,cM KX G ?_,cM KX G ?_,cM KX G ?_,cM KX G ?_,cM KX G ?_,cM KX G ?_,cM KX G ?_,cM KX G ?_,cM KX G ?_,?_,?_,?_,?_,?_,?_,?_,?_,?_,?_,?_,?_,?_,?_,?_,?_,?_,?_,?_,?_,?_,DL.xck_of ?_ ?_ ?_ ?_ ?_ ?_ ?_ ?_ ?_ ?_ ?_ ?_ ?_ ?_⟩ ?Ha ?Hl ?_ ?_ ?Ha2 ?Hl2 ?_ ?_ ?_ ?Gh6 ?Gh7 ?Gh4 ?Gh5 ?_
  (case' Ha|Hl|Ha2|Hl2|Gh4|Gh6=>k_is)
  (case Gh5=>rfl)
  (case Gh7=>rfl)
  all_goals first|k_is|kernel_rfl|rfl|skip
end
