import PyProof.Rows.All
import Wide.All
import OpenK.AllK
import Wide.FinOn
import Lean
import PyProof.EqAt
import PyProof.EqKinds
import PyProof.TupleCall
import PySem.Challenge.RW_leastterms_k10_whole_sweeps_keep_the_lea
noncomputable section
set_option compiler.extract_closed false
set_option Elab.async false
set_option linter.all false
set_option autoImplicit true
set_option relaxedAutoImplicit true
set_option maxRecDepth 100000
open PySem renaming wpAny_bind->aa,Addr->ab,Value->ae,Shared->af,wpAny_pure->aj,wpAny->ao,model->aw,Program->aM,Expr->aR,starEach->aS,World->aV,Heap->aX,Around->a7,bootBuiltins->bC,wpAny_holding->bD,foldedSetIterable->bF,Comprehension->bH,mem_of_lookup->bL,mainGlobals->bO,rawInt->bS,Paired->bU,wpAny_call_entry->b9,wpAny_newObj_type->cg,compareOp->cm,wpAny_mono->cw,cellsFrom->cx,wpAny_field->cC,wpAny_setField_rec->cD,wpAny_truthy_bool->cM,Scope->cO,wpAny_callSpecial?_slot->cP,NameKind->dg,importedModules->dk,wpAny_rule->dG,wpAny_standAt->dM,Builtin->dN,wpAny_tryCatch->dP,PyData->dQ,binaryOp->dS,wpAny_updateSeq->dW,plainId_quiet->d7,FuncData->d8,wpAny_seqItems->el,Stmt->er,codeAny_builtin->eG,wpAny_askSetting->eV,wpAny_letGo->fb,wpAny_passesOwn->fk,wpAny_pyIter_list->fw,wpAny_setState_of->fx,Keyword->fF,swapsWithSole->fO,swappedStores->fP,assignEach->fV,wpAny_with_toks->fW,codeAny_mono->gf,wpAny_attempt->gq,wpAny_newList->gz,OsState->gD,wpAny_Call_Name_kw->gO,wpAny_pyIter_tuple->gT,IsEnum->g7,wpAny_assign_Name->ij,Arguments->iJ,exec_Assign_Name_used->iK,ElemsOf->iM,Params->iQ,Model->iS,wpAny_execs_nil->iU,IsPart->iV,pushCells_keeps->iX,wpAny_setEntries_of->i9,wpAny_setField->je,wpAny_newTuple->jf,wpAny_of_eq->jl,concat_meets->jp,wpAny_pyIter_slot->jH,fits_of_scanBound->jJ,noFill_tuple_add->jT,wpAny_isInstance->jV,SetTable->j0,PassesOwn->kl,wpAny_isTrue_Compare1->kM,BindsTo->kO,intText?->kU,builtinLookup_eq_fast->lh,wpAny_loadName_local->lp,wpAny_call->lq,seq_tuple_add->lH,wpAny_loadName_cell->lO,nums_intItems->lQ,wpAny_typeOf->lX,pushCells->md,sizeLine_eq->mR,seqIndex_of->mS,GenState->mV
open Option renaming some->XV,none->X9
open Bool renaming true->YP,false->Y1
abbrev Y2:=@if_pos
abbrev Z5:=@if_neg
open PyProof.Rows renaming arrOf->Z6,pendingOf->Z7
open PySem renaming sizeLine->KB
local macro_rules|`('1')=>`(by walk_at "e")
local macro_rules|`('2')=>`(by walk_at "s")
local macro_rules|`('3')=>`(by walk_at "z")
local macro_rules|`('4')=>`(by walk_at "u")
local macro_rules|`('5')=>`(by walk_at "g")
local macro_rules|`('6')=>`(by walk_at "i")
local macro_rules|`('7')=>`(by walk_at "fs")
local macro_rules|`('8')=>`(by walk_at "cs")
set_option hygiene false in
local macro_rules|`('9')=>`(K10.fa_mk KX G ?_ ?_ ?_ ?_)
local macro_rules|`('d')=>`(by lia)
local macro_rules|`('k')=>`(by simp)
local macro_rules|`('u')=>`(by decide)
local macro_rules|`('b')=>`(by kernel_rfl)
local macro_rules|`('c')=>`(by decide +kernel)
open PySem.Heap renaming get?_push_of_some->ag,get?_push_size->aJ,lt_size->aK,get?_update_other->bj,get?_update_self->bI,SameBut->cG,size_push->dh,ExtBut->jm
open PySem.W renaming Frag->ah,mg_none_of->bQ,fnOf->cy,boot_heap->cA,keepIn->cT,kla_fn->dO,findIn->eT,codeIn->eU,nsIn->gY,cellsFrom_some->iq,mg_of->iB,InstAt->ja,noTabs->jc,tabIn->jz,methodObj->jF,specialIn->jG,kla_obj->ko,kitOne->kS,tabObj->kW,mroIn->lG,ofPys->lI,OpenLaw->lZ,ofPy->l7,SharedT->mw,holds_law->mx,kitx_bool->mE,kitx_list->mF,kitx_dict->mG,plainGet->mX,instObj->nz,takesIn->nB,CodeHd->nO,isFn->n6
open List renaming mem_cons_of_mem->ai,mem_cons_self->al,mem_cons->am,getElem?_eq_some_iff->aq,all_eq_true->ar,length_map->au,mem_append_right->av,mem_filter->ax,getElem?_eq_getElem->ay,length_append->az,mem_map->aB,size_toArray->aF,getElem?_append_left->aG,mem_append->aH,range->aL,mem_of_getElem?->aN,length_cons->aO,replicate->aP,getElem?_eq_none_iff->aT,getD_eq_getElem?_getD->aY,length_filter_le->aZ,not_mem_nil->ba,contains_iff_mem->be,append_assoc->bg,map_cons->bh,map_map->bi,getElem?_append_right->bq,getElem?_set_ne->br,nodup_cons->bw,getElem?_set_self->bA,mem_append_left->bB,getElem?_map->bG,pairwise_cons->bK,mem_range->bM,append_nil->bP,map_append->bT,length_take->bZ,length_set->cb,pairwise_append->cf,length_eq_zero_iff->cj,length_drop->cr,getElem_mem->cu,take_append_drop->cz,mem_of_mem_take->cB,take_of_length_le->cE,mem_singleton->cF,any_eq_true->cI,perm_append_comm->cL,take_sublist->cN,filter_cons_of_neg->cQ,filter_cons_of_pos->cR,mem_of_mem_drop->cV,filter_cons->cY,drop_sublist->c8,mem_iff_getElem->dq,nodup_append->dF,drop_eq_getElem_cons->dJ,set_set->d6,lookup_cons->d9,length_singleton->ef,drop_drop->ei,find?_cons->eC,length_nil->eD,foldl_cons->eF,length_range->eJ,drop_append_of_le_length->eM,getElem?_cons_succ->eN,getElem?_cons_zero->eQ,filterMap_cons->eR,drop_of_length_le->fc,filter_eq_nil_iff->fe,set_cons_zero->fi,pairwise_map->fy,pairwise_iff_getElem->fB,mem_or_eq_of_mem_set->fE,lt_irrefl->fG,getElem?_take_of_lt->fK,getElem?_replicate->fN,any_cons->fQ,sum_cons->fR,filter_append->f6,find?_cons_of_neg->f7,flatMap_cons->f8,map_inj_left->ge,take_take->gg,set_append_right->gh,mem_reverse->gm,isEmpty_iff->gp,map_congr_left->gF,filter_eq_self->gG,filter_sublist->gH,nil_append->gK,filter_nil->gM,mem_filterMap->gN,set_cons_succ->hV,nodup_nil->ie,foldl_append->ik,any_eq_false->im,not_lt->iu,find?_cons_of_pos->iw,lt_trans->iz,all_cons->iA,getElem_map->iG,mem_flatMap->iH,forIn_cons->iW,range_succ->i0,getElem?_range->i7,take_succ->jh,countP_eq_length_filter->jj,getElem?_take->jq,zip_cons_cons->jt,getElem?_take_eq_none->jC,length_eraseIdx_of_lt->jD,flatten_cons->jI,filter_congr->jL,extract_eq_take_drop->jQ,getElem_inj->jS,cons_append->jU,take_length->jY,le_antisymm->jZ,length_erase_of_mem->j7,all_flatMap->j9,pairwise_singleton->ki,of_mem_zip->km,length->kB,pairwise_lt_range->kK,length_pos_of_mem->kL,length_replicate->kP,getElem?_toArray->kT,drop_zero->k8,cons_lt_cons_iff->lc,countP_mono_left->lj,mem_erase_of_ne->lC,set_append_left->lD,length_take_le'->lE,getElem_of_mem->lP,map_eq_nil_iff->lR,map_nil->lY,all_map->mh,filter_filter->mr,all_nil->ms,reverse_cons->mz,getElem_take->mI,getElem_drop->mJ,reverse_perm->mK,ext_getElem?->mL,map_id->mU,zipIdx_cons->m7,all_toArray->m8,isEmpty_nil->nj,drop_length->nk,isEmpty_map->nq,countP_cons->nu,length_zip->nE,sum_append->nG,filter_map->nJ,drop_take->nQ,drop_left->nR,take_left->nT,take_add->nX
open False renaming elim->ak
open Array renaming length_toList->aA,getElem?_eq_getElem->aU,toList_append->bR,size_push->cn,getElem?_toList->di,perm_iff_toList_perm->dE,toList_push->eI,getElem_toList->fC,size_append->gc,map->gj,toList_setIfInBounds->jA,getElem?_eq_some_iff->jB,size_setIfInBounds->jX,getElem?_eq_none->kI,size_map->k9,mk->ll,toList_extract->lv,toList_reverse->lz,append_assoc->lU,toList->lV,toList_inj->m9,toList_map->ng,size_zip->nU
open PyProof.Rows renaming wpS_bind->aC,wpS_pure->aI,KeyKind->aW,Keyed->a8,SortSt->bV,wpS_forRange->cJ,wpS_mono->dr,StrsAre->eu,envOfC->eS,slot_tuple_getitem->e8,wpS_modify->fA,callWith_type1->gi,wpS_get->gE,AllBare->hW,listUpdate_at->iy,listItems_at->iZ,KeysOf->i8,wpS_lift->jg,seqEpoch_at->jn,assignInOrder_cons->jo,SortedToK->js,KK_mirror_equal->kr,entry_list_sort->ku,subscriptTail_builtinR->kC,wpS_reverse->kG,IntsAre->kQ,slot_list_sort->lf,args_list_sort->lg,strKind_oneLt->lL,plain_sorted->mj,entry_sorted->ml,args_sorted1->mm,kind_sorted->mT,Call_->oa
open Nat renaming le_refl->aD,le_trans->aE,lt_of_lt_of_le->a9,ne_of_lt->bo,lt_irrefl->bz,zero_le->bX,lt_succ_self->cH,succ_pos->cU,pow_le_pow_right->cX,lt_succ_of_lt->cZ,zero_max->dL,add_sub_cancel_left->dR,le_succ->dZ,ne_of_gt->eB,zero_add->fh,le_of_lt->fJ,min_eq_left->fZ,le_of_eq->gW,lt_of_le_of_lt->gX,sub_self->g9,le_add_right->iD,reduceLeDiff->iI,lt_or_ge->i4,reduceAdd->jE,pow_succ->j6,reduceLT->j8,le_antisymm->kw,testBit_lt_two_pow->kJ,le_of_ble_eq_true->li,not_lt->lu,add_assoc->lK,lt_trans->l9,add_comm->ma,add_zero->mi,one_le_two_pow->mq,le_of_succ_le->mC,lt_of_succ_lt->mP,min_le_right->mY,one_ne_zero->nF,testBit_and->nK
open Bool renaming and_eq_true->aQ,false_eq_true->bJ,false_ne_true->ci,or_eq_true->dH,eq_iff_iff->dU,not_eq_true'->eL,or_eq_false_iff->fD,not_true->gC,and_true->iC,and_eq_false_iff->iO,and_eq_true_iff->i3,not_false->ji,false_or->jy,false_and->kN,and_false->kZ
open PySem.PyData renaming eqv->bd,list->ee,eqvAll->fv,int->gR,tuple->gU,canLay0->jb,depth->me,canLayAll0->mD,depthAll->nD
open PySem.Obj renaming mapSeq->bu,data_mapFields->gZ,isFreed_of_fields->kX,putSet->lB,cls_mapFields->mH
open PySem.F renaming plain_min_loop->bE,entry_min_loop->d0,slot_str_ascii_iterator_next->eE,slot_enumerate_next->fo,slot_tuple_iterator_next->fu,args_tuple_add_2->gQ,entry_tuple_add->ig,slot_tuple_add->ir,args_str_ascii_iterator_next_1->iE,entry_str_ascii_iterator_next->iP,args_tuple_iterator_next_1->jd,entry_tuple_iterator_next->jr,slot_dict_delitem->jM,slot_dict_getitem->jP,plainAttrs_list->kg,args_enumerate_next_1->kh,plainAttrs_str->kE,entry_enumerate_next->kF,slot_list_append->kR,slot_enumerate_iter->kY,slot_list_extend->k7,attr_ValueError->mB,plain_list_iadd->mM,plain_min->mN,entry_min->mO,kind_min->np
open PySem.Builtin.Str renaming occurrences->bN
open Option.some renaming inj->ck
open Classical renaming byContradiction->cq
open PySem.Heap.SameBut renaming update->cK
open Ne renaming symm->cS
open PySem.NameKind renaming free->c9,cell->dD
open Sum renaming inr->de,inl->jR
open PySem.Around renaming under_plainId->dB,frames_deeper->lr
open PySem.Builtin.SmallTypes renaming nextOf->dI,ownedTupleHandOut->g8,ownedTupleIsFree->ic
open List.Perm renaming refl->eo,append_left->fq,swap->nV
open List.Pairwise renaming nil->eH,imp->jK
open PySem.SetTable renaming below->eZ,grown->fH,fits->nZ
open PySem.Value renaming type->e9,isStrOf->ft,ref->fU,none->gk,builtin->gu,isInt->io,isStrOf_shape->i6,int->lS,str->lT,bool->ny
open And renaming intro->fg
open PySem.Builtin.Builtins renaming bindParams->fj
open PySem.Builtin.Slice renaming slicePlaces->fz,sliceAdjust->gJ,sliceApplied->jx
open PySem.Builtin.Tuple renaming tupleExact->fL
open PySem.Builtin.List renaming listTooLong->fM,listLengthHint->ju,listExtendWith->jv,listSameRef->j4,listItems->kH
open PySem.Str renaming ofString->fT
open True renaming intro->fX
open ForInStep renaming yield->fY
open Int renaming toNat_natCast->f9,emod_lt_of_pos->hJ,emod_nonneg->i5,natCast_add->nM
open PyProof.Rows.KeyOrd renaming kle_of_klt->gd,kle_trans->iF
open PySem.Calls renaming call_function_entry->gL,Name_function_global->jw,spliced_cons->lW,spliced_nil->my
open Option renaming isSome_iff_exists->gP,none->jk,map_some->kn,map_eq_some_iff->kA,isSome_some->l8,getD_none->mZ,map->nv
open PySem.Builtin renaming bitAnd->h9,bitOr->ix
open PySem.SetTable.below renaming go->il
open Sum.inr renaming inj->ip
open Array.Perm renaming refl->iY
open PySem.Builtin.ObjectAttr renaming bindTo->jN
open PySem.Walks renaming list->jO
open PySem.AutoSeq1 renaming sub_tuple_tuple->jW
open PySem.Builtin.Frozenset renaming addrOf->j3,oneOther->nY,sizeOf->n9,slot0->og
open PySem.SeqAt.EqAt renaming int_int->j5
open PySem.PassesOwn renaming never->kz
open PyProof.Rows.SortSt renaming mk'->lA
open PySem.Paired renaming length->lF
open PySem.Code renaming compLoop->lJ,compStart->nN
open List.cons renaming inj->lN,injEq->nH
open PySem.pickOrder renaming go->mn
open Nat.succ renaming inj->mo
open List.Sublist renaming refl->mQ
open Prod renaming ext->mW
open PySem.W.WData renaming int->nW
open PySem.SeqAt renaming shaped->n8
open PySem.W.OpenRow renaming toRowW->oh
open Prod.mk renaming inj->oi
open Sum.inl renaming inj->oj
open PySem.Shared renaming heap->om
open PySem.Heap.IsSliceOf renaming new->on
namespace K10
open PySem PySem.W
noncomputable def ty(i:Nat):er:=PySem.Challenge.pw_leastterms_k10_whole_sweeps_keep_the_lea.main.body.getD i (.Pass ⟨0,0,0,0⟩)
def Qv:aM:={ PySem.Challenge.pw_leastterms_k10_whole_sweeps_keep_the_lea with main:={ PySem.Challenge.pw_leastterms_k10_whole_sweeps_keep_the_lea.main with body:=[ty 1,ty 2,ty 4,ty 5,ty 7,ty 8,ty 9,ty 10,ty 11,ty 12,ty 14,ty 15,ty 16,ty 17,ty 18,ty 19,ty 20,ty 22,ty 23,ty 24,ty 25,ty 26,ty 27,ty 29,ty 30,ty 31,ty 32,ty 33,ty 34,ty 35,ty 36,ty 37,ty 39,ty 40,ty 41,ty 42,ty 43,ty 44,ty 45,ty 47,ty 48,ty 49,ty 50,ty 51,ty 52,ty 53,ty 54,ty 55] } }
def Lv:List PySem.Str:=[fT "SWITCHES_BY_POINTS"]
def Xv:af → Bool:=λs=>PySem.W.xlAt Qv [] s&&PySem.W.recOk (PySem.W.RowW.records (oh PySem.Challenge.rw_leastterms_k10_whole_sweeps_keep_the_lea.row)) s
def bY{α a d:Type}{x:Option α}{f:α → a}{g:α → d}{b:a}{c:d}(e:x.map f=XV b)(h:x.map g=XV c):x.map (λs=>(f s,g s))=XV (b,c):=by
  cases x with
  |none=>cases e
  | some s=>
    have i:f s=b:=ck e;have j:g s=c:=ck h;show XV (f s,g s)=_;rw[i,j]
end K10
section
open PySem PySem.W PyProof.Rows
set_option maxRecDepth 100000 in
def K10.ws:PySem.Challenge.rw_leastterms_k10_whole_sweeps_keep_the_lea.wellSaid=YP:=by kernel_rfl
local macro_rules|`(tactic| o_head $H)=>`(tactic| skip)
set_option maxRecDepth 100000 in
set_option maxHeartbeats 0 in
def K10.hp:False → PySem.Challenge.rw_leastterms_k10_whole_sweeps_keep_the_lea.Holds:=by
  intro a
  w_on;refine mx K10.ws λb=>?_;k_head
  all_goals exact a.elim
end

namespace DLT
open PySem PySem.W
noncomputable def pr(tb:String → Option dN)(p:aM)(w:aV)(m:Nat)(an:Option ae):Nat → mw → Thread → Option mw
  |0,_,_=>X9
  | k+1,a,th=>match through th with
    |true=>XV a
    | false=>match stepOk m an th with
      |false=>X9
      | true=>match stepT (denote tb) p w a th with
        |some (b,Sd)=>pr tb p w m an k b Sd
        |none=>X9
theorem pI{d:String → Option dN}{p:aM}{w:aV}{m:Nat}{e:Option ae}:∀{k:Nat}{a z:mw}{c:Thread},pr d p w m e k a c=XV z → topRun d p w m e k a.abs c=XV z.abs
  |0,_,_,_,H=>by cases H
  | k+1,a,z,c,H=>by
    unfold pr at H;unfold topRun;cases g:through c with
    |true=>rw[g] at H;cases H;rfl
    | false=>
      rw[g] at H;cases h:stepOk m e c with
      |false=>rw[h] at H;cases H
      | true=>
        rw[h] at H;cases f:stepT (denote d) p w a c with
        |none=>rw[f] at H;cases H
        |some q=>obtain⟨b,i⟩:=q;rw[f] at H;rw[stepT_spec f];exact pI H
def pH:Nat → BT → List Obj → BT
  |_,T,[]=>T
  |i,T,o::os=>pH (i+1) (T.ins i o) os
noncomputable def pk(P:iQ):BT:=pH 0 .nil (cA P).objs.toList
def boot_abs:∀P:iQ,absHeap (pk P) (cA P).objs.size (cA P).life=cA P:=λP=>by kernel_rfl
noncomputable def HC(P:iQ)(os:gD):mw:=⟨pk P,(cA P).objs.size,(cA P).life,ll [],boot_drawn,boot_toks,os⟩
noncomputable def s0(P:iQ)(os:gD):af:=⟨cA P,ll [],boot_drawn,boot_toks,os⟩
def pL(P:iQ)(a:gD):(HC P a).abs=s0 P a:=by unfold HC s0 SharedT.abs;rw[boot_abs P]
def pG:∀P:iQ,((cA P).isNs bO&&(ll []:Array mV).size==0,(cA P).objs.size,(cA P).nsMap bO "__annotations__")=(YP,11,XV (.ref 6)):=λP=>by kernel_rfl
def chk(p:aM)(h:aX)(s:af):Bool:=staticsOk (dk p.main.body) h s.heap&&namesBound p s.heap&&gensDone s&&laidKept h s.heap
def pC{p:aM}{w:aV}{P:iQ}{b:gD}{N:Nat}{α:Type}{f:af → α}{a:α}(h:(pr treeTable p w 11 (XV (.ref 6)) N (HC P b) (topStub p)).map (λs=>(chk p (cA P) s.abs,f s.abs))=XV (YP,a)):(topFrom treeTable p w N (s0 P b)).map f=XV a:=by
  obtain⟨s,e,d⟩:=kA.mp h;have r:=pI e;rw[pL] at r;obtain⟨g,i,j⟩:_ ∧ _ ∧ _:=by simpa only[Prod.mk.injEq] using pG P
  obtain⟨k,l⟩:=oi d;unfold topFrom;show nv f (match (cA P).isNs bO&&(ll []:Array mV).size==0 with
    | true=>(topRun treeTable p w (cA P).objs.size ((cA P).nsMap bO "__annotations__") N (s0 P b) (topStub p)).bind λc=>match chk p (cA P) c with
      |true=>XV c
      |false=>X9
    |false=>X9)=XV a
  rw[g,i,j,r];show nv f (match chk p (cA P) s.abs with
      |true=>XV s.abs
      |false=>X9)=XV a
  rw[k];exact congrArg XV l
def pN{α a e h:Type}{x:Option α}{f:α → a×e}{g:α → h}{b:a}{c:e}{d:h}(i:x.map (λs=>((f s).1,g s))=XV (b,d))(j:x.map (λs=>(f s).2)=XV c):x.map (λs=>(f s,g s))=XV ((b,c),d):=by
  cases x with
  |none=>cases i
  | some s=>
    obtain⟨k,l⟩:=oi (ck i);have m:(f s).2=c:=ck j;exact congrArg XV (mW (mW k m) l)
noncomputable abbrev R(p:aM)(N:Nat)(w:aV)(P:iQ)(os:gD):Option mw:=pr treeTable p w 11 (XV (.ref 6)) N (HC P os) (topStub p)
def left_of{p q:aM}{loose:List Str}{Xt:af → Bool}{α:Type}{Yf:af → α}{Ya:aV → α}{N:Nat}{b:Bool}(a:String)(e:opening p=plainProg p.main.scope.names)(i:Nat.ble 600 N=YP)(j:∀s,fenceModules? p s=XV s)
    (l:∀(v:Bool)(w:aV)(c:gD),(R p N (w.withFollow a v) w.params c).map (λs=>(chk p (cA w.params) s.abs,((openSeen q loose (dk p.main.body) Xt b s.abs).1,Yf s.abs)))=XV (YP,(openGood q loose).1,Ya (w.withFollow a v)))
    (m:∀(v:Bool)(w:aV)(c:gD),(R p N (w.withFollow a v) w.params c).map (λs=>(chk p (cA w.params) s.abs,(openSeen q loose (dk p.main.body) Xt b s.abs).2))=XV (YP,(openGood q loose).2)):
    LeftO p q loose Xt Yf Ya N b:=LeftO.of_split a λw=>by
  obtain⟨⟨h,n,d,k,c⟩,x,y⟩:=kA.mp (boot_open e i j w);obtain⟨rfl,rfl,rfl,rfl⟩:h=cA w.params ∧ n=ll [] ∧ d=boot_drawn ∧ k=boot_toks:=by simpa using y
  rw[x];have go (v:Bool):(topFrom treeTable p (w.withFollow a v) N (s0 w.params c)).map (λs=>(openSeen q loose (dk p.main.body) Xt b s,Yf s))=XV (openGood q loose,Ya (w.withFollow a v)):=
    pN (f:=λs=>openSeen q loose (dk p.main.body) Xt b s) (g:=Yf) (pC (f:=λs=>((openSeen q loose (dk p.main.body) Xt b s).1,Yf s)) (l v w c)) (pC (f:=λs=>(openSeen q loose (dk p.main.body) Xt b s).2) (m v w c))
  exact congrArg XV (mW (go Y1) (go YP))
end DLT

namespace K10
open PySem PySem.W
abbrev As:List ab:=[2,3,15,22,23,24,25,28,35,36,37,40,42,43,45,46,47,49,50,52,53,54,55,57,58,60,61,62,65,66,67,69,70,72,73,74,76,77,79,80,81,84,85,86,89,90,91,93,94,96,97,98,101,102,103,105,106,108,109,110,112,113,115,116,117,120,121,122,125,126,127,130,131,132,135,136,137,139,140,142,143,144,147,148,149,152,153,154,157,158,159,162,163,164,166,167,169,170,171,174,175,176,179,180,181,184,185,186,189,190,191,194,195,196,198,199,201,202,203,206,207,208,211,212,213,216,217,218,221,222,223,226,227,228,230,231,233,234,235,237,238,240,241,242,244,245,247,248,249,251,252,254,255,256,258,259,261,262,263,266,267,268,270,271,273,274,275,278,279,280,283,284,285,288,289,290,293,294]
noncomputable def Hk:PySem.W.Hook:=PySem.W.kmHook K10.hp.heap_1 K10.As (λ_=>by kernel_rfl) [214]
abbrev Pg:aM:=PySem.Challenge.rw_leastterms_k10_whole_sweeps_keep_the_lea.row.prog
set_option maxRecDepth 100000 in
def la1:∀(w:aV)(a:gD),(DLT.R Pg 3646 (w.withFollow "special-get-raises" Y1) w.params a).map (λs=>(DLT.chk Pg (cA w.params) s.abs,((openSeen Qv Lv (dk Pg.main.body) Xv YP s.abs).1,(Hk.obs s.abs,decide (0<s.abs.toks)))))=XV (YP,((openGood Qv Lv).1,(Hk.val (w.withFollow "special-get-raises" Y1),YP))):=λw a=>by kernel_rfl
set_option maxRecDepth 100000 in
def HH:∀(w:aV)(a:gD),(DLT.R Pg 3646 (w.withFollow "special-get-raises" Y1) w.params a).map (λs=>(DLT.chk Pg (cA w.params) s.abs,(openSeen Qv Lv (dk Pg.main.body) Xv YP s.abs).2))=XV (YP,(openGood Qv Lv).2):=λw a=>by kernel_rfl
set_option maxRecDepth 100000 in
def lb1:∀(w:aV)(a:gD),(DLT.R Pg 3646 (w.withFollow "special-get-raises" YP) w.params a).map (λs=>(DLT.chk Pg (cA w.params) s.abs,((openSeen Qv Lv (dk Pg.main.body) Xv YP s.abs).1,(Hk.obs s.abs,decide (0<s.abs.toks)))))=XV (YP,((openGood Qv Lv).1,(Hk.val (w.withFollow "special-get-raises" YP),YP))):=λw a=>by kernel_rfl
set_option maxRecDepth 100000 in
def lb2:∀(w:aV)(a:gD),(DLT.R Pg 3646 (w.withFollow "special-get-raises" YP) w.params a).map (λs=>(DLT.chk Pg (cA w.params) s.abs,(openSeen Qv Lv (dk Pg.main.body) Xv YP s.abs).2))=XV (YP,(openGood Qv Lv).2):=λw a=>by kernel_rfl
def lw:PySem.W.LeftO Pg Qv Lv Xv (λs=>(Hk.obs s,decide (0<s.toks))) (λw=>(Hk.val w,YP)) 3646:=DLT.left_of "special-get-raises" rfl rfl (λ_=>rfl) (λv=>match v with|false=>la1|true=>lb1) (λv=>match v with|false=>HH|true=>lb2)
end K10

-- MA: your Si module here, as the last of Sb rows
namespace L2
open PySem PySem.Spec PyProof.Rows
abbrev Key:=Sum Int Str
def BQ:Key->ae->Bool
 |.inl k,v=>io k v
 |.inr x,v=>ft x v
noncomputable def UG(w:aV):Key->Int
 |.inl k=>hashInt k
 |.inr x=>hashStr w x
def yv:∀{k:Key}{v:ae},BQ k v=YP->(∃i t,k=jR i/\v=lS i t)\/(∃x t,k=de x/\v=lT x t)
 | .inl i,v,h=>by
  obtain⟨t,e⟩:=Value.isInt_shape (k:=i) (v:=v) h;exact .inl ⟨i,t,rfl,e⟩
 | .inr x,v,h=>by
  obtain⟨t,e⟩:=i6 (x:=x) (v:=v) h;exact .inr ⟨x,t,rfl,e⟩
def zcs(i:Int)(t:Tok):BQ (.inl i) (.int i t)=YP:=by simp[BQ,io]
def zdF(x:Str)(t:Tok):BQ (.inr x) (.str x t)=YP:=by simp[BQ,ft]
def VP(a b:Int):decide ((jR a:Key)=jR b)=(a==b):=by
 by_cases e:a=b
 ·subst e;simp
 ·have h:¬ (jR a:Key)=jR b:=λq=>e (oj q);rw[decide_eq_false h];exact(beq_eq_false_iff_ne.mpr e).symm
def V6(a b:Str):decide ((de a:Key)=de b)=decide (a=b):=by
 by_cases e:a=b
 ·subst e;simp
 ·have h:¬ (de a:Key)=de b:=λq=>e (ip q);rw[decide_eq_false h,decide_eq_false e]
def V7(a:Int)(b:Str):decide ((jR a:Key)=de b)=Y1:=decide_eq_false (λq=>nomatch q)
def Wj(a:Str)(b:Int):decide ((de a:Key)=jR b)=Y1:=decide_eq_false (λq=>nomatch q)
def xb(prog:aM)(w:aV):PySem.KeyKind prog w Key where
 is:=BQ
 hash:=UG w
 inj:=λv a b ha hb=>by
  rcases yv ha with⟨i,t,rfl,rfl⟩|⟨x,t,rfl,rfl⟩
  ·rcases yv hb with⟨j,u,rfl,e⟩|⟨y,u,rfl,e⟩
   ·injection e with e1 _;rw[e1]
   ·exact nomatch e
  ·rcases yv hb with⟨j,u,rfl,e⟩|⟨y,u,rfl,e⟩
   ·exact nomatch e
   ·injection e with e1 _;rw[e1]
 byValue:=λk v h=>by
  rcases yv h with⟨i,t,rfl,rfl⟩|⟨x,t,rfl,rfl⟩<;>rfl
 pyHash:=λhv h=>by
  rcases yv hv with⟨i,t,rfl,rfl⟩|⟨x,t,rfl,rfl⟩
  ·exact wpAny_pyHash_int h
  ·exact wpAny_pyHash_str h
 eqBool:=λhu hv h=>by
  rcases yv hu with⟨i,t,rfl,rfl⟩|⟨x,t,rfl,rfl⟩
  ·rcases yv hv with⟨j,u,rfl,rfl⟩|⟨y,u,rfl,rfl⟩
   ·rw[VP] at h;exact wpAny_eqBool_int h
   ·rw[V7] at h;exact SeqAt.EqAt.int_str i t y u _ _ _ _ h
  ·rcases yv hv with⟨j,u,rfl,rfl⟩|⟨y,u,rfl,rfl⟩
   ·rw[Wj] at h;exact SeqAt.EqAt.str_int x t j u _ _ _ _ h
   ·rw[V6] at h;exact wpAny_eqBool_str h
 «strs»:=λk x t v h=>by
  rcases yv h with⟨i,u,rfl,e⟩|⟨y,u,rfl,e⟩
  ·exact nomatch e
  ·injection e with e1 _;subst e1;cases v<;>rfl
def z9i(prog:aM)(w:aV)(i:Int)(t:Tok):(xb prog w).is (.inl i) (.int i t)=YP:=zcs i t
def z9A(prog:aM)(w:aV)(x:Str)(t:Tok):(xb prog w).is (.inr x) (.str x t)=YP:=zdF x t
inductive V where
 |non|bl (b:Bool)|int (i:Int)|str (x:Str)|byt (b:Array UInt8)|flt (b:UInt64)|ref (a:ab)|ty (n:String)
 deriving DecidableEq
def RelV:V->ae->Prop
 |.non,u=>u=gk
 |.bl b,u=>u=ny b
 |.int i,u=>∃t,u=lS i t
 |.str x,u=>∃t,u=lT x t
 |.byt b,u=>∃t,u=Value.bytes b t
 |.flt b,u=>∃t,u=Value.float b t
 |.ref a,u=>u=fU a
 |.ty n,u=>u=e9 n
abbrev oA:List V->List ae->Prop:=bU RelV
def oA.length{xs:List V}{a:List ae}(r:oA xs a):xs.length=a.length:=lF r
theorem oA.get:∀{xs:List V}{a:List ae}{i:Nat}{x:V},oA xs a->xs[i]?=XV x->∃u,a[i]?=XV u/\RelV x u
 |_,_,_,_,.nil,e=>by simp at e
 |_,_,0,_,.cons r _,e=>by simp at e;subst e;exact⟨_,rfl,r⟩
 | _,_,i+1,x,.cons _ t,e=>by
  obtain⟨u,b,c⟩:=oA.get (i:=i) (x:=x) t (by simpa using e);exact⟨u,by simpa using b,c⟩
theorem oA.set{x:V}{u:ae}(r:RelV x u):∀{xs:List V}{a:List ae}(i:Nat),oA xs a->oA (xs.set i x) (a.set i u)
 |_,_,_,.nil=>.nil
 |_,_,0,.cons _ t=>.cons r t
 |_,_,i+1,.cons q t=>.cons q (oA.set r i t)
theorem oA.append:∀{xs a:List V}{b c:List ae},oA xs b->oA a c->oA (xs++a) (b++c)
 |_,_,_,_,.nil,s=>s
 |_,_,_,_,.cons r t,s=>.cons r (oA.append t s)
theorem oA.take:∀{xs:List V}{a:List ae}(n:Nat),oA xs a->oA (xs.take n) (a.take n)
 |_,_,0,_=>.nil
 |_,_,_+1,.nil=>.nil
 |_,_,n+1,.cons r t=>.cons r (oA.take n t)
theorem oA.drop:∀{xs:List V}{a:List ae}(n:Nat),oA xs a->oA (xs.drop n) (a.drop n)
 |_,_,0,r=>r
 |_,_,_+1,.nil=>.nil
 |_,_,n+1,.cons _ t=>oA.drop n t
def o0:Option V->Option ae->Prop
 |some v,XV u=>RelV v u
 |none,X9=>True
 |_,_=>False
def KV{κ:Type}:List (κ×V)->List (κ×ae)->Prop:=bU λ(p:κ×V)(q:κ×ae)=>p.1=q.1/\RelV p.2 q.2
def kV:Key->V
 |.inl i=>.int i
 |.inr x=>.str x
inductive HO where
 |lst (xs:List V)
 |tup (xs:List V)
 |dK (k_:List (Key×V))|dT (k_:List (List Key×V))
 |set (S:Int->Bool) (n:Nat)
 |ins (C dx:ab) (fs:List (Str×V))
 |own (x:ab)
 |xd (fs:List (Str×V))
 |met (f x:ab)
 |rng (lo hi:Int)
 |frz (o:Obj) (u:HO)
 |tbl (ps:Array ae)
 |ext (φ:aX->Prop)
abbrev Hp:=ab->Option HO
noncomputable def upd(H:Hp)(a:ab)(o:HO):Hp:=λb=>if b=a then XV o else H b
def rA{H:Hp}{a:ab}{o:HO}:upd H a o a=XV o:=by unfold upd;rw[Y2 rfl]
def qf{H:Hp}{a b:ab}{o:HO}(h:b≠a):upd H a o b=H b:=by unfold upd;rw[Z5 h]
def U4{H:Hp}{a b:ab}{o u:HO}(h:H a=XV o)(h':H b=XV u)(d:o≠u):a≠b:=by intro e;subst e;rw[h] at h';exact d (ck h')
def sk{H:Hp}{a b:ab}{o:HO}(h:H a=XV o)(h':H b=X9):a≠b:=by intro e;subst e;rw[h] at h';cases h'
def oU(h:aX)(a:ab)(items:Array ae):Prop:=∃o,h.get? a=XV o/\o.cls=.type "tuple"/\(∃n,o.data=.seq items n)/\o.dict=X9
def oU.tup{h:aX}{a:ab}{items:Array ae}(x:oU h a items):IsTup h a items:=let ⟨o,e,c,d,_⟩:=x;⟨o,e,c,d⟩
def oU.new(h:aX)(items:Array ae):oU (h.push { cls:=.type "tuple",data:=.seq items }) h.objs.size items:=⟨_,aJ _ rfl,rfl,⟨_,rfl⟩,rfl⟩
section
variable(P:aM)(w:aV)
def oN(H:Hp)(h:aX)(a:ab):HO->Prop
 |.lst xs=>xs.length<=KB/\∃(h_:List ae)(n:Nat),oA xs h_/\h.get? a=XV { cls:=.type "list",data:=.seq h_.toArray n }
 |.tup xs=>xs.length<=KB/\∃h_:List ae,oA xs h_/\oU h a h_.toArray
 |.dK k_=>k_.length<=KB/\(a==sysModules)=Y1/\∃vs,KV k_ vs/\h.DictOf (xb P w) a vs
 | .dT k_=>k_.length<=KB/\(a==sysModules)=Y1/\∃xs:List (List Key×ab×ae),
   bU (λ(p:List Key×V)(q:List Key×ab×ae)=>p.1=q.1/\H q.2.1=XV (.tup (p.1.map kV))/\RelV p.2 q.2.2) k_ xs/\
   ∃o es ep,h.get? a=XV o/\o.ExactDict/\o.data=.dict es ep/\es.toList=xs.map (entryOfKey (tupleKind (xb P w)))/\(xs.map (·.1)).Nodup
 |.set S n=>h.SetOf (intKind P w) a S n
 | .ins C dx fs=>H dx=XV (.own a)/\fs.length<=1000/\dx≠a/\h.get? a=XV (nz C dx)/\
   ∃mA,h.Ns1 dx mA/\(∀f,o0 (fs.lookup f) (mA f))/\PySem.Within mA (fs.map (·.1))
 |.own _=>∃o,h.get? a=XV o
 |.xd fs=>∃mA,h.Ns1 a mA/\∀f,o0 (fs.lookup f) (mA f)
 |.rng lo hi=>∃t u v,h.get? a=XV { cls:=.type "range",data:=.fields #[.int lo t,.int hi u,.int 1 v] }
 |.frz o u=>h.get? a=XV o/\oN H h a u
 |.tbl ps=>h.get? a=XV { cls:=.none,data:=.fields ps }
 |.met f x=>h.get? a=XV (jF (.ref f) (.ref x))
 |.ext φ=>φ h/\(∃o,h.get? a=XV o)/\∀h1 h2:aX,φ h1->(∀o,h1.get? a=XV o->h2.get? a=XV o)->φ h2
def HOk(H:Hp)(h:aX):Prop:=∀a o,H a=XV o->oN P w H h a o
end
section
variable{P:aM}{w:aV}{H H':Hp}{h h':aX}{a:ab}{o:HO}
def oN.lt(x:oN P w H h a o):a<h.objs.size:=by
 cases o with
 |lst xs=>obtain⟨_,_,_,_,e⟩:=x;exact aK e
 |tup xs=>obtain⟨_,_,_,p⟩:=x;exact(oU.tup p).lt
 |dK k_=>obtain⟨_,_,_,_,o,_,_,e,_⟩:=x;exact aK e
 |dT k_=>obtain⟨_,_,_,_,o,_,_,e,_⟩:=x;exact aK e
 |set S n=>obtain⟨o,_,_,_,e,_⟩:=x;exact aK e
 |ins C dx fs=>obtain⟨_,_,_,e,_⟩:=x;exact aK e
 |own y=>obtain⟨_,e⟩:=x;exact aK e
 |xd fs=>obtain⟨_,⟨_,_,_,e,_⟩,_⟩:=x;exact aK e
 |rng lo hi=>obtain⟨_,_,_,e⟩:=x;exact aK e
 |frz ob u=>obtain⟨e,_⟩:=x;exact aK e
 |tbl ps=>exact aK (show h.get? a=XV _ from x)
 |met f y=>exact aK (show h.get? a=XV _ from x)
 |ext φ=>obtain⟨_,⟨_,e⟩,_⟩:=x;exact aK e
theorem Paired.mapP{α c:Type}{F G:α->c->Prop}:∀{d:List α}{e:List c},bU F d e->(∀a b,F a b->G a b)->bU G d e
 |_,_,.nil,_=>.nil
 |_,_,.cons r t,f=>.cons (f _ _ r) (Paired.mapP t f)
def oN.stay(x:oN P w H h a o)(k:∀b u,(b=a\/H b=XV (.own a))->h.get? b=XV u->h'.get? b=XV u)
  (B:∀b,H b=XV (.own a)->H' b=XV (.own a)) (D:∀b xs,H b=XV (.tup xs)->H' b=XV (.tup xs)):oN P w H' h' a o:=by
 induction o with
 |lst xs=>obtain⟨z,l,n,r,e⟩:=x;exact⟨z,l,n,r,k _ _ (.inl rfl) e⟩
 |tup xs=>obtain⟨z,l,r,g,e,c⟩:=x;exact⟨z,l,r,g,k _ _ (.inl rfl) e,c⟩
 |dK k_=>obtain⟨z,y,E,r,g,i,j,e,c⟩:=x;exact⟨z,y,E,r,g,i,j,k _ _ (.inl rfl) e,c⟩
 | dT k_=>
  obtain⟨z,y,xs,r,g,i,j,e,c⟩:=x;exact⟨z,y,xs,Paired.mapP r λp q z=>⟨z.1,D _ _ z.2.1,z.2.2⟩,g,i,j,k _ _ (.inl rfl) e,c⟩
 |set S n=>obtain⟨g,i,j,t,e,c⟩:=x;exact⟨g,i,j,t,k _ _ (.inl rfl) e,c⟩
 | ins C dx fs=>
  obtain⟨d,z,F,e,m,⟨s,i,j,G,c⟩,r⟩:=x;exact⟨B _ d,z,F,k _ _ (.inl rfl) e,m,⟨s,i,j,k _ _ (.inr d) G,c⟩,r⟩
 |own y=>obtain⟨g,e⟩:=x;exact⟨g,k _ _ (.inl rfl) e⟩
 |xd fs=>obtain⟨m,⟨s,i,j,e,c⟩,r⟩:=x;exact⟨m,⟨s,i,j,k _ _ (.inl rfl) e,c⟩,r⟩
 |rng lo hi=>obtain⟨t,u,v,e⟩:=x;exact⟨t,u,v,k _ _ (.inl rfl) e⟩
 |frz g u ih=>obtain⟨e,q⟩:=x;exact⟨k _ _ (.inl rfl) e,ih q⟩
 | tbl ps=>
  have e:h.get? a=XV { cls:=.none,data:=.fields ps }:=x;show h'.get? a=XV { cls:=.none,data:=.fields ps };exact k a _ (.inl rfl) e
 | met f y=>
  have e:h.get? a=XV (jF (.ref f) (.ref y)):=x;show h'.get? a=XV (jF (.ref f) (.ref y));exact k a _ (.inl rfl) e
 |ext φ=>obtain⟨p,⟨o,e⟩,A⟩:=x;exact⟨A _ _ p λo q=>k _ _ (.inl rfl) q,⟨o,k _ _ (.inl rfl) e⟩,A⟩
def HOk.lt(x:HOk P w H h)(e:H a=XV o):a<h.objs.size:=(x a o e).lt
def HOk.fresh(x:HOk P w H h)(e:h.objs.size<=a):H a=X9:=by
 cases q:H a with
 |none=>rfl
 |some u=>exact absurd (a9 (x.lt q) e) (bz _)
def HOk.kept(x:HOk P w H h)(k:∀b u,h.get? b=XV u->h'.get? b=XV u):HOk P w H h':=λa o e=>
 (x a o e).stay (λb u _ q=>k b u q) (λ_ q=>q) λ_ _ q=>q
def HOk.laid(x:HOk P w H h)(k:∀b u,h.get? b=XV u->h'.get? b=XV u)(i:h.objs.size<=a)(d:oN P w (upd H a o) h' a o):HOk P w (upd H a o) h':=λb u e=>by
 have f:=x.fresh i;by_cases g:b=a
 ·subst g;rw[rA] at e;cases e;exact d
 ·rw[qf g] at e;exact(x b u e).stay (λc v _ q=>k c v q) (λc q=>by rw[qf (sk q f)];exact q) λc j q=>by rw[qf (sk q f)];exact q
end
def Rd(H:Hp)(a:ab)(u:HO):Prop:=H a=XV u \/ ∃o,H a=XV (.frz o u)
def Rd.of(h:H a=XV u):Rd H a u:=.inl h
def Rd.ok(r:Rd H a u)(x:HOk P w H h):oN P w H h a u:=by
 rcases r with r|⟨o,r⟩
 ·exact x a u r
 ·obtain⟨_,q⟩:=x a _ r;exact q
def FD:Option HO->Prop
 |some (.lst _)=>True
 |some (.dK _)=>True
 |some (.dT _)=>True
 |some (.set _ _)=>True
 |some (.ins _ _ _)=>True
 |some (.ext _)=>True
 |_=>False
section
variable{P:aM}{w:aV}{H:Hp}{h h':aX}{x e:ab}{o':HO}
def HOk.write(ok:HOk P w H h)(a:FD (H x))(j:e=x\/H e=XV (.own x))(k:∀b u,b≠e->h.get? b=XV u->h'.get? b=XV u)(n:∃u,h'.get? e=XV u)
  (i:oN P w (upd H x o') h' x o'):HOk P w (upd H x o') h':=λb u q=>by
 have l:∀c y,H c=XV (.own y)->c≠x:=λc y r z=>by subst z;rw[r] at a;exact a
 have o:∀c d,H c=XV (.tup d)->c≠x:=λc d r z=>by subst z;rw[r] at a;exact a
 by_cases f:b=x
 ·subst f;rw[rA] at q;cases q;exact i
 ·rw[qf f] at q;by_cases g:b=e
  ·have m:H b=XV (.own x):=by
    rcases j with z|z
    ·exact absurd (g.trans z) f
    ·rw[g];exact z
   rw[q] at m;cases m;obtain⟨v,p⟩:=n;exact⟨v,by rw[g];exact p⟩
  ·refine(ok b u q).stay (λc v hc r=>k c v ?_ r) (λc r=>by rw[qf (l c b r)];exact r) λc d r=>by rw[qf (o c d r)];exact r
   rcases hc with rfl|hc
   ·exact g
   ·rintro rfl;rcases j with z|z
    ·exact l c b hc z
    ·rw[hc] at z;cases z;exact f rfl
end
structure Un(fs ex:List ab)(H H':Hp)(h h':aX):Prop where
 keep:∀b o,h.get? b=XV o->H b=X9->b∉fs->b∉ex->h'.get? b=XV o
 slot:∀b o,h.get? b=XV o->H b=X9->b∈fs->b∉ex->∃sl,h'.get? b=XV { o with slots:=sl }
 free:∀b o,h.get? b=XV o->H b=X9->b∉ex->H' b=X9
 there:∀b o,h.get? b=XV o->b∉ex->∃o',h'.get? b=XV o'
 tups:∀b xs,H b=XV (.tup xs)->H' b=XV (.tup xs)
 frzs:∀b o u,H b=XV (.frz o u)->H' b=XV (.frz o u)
 tbls:∀b ps,H b=XV (.tbl ps)->∃more,H' b=XV (.tbl (ps++more))
section
variable{fs Tf ex Tr:List ab}{H H1 H2:Hp}{h h1 h2 h':aX}{a x e:ab}{o:HO}
def Un.any(u:Un fs ex H H1 h h1){b:ab}{ob:Obj}(q:h.get? b=XV ob)(n:H b=X9)(c:b∉ex):∃sl,h1.get? b=XV { ob with slots:=sl }:=by
 by_cases d:b∈fs
 ·exact u.slot b ob q n d c
 ·exact⟨ob.slots,u.keep b ob q n d c⟩
def Un.trans(a:Un fs ex H H1 h h1)(b:Un fs ex H1 H2 h1 h2):Un fs ex H H2 h h2 where
 keep:=λc d q n i f=>b.keep c d (a.keep c d q n i f) (a.free c d q n f) i f
 slot:=λc d q n i f=>by
  obtain⟨t,g⟩:=a.slot c d q n i f;obtain⟨m,k⟩:=b.slot c _ g (a.free c d q n f) i f;exact⟨m,k⟩
 free:=λc d q n f=>by
  obtain⟨l,g⟩:=a.there c d q f;exact b.free c l g (a.free c d q n f) f
 there:=λc d q f=>by
  obtain⟨l,g⟩:=a.there c d q f;exact b.there c l g f
 tups:=λc j q=>b.tups c j (a.tups c j q)
 frzs:=λc d j q=>b.frzs c d j (a.frzs c d j q)
 tbls:=λc p q=>by
  obtain⟨r,g⟩:=a.tbls c p q;obtain⟨s,k⟩:=b.tbls c _ g;exact⟨r++s,by rw[k,lU]⟩
def Un.kept(k:∀b u,h.get? b=XV u->h'.get? b=XV u):Un fs ex H H h h':=
 ⟨λb c q _ _ _=>k b c q,λb c q _ _ _=>⟨c.slots,k b c q⟩,λ_ _ _ n _=>n,λb c q _=>⟨c,k b c q⟩,λ_ _ q=>q,λ_ _ _ q=>q,λ_ d q=>⟨#[],by rw[q];simp⟩⟩
def Un.refl:Un fs ex H H h h:=Un.kept λ_ _ q=>q
def Un.laid(k:∀b u,h.get? b=XV u->h'.get? b=XV u)(d:h.objs.size<=a)(c:H a=X9):Un fs ex H (upd H a o) h h' where
 keep:=λb u q _ _ _=>k b u q
 slot:=λb u q _ _ _=>⟨u.slots,k b u q⟩
 free:=λb u q n _=>by rw[qf (bo (a9 (aK q) d))];exact n
 there:=λb u q _=>⟨u,k b u q⟩
 tups:=λb f q=>by rw[qf (sk q c)];exact q
 frzs:=λb u f q=>by rw[qf (sk q c)];exact q
 tbls:=λb g q=>⟨#[],by rw[qf (sk q c),q];simp⟩
def Un.write(c:FD (H x))(j:e=x\/H e=XV (.own x))(k:∀b u,b≠e->h.get? b=XV u->h'.get? b=XV u)(l:∃u,h'.get? e=XV u):Un fs ex H (upd H x o) h h':=by
 have f:∀b,H b=X9->b≠x:=λb n z=>by subst z;rw[n] at c;exact c
 have g:∀b,H b=X9->b≠e:=λb n z=>by
  subst z;rcases j with r|r
  ·exact f b n r
  ·rw[n] at r;cases r
 have d:∀b u,H b=XV u->¬ FD (XV u)->b≠x:=λb u q m z=>by subst z;rw[q] at c;exact m c
 refine⟨λb u q n _ _=>k b u (g b n) q,λb u q n _ _=>⟨u.slots,k b u (g b n) q⟩,λb u q n _=>by rw[qf (f b n)];exact n,λb u q _=>?_,
  λb p q=>by rw[qf (d b _ q λz=>z)];exact q,λb u p q=>by rw[qf (d b _ q λz=>z)];exact q,λb s q=>⟨#[],by rw[qf (d b _ q λz=>z),q];simp⟩⟩
 by_cases i:b=e
 ·subst i;exact l
 ·exact⟨u,k b u i q⟩
def Un.mono(u:Un fs ex H H1 h h1)(g:∀b∈fs,b∈Tf)(f:∀b∈ex,b∈Tr):Un Tf Tr H H1 h h1:=
 ⟨λb d q n i c=>u.keep b d q n (λz=>i (g b z)) λz=>c (f b z),λ_ _ q n _ c=>u.any q n λz=>c (f _ z),λb d q n c=>u.free b d q n λz=>c (f b z),λb d q c=>u.there b d q λz=>c (f b z),u.tups,u.frzs,u.tbls⟩
end
def Hw(h:aX)(H:Hp):List ab:=(aL h.objs.size).filter λa=>(H a).isSome
def yg(h:aX)(H:Hp):aX:=PySem.W.hideAll h (Hw h H)
def zdP(h:aX)(H:Hp):(yg h H).objs.size=h.objs.size:=PySem.W.hideAll_size _ _
def zeS(e:h.get? b=XV o)(n:H b=X9):(yg h H).get? b=XV o:=
 PySem.W.hideAll_get _ e λa=>by
  have q:(H b).isSome=YP:=(ax.mp a).2;rw[n] at q;simp at q
def YZ(e:(yg h H).get? b=XV o):h.get? b=XV o/\H b=X9:=by
 have a:h.get? b=XV o:=PySem.W.of_hideAll (Hw h H) e;refine⟨a,?_⟩;cases q:H b with
 |none=>rfl
 | some x=>
  have c:b∈Hw h H:=ax.mpr ⟨bM.mpr (aK a),by simp[q]⟩;have z:(yg h H).get? b=X9:=PySem.W.hideAll_none (Hw h H) c;rw[z] at e;cases e
noncomputable def YA(g h:aX)(L:ab):List (ab×Obj):=(aL h.objs.size).filterMap λa=>if a=L\/(g.get? a).isSome=YP then X9 else (h.get? a).map λo=>(a,o)
def rest(g h:aX)(L d:ab):List (ab×Obj):=(YA g h L).filter λp=>decide (p.1≠d)
structure Mod(K:ah)(mg:Str->Option ae)(base:aX):Prop where
 kin:K.In base
 glob:base.Ns bO mg
 blt:∃mb,base.Ns builtinsNs mb/\∀x:Str,x ≠ "__name__"->mb x=bC x
 nolimit:base.NoLimit
structure Cx where
 prog:aM
 w:aV
 K:ah
 mg:Str->Option ae
 base:aX
 A:a7
 N:List Str
 s₀:af
 H₀:Hp
 env:Env
 outer:List Env
 stack:List Env
 ex:List ab
 fn:Str->Bool
 calm:Bool
 pn:List (ab×Obj)
 xe:ae->af->Prop
def uH(l:List Env):List ab:=l.filterMap (·.frame)
abbrev Cx.fs(X:Cx):List ab:=uH X.outer
def u6(sc:cO)(x:Str):Prop:=sc.names.lookup x=XV .local\/sc.names.lookup x=XV .cell\/sc.names.lookup x=XV .free
def Loc(sc:cO)(x:Str):Prop:=sc.names.lookup x=XV .local\/sc.names.lookup x=XV .cell
def UL(env:Env)(h:aX)(m:Str->Option ae)(x:Str)(u:ae):Prop:=
 (env.kindOf x=XV .local/\m x=XV u)\/((env.kindOf x=XV .cell\/env.kindOf x=XV .free)/\∃c,env.cells.lookup x=XV c/\h.IsCell c (XV u))
structure Cx.Ok(X:Cx):Prop where
 mod:Mod X.K X.mg X.base
 kind:X.env.scope.kind=.function
 glob:X.env.globals=bO
 blt:X.env.builtins=builtinsNs
 above:X.s₀.heap.objs.size<=X.env.locals
 inj:∀x y c,X.env.cells.lookup x=XV c->X.env.cells.lookup y=XV c->x=y
 has:∀x,(X.env.kindOf x=XV .cell\/X.env.kindOf x=XV .free)->∃c,X.env.cells.lookup x=XV c
 cab:∀x c,X.fn x=YP->X.env.cells.lookup x=XV c->X.s₀.heap.objs.size<=c
 hd:X.calm=YP->X.A.handled=X9
 frames:X.A.frames=XV X.stack
 stk:X.stack=X.outer\/(X.stack=X.env::X.outer/\X.env.frame=XV X.env.locals)
 exf:∀b∈X.ex,b≠X.env.locals/\∀x c,X.env.cells.lookup x=XV c->c≠b
 bs:∀b o,X.base.get? b=XV o->X.s₀.heap.get? b=XV o/\X.H₀ b=X9
 bsz:X.base.objs.size<=X.s₀.heap.objs.size
 noex:∀b o,X.base.get? b=XV o->b∉X.ex
 exfs:∀b∈X.ex,b∉X.fs
 funs:X.s₀.heap.FunFrames X.base X.outer
 frf:∀b∈X.fs,X.H₀ b=X9
structure Inv(X:Cx)(X5:List (ab×Obj))(σ:List (Option V))(H:Hp)(s:af):Prop where
 ok:X.Ok
 os:s.os=X.s₀.os
 bare:hW s.gens
 base:Un X.fs X.ex X.H₀ H X.s₀.heap s.heap
 loc:∃m,s.heap.Ns X.env.locals m/\∀(i:Nat)(x:Str)(v:V),X.N[i]?=XV x->σ[i]?=XV (XV v)->u6 X.env.scope x->∃u,RelV v u/\UL X.env s.heap m x u
 cell:∀x c,X.env.cells.lookup x=XV c->∃v,s.heap.IsCell c v
 free:H X.env.locals=X9
 freeC:∀x c,X.env.cells.lookup x=XV c->H c=X9
 pin:∀p∈X.pn++X5,s.heap.get? p.1=XV p.2/\H p.1=X9/\p.1≠X.env.locals/\p.1∉X.fs/\∀v,p.2.data ≠ .cell v
 hok:HOk X.prog X.w H s.heap
 len:σ.length=X.N.length
 tk:0<s.toks
section
variable{X:Cx}{X5:List (ab×Obj)}{σ:List (Option V)}{H H':Hp}{s:af}{h':aX}
def Cx.Ok.nofr(ok:X.Ok)(e:X.base.get? b=XV o):b∉X.fs:=λa=>by
 have:=(ok.funs.mem a).1;rw[e] at this;cases this
def Inv.bs(I:Inv X X5 σ H s):∀b o,X.base.get? b=XV o->s.heap.get? b=XV o/\H b=X9:=λb o e=>
 ⟨I.base.keep b o (I.ok.bs b o e).1 (I.ok.bs b o e).2 (I.ok.nofr e) (I.ok.noex b o e),I.base.free b o (I.ok.bs b o e).1 (I.ok.bs b o e).2 (I.ok.noex b o e)⟩
def Inv.bk(I:Inv X X5 σ H s):∀b o,X.base.get? b=XV o->s.heap.get? b=XV o:=λb o e=>(I.bs b o e).1
def Inv.mod(I:Inv X X5 σ H s):Mod X.K X.mg X.base:=I.ok.mod
def Inv.kIn(I:Inv X X5 σ H s):X.K.In s.heap:=I.ok.mod.kin.keeps I.bk
def Inv.lt(I:Inv X X5 σ H s):X.env.locals<s.heap.objs.size:=let ⟨_,hn,_⟩:=I.loc;hn.lt
def Inv.sz(I:Inv X X5 σ H s):X.s₀.heap.objs.size<=s.heap.objs.size:=aE I.ok.above (fJ I.lt)
def Inv.nofs(I:Inv X X5 σ H s)(h:s.heap.objs.size<=a):a∉X.fs:=λb=>by
 obtain⟨_,o,c,_⟩:=I.ok.funs.mem b;exact absurd (a9 (aK c) (aE I.sz h)) (bz _)
def Inv.cne(I:Inv X X5 σ H s):∀x c,X.env.cells.lookup x=XV c->c≠X.env.locals:=λx c e z=>by
 obtain⟨v,o,a,b⟩:=I.cell x c e;obtain⟨m,⟨g,h,i,d,f,_⟩,_⟩:=I.loc;rw[z,d] at a;cases a;rw[f] at b;cases b
def Inv.funs(I:Inv X X5 σ H s):s.heap.FunFrames X.base X.outer:=by
 have a:∀(l:List Env),(∀b∈uH l,b∈X.fs)->X.s₀.heap.FunFrames X.base l->s.heap.FunFrames X.base l:=by
  intro l
  induction l with
  |nil=>intro _ _;trivial
  | cons env r ih=>
   intro g h;obtain⟨i,⟨L,o,c,j,k,m⟩,n⟩:=h;have d:L∈X.fs:=g L (by unfold uH;rw[eR,c];exact al);obtain⟨p,e⟩:=I.base.slot L o k (I.ok.frf L d) d λz=>I.ok.exfs L z d;exact⟨i,⟨L,_,c,j,e,m⟩,ih (λb f=>g b (by unfold uH;rw[eR,c];exact ai _ f)) n⟩
 exact a X.outer (λ_ f=>f) I.ok.funs
def Inv.stack(I:Inv X X5 σ H s):s.heap.FunFrames X.base X.stack:=by
 rcases I.ok.stk with e|⟨e,a⟩
 ·rw[e];exact I.funs
 ·rw[e];obtain⟨m,b,_⟩:=I.loc;refine .cons (by rw[I.ok.kind];decide) a b ?_ I.funs;exact Heap.get?_none_of_le (aE I.ok.bsz I.ok.above)
def Inv.stkSub(I:Inv X X5 σ H s):∀b∈uH X.stack,b∈X.env.locals::X.fs:=λb a=>by
 rcases I.ok.stk with e|⟨e,c⟩
 ·rw[e] at a;exact ai _ a
 ·rw[e] at a;unfold uH at a;rw[eR,c] at a;exact a
def Inv.stkFree(I:Inv X X5 σ H s):∀b∈uH X.stack,H b=X9:=λb hb=>by
 rcases am.mp (I.stkSub b hb) with e|hb
 ·rw[e];exact I.free
 ·obtain⟨_,o,a,_⟩:=I.ok.funs.mem hb;exact I.base.free b o a (I.ok.frf b hb) λz=>I.ok.exfs b z hb
def Inv.step{g':Array mV}{t':Nat}{d':Drawn}{ch:List ab}(I:Inv X X5 σ H s)
  (C:∀b∈ch,(b∈X.ex\/X.s₀.heap.objs.size<=b)/\b≠X.env.locals/\(∀x c,X.env.cells.lookup x=XV c->c≠b)/\∀p∈X.pn++X5,p.1≠b)
  (g:∀b o,b≠X.env.locals->b∉X.fs->b∉ch->s.heap.get? b=XV o->H b=X9->h'.get? b=XV o)
  (t:∀b o,b≠X.env.locals->b∈X.fs->b∉ch->s.heap.get? b=XV o->H b=X9->∃sl,h'.get? b=XV { o with slots:=sl }) (f:∀b o,b∉ch->s.heap.get? b=XV o->H b=X9->H' b=X9)
  (y:∀b o,b∉ch->s.heap.get? b=XV o->∃D,h'.get? b=XV D)
  (E:∀b xs,H b=XV (.tup xs)->H' b=XV (.tup xs)) (F:∀b o u,H b=XV (.frz o u)->H' b=XV (.frz o u)) (G:∀b ps,H b=XV (.tbl ps)->∃J,H' b=XV (.tbl (ps++J)))
  (ns:∀m,s.heap.Ns X.env.locals m->h'.Ns X.env.locals m) (N:HOk X.prog X.w H' h') (U:hW g') (W:0<t'):
  Inv X X5 σ H' { s with heap:=h',gens:=g',drawn:=d',toks:=t' }:=by
 have P:∀b o,X.s₀.heap.get? b=XV o->b≠X.env.locals:=λb o e=>bo (a9 (aK e) I.ok.above);have M:∀b o,X.s₀.heap.get? b=XV o->b∉X.ex->b∉ch:=λb o e a A=>by
  rcases (C b A).1 with z|z
  ·exact a z
  ·exact absurd (a9 (aK e) z) (bz _)
 have h:∀x c,X.env.cells.lookup x=XV c->∀v,s.heap.IsCell c v->h'.IsCell c v:=λx c e v ⟨o,B,O⟩=>by
  have K:c∉ch:=λz=>(C c z).2.2.1 x c e rfl;by_cases Q:c∈X.fs
  ·obtain⟨sl,q⟩:=t c o (I.cne x c e) Q K B (I.freeC x c e);exact⟨_,q,O⟩
  ·exact⟨o,g c o (I.cne x c e) Q K B (I.freeC x c e),O⟩
 refine⟨I.ok,I.os,U,⟨λb o e n A a=>?_,λb o e n A a=>?_,λb o e n a=>?_,λb o e a=>?_,λb xs e=>E b xs (I.base.tups b xs e),λb o xs e=>F b o xs (I.base.frzs b o xs e),λb ps e=>?_⟩,?_,λx c e=>?_,?_,λx c e=>?_,λp R=>?_,N,I.len,W⟩
 ·exact g b o (P b o e) A (M b o e a) (I.base.keep b o e n A a) (I.base.free b o e n a)
 ·obtain⟨sl,j⟩:=I.base.slot b o e n A a;obtain⟨Y,L⟩:=t b _ (P b o e) A (M b o e a) j (I.base.free b o e n a);exact⟨Y,L⟩
 ·obtain⟨D,j⟩:=I.base.there b o e a;exact f b D (M b o e a) j (I.base.free b o e n a)
 ·obtain⟨D,j⟩:=I.base.there b o e a;exact y b D (M b o e a) j
 ·obtain⟨Z,j⟩:=I.base.tbls b ps e;obtain⟨m2,L⟩:=G b _ j;exact⟨Z++m2,by rw[L,lU]⟩
 ·obtain⟨m,hn,hl⟩:=I.loc;refine⟨m,ns m hn,λi x v j L e3=>?_⟩;obtain⟨u,r,l⟩:=hl i x v j L e3;refine⟨u,r,?_⟩;rcases l with l|⟨k,c,e,z⟩
  ·exact .inl l
  ·exact .inr ⟨k,c,e,h x c e _ z⟩
 ·obtain⟨v,z⟩:=I.cell x c e;exact⟨v,h x c e v z⟩
 ·obtain⟨m,⟨o,_,_,B,_⟩,_⟩:=I.loc;exact f _ o (λz=>(C _ z).2.1 rfl) B I.free
 ·obtain⟨v,o,B,O⟩:=I.cell x c e;exact f c o (λz=>(C c z).2.2.1 x c e rfl) B (I.freeC x c e)
 ·obtain⟨e,n,S,T,d⟩:=I.pin p R;have K:p.1∉ch:=λz=>(C p.1 z).2.2.2 p R rfl;exact⟨g p.1 p.2 S T K e n,f p.1 p.2 K e n,S,T,d⟩
def Inv.un{t':Nat}(I:Inv X X5 σ H s)(u:Un X.fs [] H H' s.heap h')(a:HOk X.prog X.w H' h')(h:0<t':=by first|exact cU _|exact Inv.tk ‹_›|assumption|lia):Inv X X5 σ H' { s with heap:=h',toks:=t' }:=by
 obtain⟨m,⟨o,p,q,f,r⟩,_⟩:=id I.loc;obtain⟨t,i⟩:=u.any f I.free 'k';exact I.step (g':=s.gens) (d':=s.drawn) (ch:=[]) (λ_ z=>nomatch z) (λb o _ c _ e n=>u.keep b o e n c 'k') (λb o _ c _ e n=>u.slot b o e n c 'k') (λb o _ e n=>u.free b o e n 'k') (λb o _ e=>u.there b o e 'k') u.tups u.frzs u.tbls (λv j=>by
  obtain⟨x,d,k,g,l⟩:=j;rw[f] at g;cases g;exact⟨_,d,k,i,l⟩) a I.bare h
def Inv.call{g':Array mV}{t':Nat}{d':Drawn}{ch:List ab}(I:Inv X X5 σ H s)(u:Un (uH X.stack) ch H H' s.heap h')(d:HOk X.prog X.w H' h')(k:hW g')
  (h:∀b∈ch,(b∈X.ex\/X.s₀.heap.objs.size<=b)/\b≠X.env.locals/\(∀x c,X.env.cells.lookup x=XV c->c≠b)/\∀p∈X.pn++X5,p.1≠b) (l:0<t':=by first|exact cU _|exact Inv.tk ‹_›|assumption|lia):
  Inv X X5 σ H' { s with heap:=h',gens:=g',drawn:=d',toks:=t' }:=by
 obtain⟨m,⟨o,A,B,i,r⟩,_⟩:=id I.loc;obtain⟨C,f⟩:=u.any i I.free λz=>(h _ z).2.1 rfl;exact I.step (ch:=ch) h (λb o f q a e n=>u.keep b o e n (λz=>(am.mp (I.stkSub b z)).elim f q) a) (λb o _ _ a e n=>u.any e n a) (λb o a e n=>u.free b o e n a) (λb o a e=>u.there b o e a) u.tups u.frzs u.tbls (λD t=>by
  obtain⟨E,g,v,j,y⟩:=t;rw[i] at j;cases j;exact⟨_,g,v,f,y⟩) d k l
def Inv.turned{t':Nat}{it:ab}(I:Inv X X5 σ H s)(k:∀b o,b≠it->s.heap.get? b=XV o->h'.get? b=XV o)(g:H it=X9)(d:it≠X.env.locals)
  (h:it∈X.ex\/X.s₀.heap.objs.size<=it) (i:∀x c,X.env.cells.lookup x=XV c->c≠it) (j:∀p∈X.pn++X5,p.1≠it) (l:0<t':=by first|exact cU _|exact Inv.tk ‹_›|assumption|lia):Inv X X5 σ H { s with heap:=h',toks:=t' }:=by
 have f:∀b u,H b=XV u->b≠it:=λb u e z=>by rw[z,g] at e;cases e
 refine I.step (g':=s.gens) (d':=s.drawn) (ch:=[it]) (λb t=>?_) (λb o _ _ a e _=>k b o (λz=>a (by simp[z])) e) (λb o _ _ a e _=>⟨o.slots,k b o (λz=>a (by simp[z])) e⟩) (λ_ _ _ _ n=>n)
  (λb o a e=>⟨o,k b o (λz=>a (by simp[z])) e⟩) (λ_ _ e=>e) (λ_ _ _ e=>e) (λb C e=>⟨#[],by rw[e];simp⟩) (λm w=>?_) (λb u e=>?_) I.bare l
 ·have e:b=it:=by simpa using t
  subst e;exact⟨h,d,i,j⟩
 ·obtain⟨o,y,A,B,r⟩:=w;exact⟨o,y,A,k _ o (cS d) B,r⟩
 ·refine(I.hok b u e).stay (λc v a q=>k c v ?_ q) (λ_ q=>q) λ_ _ q=>q;rcases a with z|z
  ·rw[z];exact f b u e
  ·exact f c _ z
def Inv.tok(I:Inv X X5 σ H s)(t:Nat)(a:0<t:=by first|exact cU _|exact Inv.tk ‹_›|assumption|lia):Inv X X5 σ H { s with toks:=t }:=I.un (h':=s.heap) (t':=t) Un.refl I.hok
def Inv.kept(I:Inv X X5 σ H s)(k:∀b u,s.heap.get? b=XV u->h'.get? b=XV u)(a:0<t':=by first|exact cU _|exact Inv.tk ‹_›|assumption|lia):Inv X X5 σ H { s with heap:=h',toks:=t' }:=I.un (Un.kept k) (I.hok.kept k)
def Inv.laid{a:ab}{o:HO}{t':Nat}(I:Inv X X5 σ H s)(k:∀b u,s.heap.get? b=XV u->h'.get? b=XV u)(c:s.heap.objs.size<=a)(d:oN X.prog X.w (upd H a o) h' a o)(e:0<t':=by first|exact cU _|exact Inv.tk ‹_›|assumption|lia):
  Inv X X5 σ (upd H a o) { s with heap:=h',toks:=t' }:=I.un (Un.laid k c (I.hok.fresh c)) (I.hok.laid k c d)
def Inv.write(I:Inv X X5 σ H s)(c:FD (H x))(d:e=x\/H e=XV (.own x))(k:∀b u,b≠e->s.heap.get? b=XV u->h'.get? b=XV u)(f:∃u,h'.get? e=XV u)
  (a:oN X.prog X.w (upd H x o) h' x o) (g:0<t':=by first|exact cU _|exact Inv.tk ‹_›|assumption|lia):Inv X X5 σ (upd H x o) { s with heap:=h',toks:=t' }:=I.un (Un.write c d k f) (I.hok.write c d k f a)
def Inv.pins_of(I:Inv X X5 σ H s)(h:∀p∈Eh,s.heap.get? p.1=XV p.2/\H p.1=X9/\p.1≠X.env.locals/\p.1∉X.fs/\∀v,p.2.data ≠ .cell v):Inv X Eh σ H s:=
 ⟨I.ok,I.os,I.bare,I.base,I.loc,I.cell,I.free,I.freeC,λp a=>(aH.mp a).elim (λz=>I.pin p (bB _ z)) (h p),I.hok,I.len,I.tk⟩
def Qt{N:List Str}(c:N.Nodup){i j:Nat}{x:Str}(a:N[i]?=XV x)(b:N[j]?=XV x):i=j:=by obtain⟨f,d⟩:=aq.mp a;obtain⟨g,e⟩:=aq.mp b;exact(jS c).mp (d.trans e.symm)
def GY{M:iS}{A:a7}{E:ae->af->Prop}{i:Nat}{x:Str}{v:V}{u:ae}{Q:Unit->af->Prop}(I:Inv X X5 σ H s)(hN:X.N.Nodup)(G:X.N[i]?=XV x)(t:Loc X.env.scope x)(r:RelV v u)
  (h:∀O,Inv X X5 (σ.set i (XV v)) H O->(∃a,cG a s.heap O.heap/\(a=X.env.locals\/X.env.cells.lookup x=XV a))->Q () O) (hf:X.fn x=YP\/X.env.scope.names.lookup x=XV .local:=by first|exact .inl rfl|exact .inr rfl|assumption):ao M A (storeName X.env x u) Q E s:=by
 obtain⟨m,P,hl⟩:=id I.loc;have L6:(X.env.scope.kind == .class||(X.env.scope.kind == .module&&X.env.locals !=X.env.globals))=Y1:=by rw[I.ok.kind];rfl
 have E7:i<σ.length:=by rw[I.len];exact(aq.mp G).1
 have C:=I.cne;have g:∀{a:ab}{h':aX},(∃o,s.heap.get? a=XV o/\H a=X9)->cG a s.heap h'->HOk X.prog X.w H h':=λ{a h'}ha f b ob e=>by
  obtain⟨_,_,qH⟩:=ha;refine(I.hok b ob e).stay (λc J hc q=>(f.2 c ?_).trans q) (λ_ q=>q) λ_ _ q=>q;rintro rfl;rcases hc with rfl|hc
  ·rw[qH] at e;cases e
  ·rw[qH] at hc;cases hc
 rcases t with hk|hk
 ·refine wpAny_storeName_local hk P (λh' HP f=>?_) L6;obtain⟨oL,_,_,R,_⟩:=id P;refine h _ ⟨I.ok,I.os,I.bare,⟨λb o e n D t=>?_,λb o e n D t=>?_,I.base.free,λb o e t=>?_,I.base.tups,I.base.frzs,I.base.tbls⟩,⟨_,HP,λj y S l B T=>?_⟩,λy c e=>?_,I.free,I.freeC,λp U=>?_,g ⟨oL,R,I.free⟩ f,by simpa using I.len,cU _⟩ ⟨_,f,.inl rfl⟩
  ·exact(f.2 b (bo (a9 (aK e) I.ok.above))).trans (I.base.keep b o e n D t)
  ·obtain⟨W,l⟩:=I.base.slot b o e n D t;exact⟨W,(f.2 b (bo (a9 (aK e) I.ok.above))).trans l⟩
  ·obtain⟨Y,l⟩:=I.base.there b o e t;exact⟨Y,(f.2 b (bo (a9 (aK e) I.ok.above))).trans l⟩
  ·by_cases F:j=i
   ·subst F;rw[G] at l;cases l;rw[bA E7] at B;cases B;exact⟨u,r,.inl ⟨hk,by simp⟩⟩
   ·rw[br (cS F)] at B;obtain⟨Z,r',q⟩:=hl j y S l B T;refine⟨Z,r',?_⟩;rcases q with⟨k,e⟩|⟨k,c,e,z⟩
    ·refine .inl ⟨k,?_⟩;have:y≠x:=λe=>F (Qt hN l (e▸G));simp[this,e]
    ·exact .inr ⟨k,c,e,z.sameBut f (C y c e)⟩
  ·obtain⟨J,z⟩:=I.cell y c e;exact⟨J,z.sameBut f (C y c e)⟩
  ·obtain⟨e,n,K,nf,d⟩:=I.pin p U;exact⟨(f.2 p.1 K).trans e,n,K,nf,d⟩
 ·have CC:X.fn x=YP:=by
   rcases hf with z|z
   ·exact z
   ·rw[z] at hk;cases hk
  obtain⟨c,hc⟩:=I.ok.has x (.inl hk);obtain⟨J,z⟩:=I.cell x c hc;refine wpAny_storeName_cell I.ok.kind hk hc z (λh' x9 f=>?_);obtain⟨oc,CB,LB⟩:=id z;refine h { s with heap:=h' } ⟨I.ok,I.os,I.bare,⟨λb o e n D t=>?_,λb o e n D t=>?_,I.base.free,λb o e t=>?_,I.base.tups,I.base.frzs,I.base.tbls⟩,⟨m,P.sameBut f (cS (C x c hc)),λj y S l B T=>?_⟩,λy L e=>?_,I.free,I.freeC,λp U=>?_,g ⟨oc,CB,I.freeC x c hc⟩ f,by simpa using I.len,I.tk⟩ ⟨c,f,.inr hc⟩
  ·exact(f.2 b (bo (a9 (aK e) (I.ok.cab x c CC hc)))).trans (I.base.keep b o e n D t)
  ·obtain⟨W,l⟩:=I.base.slot b o e n D t;exact⟨W,(f.2 b (bo (a9 (aK e) (I.ok.cab x c CC hc)))).trans l⟩
  ·obtain⟨Y,l⟩:=I.base.there b o e t;exact⟨Y,(f.2 b (bo (a9 (aK e) (I.ok.cab x c CC hc)))).trans l⟩
  ·by_cases F:j=i
   ·subst F;rw[G] at l;cases l;rw[bA E7] at B;cases B;exact⟨u,r,.inr ⟨.inl hk,c,hc,x9⟩⟩
   ·rw[br (cS F)] at B;obtain⟨Z,r',q⟩:=hl j y S l B T;refine⟨Z,r',?_⟩;rcases q with q|⟨k,L,e,z'⟩
    ·exact .inl q
    ·refine .inr ⟨k,L,e,z'.sameBut f ?_⟩;rintro rfl;exact F (Qt hN l (I.ok.inj _ _ _ e hc▸G))
  ·by_cases uG:L=c
   ·subst uG;exact⟨_,x9⟩
   ·obtain⟨w2,z2⟩:=I.cell y L e;exact⟨w2,z2.sameBut f uG⟩
  ·obtain⟨e,n,K,nf,d⟩:=I.pin p U;refine⟨(f.2 p.1 ?_).trans e,n,K,nf,d⟩;intro q;rw[q,CB] at e;have q':oc=p.2:=ck e;exact d J (by rw[<- q'];exact LB)
def DG(I:Inv X X5 σ H s)(b:X.N.Nodup)(c:X.N[i]?=XV x)(d:Loc X.env.scope x)(r:RelV v u)
  (h:∀a,Inv X X5 (σ.set i (XV v)) H a->Q () a) (e:X.fn x=YP\/X.env.scope.names.lookup x=XV .local:=by first|exact .inl rfl|exact .inr rfl|assumption):ao M A (storeName X.env x u) Q E s:=
 GY I b c d r (λa f _=>h a f) e
def Inv.call'(I:Inv X X5 σ H s)(d:s'.os=s.os)(u:Un (uH X.stack) ch H H' s.heap s'.heap)(a:HOk X.prog X.w H' s'.heap)(f:hW s'.gens)
  (g:∀b∈ch,(b∈X.ex\/X.s₀.heap.objs.size<=b)/\b≠X.env.locals/\(∀x c,X.env.cells.lookup x=XV c->c≠b)/\∀p∈X.pn++X5,p.1≠b) (i:0<s'.toks:=by first|exact cU _|exact Inv.tk ‹_›|assumption|lia):Inv X X5 σ H' s':=by obtain⟨h',g',d',t',h⟩:=s';have e:h=s.os:=d;subst e;exact I.call (g':=g') (t':=t') (d':=d') u a f g
end
abbrev XK:=ae->Option ab->Hp->Prop
abbrev St:=List (Option V)
abbrev VK:=V->Hp->Prop
abbrev TE:=St->Hp->VK->Prop
abbrev TT:=St->Hp->(Bool->Hp->Prop)->Prop
abbrev TA:=St->Hp->(List V->Hp->Prop)->Prop
structure yh where
 nx:St->Hp->Prop
 rt:VK
 bk:St->Hp->Prop:=λ_ _=>False
 ct:St->Hp->Prop:=λ_ _=>False
abbrev TS:=yh->St->Hp->Prop
def EP(X:Cx)(X5:List (ab×Obj))(σ:St)(Q:VK)(u:ae)(s':af):Prop:=∃v H',Inv X X5 σ H' s'/\RelV v u/\Q v H'
def TP(X:Cx)(X5:List (ab×Obj))(σ:St)(Q:Bool->Hp->Prop)(b:Bool)(s':af):Prop:=∃H',Inv X X5 σ H' s'/\Q b H'
def AP(X:Cx)(X5:List (ab×Obj))(σ:St)(Q:List V->Hp->Prop)(us:List ae)(s':af):Prop:=∃vs H',Inv X X5 σ H' s'/\oA vs us/\Q vs H'
def SP(X:Cx)(X5:List (ab×Obj))(D:yh)(f:Flow)(s':af):Prop:=
 match f with
 |.next=>∃σ' H',Inv X X5 σ' H' s'/\D.nx σ' H'
 |.brk=>∃σ' H',Inv X X5 σ' H' s'/\D.bk σ' H'
 |.cont=>∃σ' H',Inv X X5 σ' H' s'/\D.ct σ' H'
 |.ret u=>∃v σ' H',Inv X X5 σ' H' s'/\RelV v u/\D.rt v H'
def PE(X:Cx)(e:aR)(t:TE):Prop:=
 ∀(X5:List (ab×Obj))(s:af)(σ:St)(H:Hp)(Q:VK),Inv X X5 σ H s->t σ H Q->ao (aw X.prog X.w) X.A (eval e X.env) (EP X X5 σ Q) X.xe s
def PT(X:Cx)(e:aR)(t:TT):Prop:=
 ∀(X5:List (ab×Obj))(s:af)(σ:St)(H:Hp)(Q:Bool->Hp->Prop),Inv X X5 σ H s->t σ H Q->ao (aw X.prog X.w) X.A (isTrue e X.env (eval e X.env)) (TP X X5 σ Q) X.xe s
def PW(X:Cx)(e:aR)(t:TT):Prop:=
 ∀(oX:Sem ae)(X5:List (ab×Obj))(s:af)(σ:St)(H:Hp)(Q:Bool->Hp->Prop),Inv X X5 σ H s->t σ H Q->ao (aw X.prog X.w) X.A (isTrue e X.env oX) (TP X X5 σ Q) X.xe s
def PW.pt(h:PW X e t):PT X e t:=h _
def PA(X:Cx)(es:List aR)(t:TA):Prop:=
 ∀(pos:Pos)(X5:List (ab×Obj))(s:af)(σ:St)(H:Hp)(Q:List V->Hp->Prop),Inv X X5 σ H s->t σ H Q->ao (aw X.prog X.w) X.A (spliced (backTo pos (aS es X.env))) (AP X X5 σ Q) X.xe s
def PS(X:Cx)(st:er)(t:TS):Prop:=
 ∀(X5:List (ab×Obj))(s:af)(σ:St)(H:Hp)(D:yh),Inv X X5 σ H s->t D σ H->ao (aw X.prog X.w) X.A (exec st X.env) (SP X X5 D) X.xe s
def sY(X:Cx)(st:List er)(t:TS):Prop:=
 ∀(X5:List (ab×Obj))(s:af)(σ:St)(H:Hp)(D:yh),Inv X X5 σ H s->t D σ H->ao (aw X.prog X.w) X.A (execs st X.env) (SP X X5 D) X.xe s
def qc{α:Type}{t:Sem α}{Q b:α->af->Prop}{M:iS}{A:a7}{E:ae->af->Prop}{s:af}(h:ao M A t Q E s)(c:∀a s,Q a s->b a s):ao M A t b E s:=cw h c λ_ _ x=>x
section
variable{X:Cx}
def bin{a b:aR}{i j:TE}(k:PE X a i)(l:PE X b j){c:List (ab×Obj)}{s:af}{σ:St}{H:Hp}{R:V->V->Hp->Prop}(I:Inv X c σ H s)(h:i σ H λx g=>j σ g λy d=>R x y d)
  {α:Type} {Q:α->af->Prop} {f:ae->ae->Sem α}
  (m:∀v u e x y d,Inv X c σ d e->RelV x v->RelV y u->R x y d->ao (aw X.prog X.w) X.A (f v u) Q X.xe e):
  ao (aw X.prog X.w) X.A (eval a X.env) (λv n=>ao (aw X.prog X.w) X.A (eval b X.env) (λu o=>ao (aw X.prog X.w) X.A (f v u) Q X.xe o) X.xe n) X.xe s:=by refine qc (k c s σ H _ I h) λv p ⟨x,g,q,r,t⟩=>?_;refine qc (l c p σ g _ q t) λu e ⟨y,d,z,B,C⟩=>?_;exact m v u e x y d z r B C
def Iw(i:Nat):TE:=λσ H Q=>∃v,σ[i]?=XV (XV v)/\Q v H
def tC(v:V):TE:=λ_ H Q=>Q v H
def IT(j:X.N[i]?=XV x)(k:u6 X.env.scope x)(d:(x==("__debug__":Str))=Y1:=by decide)(n:(x==("__classdict__":Str))=Y1:=by decide):PE X (.Name x pos) (Iw i):=by
 intro b s o H Q I h;obtain⟨v,e,h⟩:=h;obtain⟨m,p,q⟩:=I.loc;obtain⟨u,r,l⟩:=q i x v j e k;have a:EP X b o Q u s:=⟨v,H,I,r,h⟩;rcases l with⟨hk,t⟩|⟨hk,c,f,g⟩
 ·exact wpAny_Name (lp I.ok.kind hk p t a) d
 ·rcases hk with hk|hk
  ·exact wpAny_Name (lO I.ok.kind hk f g a) d
  ·exact wpAny_Name (wpAny_loadName_free I.ok.kind hk f g a n) d
def V4:PE X (.Constant (.int i) j pos) (tC (.int i)):=λ_ _ _ H _ I h=>wpAny_Constant_int ⟨.int i,H,I.tok _,⟨_,rfl⟩,h⟩
def UN:PE X (.Constant (.bool b) j pos) (tC (.bl b)):=λ_ _ _ H _ I h=>Constant_bool ⟨.bl b,H,I,rfl,h⟩
def VB:PE X (.Constant .none j pos) (tC .non):=λ_ _ _ H _ I h=>Constant_none ⟨.non,H,I,rfl,h⟩
def Wq:PE X (.Constant (.str x) j pos) (tC (.str x)):=λ_ _ _ H _ I h=>Calls.Constant_str ⟨.str x,H,I.tok _,⟨_,rfl⟩,h⟩
def Gl(X:Cx)(x:Str):Prop:=X.env.kindOf x=XV .globalImplicit
def OF(I:Inv X X5 σ H s)(a:Gl X x)(b:X.mg x=XV u)(h:Q u s)
  (c:(x==("__debug__":Str))=Y1:=by decide):ao (aw X.prog X.w) X.A (eval (.Name x pos) X.env) Q E s:=
 jw I.ok.kind a (Calls.loadGlobal_global (by rw[I.ok.glob];exact I.mod.glob.keeps I.bk) b h) c
def B4(I:Inv X X5 σ H s)(a:Gl X x)(b:X.mg x=X9)(c:bC x=XV u)(h:Q u s)
  (d:x ≠ "__name__":=by decide) (e:(x==("__debug__":Str))=Y1:=by decide):ao (aw X.prog X.w) X.A (eval (.Name x pos) X.env) Q E s:=by obtain⟨i,f,g⟩:=I.mod.blt;exact jw I.ok.kind a (Calls.loadGlobal_builtin (by rw[I.ok.glob];exact I.mod.glob.keeps I.bk) b (by rw[I.ok.blt];exact f.keeps I.bk) ((g x d).trans c) h) e
def Jv(a:Gl X x)(b:X.mg x=XV u)(r:RelV v u)(c:(x==("__debug__":Str))=Y1:=by decide):PE X (.Name x pos) (tC v):=
 λ_ _ _ H _ I h=>OF I a b ⟨v,H,I,r,h⟩ c
def WW(a:Gl X x)(b:X.mg x=X9)(c:bC x=XV u)(r:RelV v u)(d:x ≠ "__name__":=by decide)(e:(x==("__debug__":Str))=Y1:=by decide):PE X (.Name x pos) (tC v):=
 λ_ _ _ H _ I h=>B4 I a b c ⟨v,H,I,r,h⟩ d e
variable{a b:aR}{ta tb:TE}{pos:Pos}
def PC(X:Cx)(op:CmpOp)(a b:aR)(t:TE):Prop:=
 ∀(X5:List (ab×Obj))(s:af)(σ:St)(H:Hp)(Q:VK),Inv X X5 σ H s->t σ H Q->
  ao (aw X.prog X.w) X.A (eval a X.env) (λv n_=>ao (aw X.prog X.w) X.A (eval b X.env) (λu sJ=>ao (aw X.prog X.w) X.A (cm op v u) (EP X X5 σ Q) X.xe sJ) X.xe n_) X.xe s
def QG(b:aR)(h:op ≠ .In)(c:op ≠ .NotIn):behindInMarks op b=Y1:=by
 have d:(op==CmpOp.In)=Y1:=by cases op<;>first|rfl|exact absurd rfl h
 have e:(op==CmpOp.NotIn)=Y1:=by cases op<;>first|rfl|exact absurd rfl c
 cases b<;>simp[behindInMarks,d,e]
def tB(t:TE):TT:=λσ H Q=>t σ H λx H1=>∃c,x=.bl c/\Q c H1
def VD(h:PC X op a b t)(d:behindInMarks op b=Y1:=by first|exact QG _ 'u' 'u'|rfl):PE X (.Compare a [op] [b] pos) t:=λc s e H Q I f=>wpAny_Compare1 (h c s e H Q I f) d
def V5{op:CmpOp}{t:TE}(h:PC X op a b t)(f:behindInMarks op b=Y1:=by first|exact QG _ 'u' 'u'|rfl):PT X (.Compare a [op] [b] pos) (tB t):=by intro e s g H Q I i;refine kM (qc (h e s g H _ I i) λv o f=>qc f λu p j=>qc j λc r ⟨x,k,l,m,n⟩=>?_) f;obtain⟨d,rfl,q⟩:=n;cases m;exact cM ⟨k,l,q⟩
variable{tA Hy:TT}{rest:List aR}
def UE(t u:TT):TT:=λσ H Q=>t σ H λc H1=>if c=YP then u σ H1 Q else Q Y1 H1
def tOr(t u:TT):TT:=λσ H Q=>t σ H λc H1=>if c=YP then Q YP H1 else u σ H1 Q
def UI(t:TT):TT:=λσ H Q=>t σ H λc H1=>Q (!c) H1
def Yj(f:PT X a tA):PW X (.BoolOp .And [a] pos) tA:=by
 intro i d s g H Q I h;refine isTrue_and (qc (f d s g H Q I h) λc j e=>?_);cases c with
 |true=>exact isTrue_and_nil e
 |false=>exact e
def Xc(f:PT X a tA):PW X (.BoolOp .Or [a] pos) tA:=by
 intro i d s g H Q I h;refine isTrue_or (qc (f d s g H Q I h) λc j e=>?_);cases c with
 |false=>exact isTrue_or_nil e
 |true=>exact e
def Vu(j:PT X a tA)(k:PW X (.BoolOp .And (b::rest) pos) Hy):PW X (.BoolOp .And (a::b::rest) pos) (UE tA Hy):=by
 intro l d s e H Q I h;refine isTrue_and (qc (j d s e H _ I h) λc m ⟨f,g,i⟩=>?_);cases c with
 |true=>exact k l d m e f Q g i
 |false=>exact⟨f,g,i⟩
def US(j:PT X a tA)(k:PW X (.BoolOp .Or (b::rest) pos) Hy):PW X (.BoolOp .Or (a::b::rest) pos) (tOr tA Hy):=by
 intro l d s e H Q I h;refine isTrue_or (qc (j d s e H _ I h) λc m ⟨f,g,i⟩=>?_);cases c with
 |true=>exact⟨f,g,i⟩
 |false=>exact k l d m e f Q g i
def WG(e:PT X a tA):PT X (.UnaryOp .Not a pos) (UI tA):=by intro d s f H Q I h;exact isTrue_not (e d s f H (λc g=>Q (!c) g) I h)
def Vi(ta tb:TE):TE:=λσ H Q=>ta σ H λx H1=>∃c,x=.bl c/\if c=YP then tb σ H1 Q else Q (.bl Y1) H1
def T2(ta tb:TE):TE:=λσ H Q=>ta σ H λx H1=>∃c,x=.bl c/\if c=YP then Q (.bl YP) H1 else tb σ H1 Q
def Uu(ta:TE):TE:=λσ H Q=>ta σ H λx H1=>∃c,x=.bl c/\Q (.bl (!c)) H1
def Vz(h:PE X a t):PE X (.BoolOp op [a] pos) t:=λc s d H Q I e=>BoolOp_one (h c s d H Q I e)
def UZ(j:PE X a ta)(k:PE X (.BoolOp .And (b::rest) pos) tb):PE X (.BoolOp .And (a::b::rest) pos) (Vi ta tb):=by
 intro d s f H Q I h;refine BoolOp_and (qc (j d s f H _ I h) λv l ⟨x,g,i,m,e⟩=>?_);obtain⟨c,rfl,e⟩:=e;cases m;refine cM ?_;cases c with
 |true=>exact k d l f g Q i e
 |false=>exact⟨.bl Y1,g,i,rfl,e⟩
def UU(j:PE X a ta)(k:PE X (.BoolOp .Or (b::rest) pos) tb):PE X (.BoolOp .Or (a::b::rest) pos) (T2 ta tb):=by
 intro d s f H Q I h;refine BoolOp_or (qc (j d s f H _ I h) λv l ⟨x,g,i,m,e⟩=>?_);obtain⟨c,rfl,e⟩:=e;cases m;refine cM ?_;cases c with
 |false=>exact k d l f g Q i e
 |true=>exact⟨.bl YP,g,i,rfl,e⟩
def Wu(f:PE X a ta):PE X (.UnaryOp .Not a pos) (Uu ta):=by intro d s g H Q I h;refine UnaryOp_ (qc (f d s g H _ I h) λv l ⟨x,i,j,k,e⟩=>?_);obtain⟨c,rfl,e⟩:=e;cases k;exact not_of (cM ⟨.bl (!c),i,j,rfl,e⟩)
end
def qJ(K:ah)(H:Hp)(a:ab)(xs:List V):Prop:=
 Rd H a (.lst xs) \/
  ∃(o:Obj)(h_:Array ae)(n:Nat),K.lookup a=XV o/\o.cls=.type "list"/\o.dict=X9/\o.data=.seq h_ n/\h_.size<=KB/\oA xs h_.toList
def rL(K:ah)(H:Hp)(a:ab)(xs:List V):Prop:=
 Rd H a (.tup xs) \/
  ∃(o:Obj)(h_:Array ae)(n:Nat),K.lookup a=XV o/\o.cls=.type "tuple"/\o.data=.seq h_ n/\h_.size<=KB/\oA xs h_.toList
def T8:ae->Option V
 |.none=>XV .non
 |.bool b=>XV (.bl b)
 |.int i _=>XV (.int i)
 |.str x _=>XV (.str x)
 |.bytes b _=>XV (.byt b)
 |.float b _=>XV (.flt b)
 |.ref a=>XV (.ref a)
 |.type n=>XV (.ty n)
 |_=>X9
def RelV.abs(r:RelV x u):T8 u=XV x:=by
 cases x with
 |non=>cases r;rfl
 |bl _=>cases r;rfl
 |int _=>obtain⟨t,rfl⟩:=r;rfl
 |str _=>obtain⟨t,rfl⟩:=r;rfl
 |byt _=>obtain⟨t,rfl⟩:=r;rfl
 |flt _=>obtain⟨t,rfl⟩:=r;rfl
 |ref _=>cases r;rfl
 |ty _=>cases r;rfl
def RelV.inj(r:RelV x u)(q:RelV y u):x=y:=ck (r.abs.symm.trans q.abs)
theorem oA.inj:∀{xs a:List V}{b:List ae},oA xs b->oA a b->xs=a
 |_,_,_,.nil,.nil=>rfl
 |_,_,_,.cons r t,.cons r' t'=>by rw[r.inj r',oA.inj t t']
section
variable{X:Cx}{X5:List (ab×Obj)}{σ:St}{H:Hp}{s:af}{a:ab}{xs ys:List V}
def qJ.of{K:ah}(h:H a=XV (.lst xs)):qJ K H a xs:=.inl (.inl h)
def rL.of{K:ah}(h:H a=XV (.tup xs)):rL K H a xs:=.inl (.inl h)
def Inv.list(I:Inv X X5 σ H s)(h:qJ X.K H a xs):∃b:List ae,oA xs b/\PlainL s.heap a b.toArray/\xs.length<=KB:=by
 rcases h with h|⟨o,b,n,c,d,f,g,i,r⟩
 ·obtain⟨z,b,n,r,e⟩:=h.ok I.hok;exact⟨b,r,⟨_,n,e,rfl,rfl,rfl⟩,z⟩
 ·refine⟨b.toList,r,⟨o,n,I.kIn a o c,d,f,by simpa using g⟩,?_⟩;have e:=r.length;simp only[aA] at e;lia
def Inv.tuple(I:Inv X X5 σ H s)(h:rL X.K H a xs):∃b:List ae,oA xs b/\IsTup s.heap a b.toArray/\xs.length<=KB:=by
 rcases h with h|⟨o,b,n,c,d,f,g,r⟩
 ·obtain⟨z,b,r,p⟩:=h.ok I.hok;exact⟨b,r,p.tup,z⟩
 ·refine⟨b.toList,r,⟨o,I.kIn a o c,d,n,by simpa using f⟩,?_⟩;have e:=r.length;simp only[aA] at e;lia
def Inv.list_inj(I:Inv X X5 σ H s)(h:qJ X.K H a xs)(h':qJ X.K H a ys):xs=ys:=by
 obtain⟨g,r,⟨o,n,e,_,_,d⟩,_⟩:=I.list h;obtain⟨b,i,⟨j,k,c,_,_,f⟩,_⟩:=I.list h';rw[e] at c;cases c;rw[d] at f;injection f with d1 _;have:g=b:=by simpa using congrArg lV d1
 subst this;exact r.inj i
def Inv.tuple_inj(I:Inv X X5 σ H s)(h:rL X.K H a xs)(h':rL X.K H a ys):xs=ys:=by
 obtain⟨g,r,⟨o,e,_,n,d⟩,_⟩:=I.tuple h;obtain⟨b,i,⟨j,c,_,k,f⟩,_⟩:=I.tuple h';rw[e] at c;cases c;rw[d] at f;injection f with d1 _;have:g=b:=by simpa using congrArg lV d1
 subst this;exact r.inj i
end
abbrev Cx.wish(X:Cx)(E:ae->af->Prop):Cx:={ X with xe:=E }
abbrev Cx.nox(X:Cx):Cx:=X.wish λ_ _=>False
def Cx.Ok.wish{X:Cx}(ok:X.Ok)(E:ae->af->Prop):(X.wish E).Ok:=
 ⟨ok.mod,ok.kind,ok.glob,ok.blt,ok.above,ok.inj,ok.has,ok.cab,ok.hd,ok.frames,ok.stk,ok.exf,ok.bs,ok.bsz,ok.noex,ok.exfs,ok.funs,ok.frf⟩
def Cx.Ok.unwish{X:Cx}{E:ae->af->Prop}(ok:(X.wish E).Ok):X.Ok:=
 ⟨ok.mod,ok.kind,ok.glob,ok.blt,ok.above,ok.inj,ok.has,ok.cab,ok.hd,ok.frames,ok.stk,ok.exf,ok.bs,ok.bsz,ok.noex,ok.exfs,ok.funs,ok.frf⟩
section
variable{X:Cx}{X5:List (ab×Obj)}{σ:St}{H:Hp}{s:af}{E:ae->af->Prop}
def Inv.wish(I:Inv X X5 σ H s)(E:ae->af->Prop):Inv (X.wish E) X5 σ H s:=⟨I.ok.wish E,I.os,I.bare,I.base,I.loc,I.cell,I.free,I.freeC,I.pin,I.hok,I.len,I.tk⟩
def Inv.unwish(I:Inv (X.wish E) X5 σ H s):Inv X X5 σ H s:=⟨I.ok.unwish,I.os,I.bare,I.base,I.loc,I.cell,I.free,I.freeC,I.pin,I.hok,I.len,I.tk⟩
def SP.unwish{D:yh}{f:Flow}{c:af}(h:SP (X.wish E) X5 D f c):SP X X5 D f c:=by
 cases f with
 |next=>obtain⟨a,b,I,q⟩:=h;exact⟨a,b,I.unwish,q⟩
 |brk=>obtain⟨a,b,I,q⟩:=h;exact⟨a,b,I.unwish,q⟩
 |cont=>obtain⟨a,b,I,q⟩:=h;exact⟨a,b,I.unwish,q⟩
 |ret u=>obtain⟨v,a,b,I,r,q⟩:=h;exact⟨v,a,b,I.unwish,r,q⟩
def PE.nox(h:PE X.nox e t):PE X e t:=λX5 s σ H Q I a=>
 cw (h X5 s σ H Q (I.wish _) a) (λ_ _ ⟨v,b,c,r,q⟩=>⟨v,b,c.unwish,r,q⟩) λ_ _ z=>ak z
def PT.nox(h:PT X.nox e t):PT X e t:=λX5 s σ H Q I a=>
 cw (h X5 s σ H Q (I.wish _) a) (λ_ _ ⟨b,c,q⟩=>⟨b,c.unwish,q⟩) λ_ _ z=>ak z
def sY.nox{st:List er}{t:TS}(h:sY X.nox st t):sY X st t:=λX5 s σ H D I a=>
 cw (h X5 s σ H D (I.wish _) a) (λ_ _ q=>q.unwish) λ_ _ z=>ak z
end
section
variable{X:Cx}{st:er}{rest:List er}{t u:TS}{e:aR}{te:TE}{pos:Pos}
def Ny:TS:=λD σ H=>D.nx σ H
def MF(t u:TS):TS:=λD σ H=>t { D with nx:=u D } σ H
def Za:sY X [] Ny:=λ_ _ a H _ I h=>iU ⟨a,H,I,h⟩
def DB(c:PS X st t)(d:sY X rest u):sY X (st::rest) (MF t u):=by
 intro a s g H D I h;refine wpAny_execs_cons (qc (c a s g H { D with nx:=u D } I h) λf i q=>?_);cases f with
 | next=>
  obtain⟨b,j,k,q⟩:=q;exact d a i b j D k q
 |ret v=>exact q
 |brk=>exact q
 |cont=>exact q
def Pa(b:PS X st t):sY X [st] t:=by
 intro a s c H D I h;refine wpAny_execs_cons (qc (b a s c H D I h) λf d q=>?_);cases f with
 |next=>exact iU q
 |ret v=>exact q
 |brk=>exact q
 |cont=>exact q
def YT:PS X (.Pass pos) Ny:=λ_ _ a H _ I h=>wpAny_Pass ⟨a,H,I,h⟩
def Inv.quiet{a:List (ab×Obj)}{σ:St}{H:Hp}{s:af}(I:Inv X a σ H s):interactive X.env=Y1:=by simp[interactive,I.ok.kind]
def Vf(te:TE):TS:=λD σ H=>te σ H λ_ H1=>D.nx σ H1
def OJ(c:PE X e te)(d:swapsWith e X9 pos.line X.env=pure Y1:=by rfl):PS X (.Expr e pos) (Vf te):=by intro a s b H D I h;exact wpAny_Expr_any (qc (c a s b H _ I h) λv j ⟨x,f,g,k,i⟩=>⟨b,f,g,i⟩) I.quiet d
def T4(te:TE):TS:=λD σ H=>te σ H D.rt
def Wz(c:PE X e te):PS X (.Return (XV e) pos) (T4 te):=by intro a s b H D I h;exact wpAny_Return_some (qc (c a s b H _ I h) λv j ⟨x,d,f,g,i⟩=>⟨x,b,d,f,g,i⟩)
def T1(c:TT)(t u:TS):TS:=λD σ H=>c σ H λb H1=>if b=YP then t D σ H1 else u D σ H1
def Vg{c:aR}{a b:List er}{i:TT}(n:PT X c i)(o:sY X a t)(p:sY X b u):PS X (.If c a b pos) (T1 i t u):=by
 intro f s g H D I h;refine wpAny_If (qc (n f s g H _ I h) λd j ⟨k,l,m⟩=>?_);cases d with
 |true=>exact o f j g k D l m
 |false=>exact p f j g k D l m
def Vx:TS:=λ_ _ _=>False
def zbQ:sY X sts Vx:=λ_ _ _ _ _ _ h=>h.elim
end
abbrev TG:=V->St->Hp->(St->Hp->Prop)->Prop
abbrev CJ:=List V->St->Hp->(St->Hp->Prop)->Prop
def PG(X:Cx)(target:aR)(t:TG):Prop:=
 ∀(X5:List (ab×Obj))(s:af)(σ:St)(H:Hp)(v:V)(u:ae)(Q:St->Hp->Prop),Inv X X5 σ H s->RelV v u->t v σ H Q->
  ao (aw X.prog X.w) X.A (assign target X.env u) (λ_ s'=>∃σ' H',Inv X X5 σ' H' s'/\Q σ' H') X.xe s
def Ia(X:Cx)(ts:List aR)(t:CJ):Prop:=
 ∀(X5:List (ab×Obj))(s:af)(σ:St)(H:Hp)(vs:List V)(us:List ae)(Q:St->Hp->Prop),Inv X X5 σ H s->oA vs us->t vs σ H Q->
  ao (aw X.prog X.w) X.A (assignInOrder ((fV ts X.env).map (·.2)) us) (λ_ s'=>∃σ' H',Inv X X5 σ' H' s'/\Q σ' H') X.xe s
abbrev Ik:=V->V->V->Hp->(Hp->Prop)->Prop
def MO(X:Cx)(t:Ik):Prop:=
 ∀(X5:List (ab×Obj))(s:af)(σ:St)(H:Hp)(o i v:V)(ov iv u:ae)(Q:Hp->Prop),Inv X X5 σ H s->RelV o ov->RelV i iv->RelV v u->t o i v H Q->
  ao (aw X.prog X.w) X.A (setItem ov iv u) (λ_ s'=>∃H',Inv X X5 σ H' s'/\Q H') X.xe s
abbrev H_:=V->V->Hp->VK->Prop
def TF(X:Cx)(op:Operator)(t:H_):Prop:=
 ∀(X5:List (ab×Obj))(s:af)(σ:St)(H:Hp)(x y:V)(v u:ae)(Q:VK),Inv X X5 σ H s->RelV x v->RelV y u->t x y H Q->
  ao (aw X.prog X.w) X.A (inplaceOp op v u) (EP X X5 σ Q) X.xe s
section
variable{X:Cx}{pos:Pos}
def u7(i:Nat):TG:=λv σ H Q=>Q (σ.set i (XV v)) H
def B9(b:X.N.Nodup)(c:X.N[i]?=XV x)(d:Loc X.env.scope x)(e:X.fn x=YP\/X.env.scope.names.lookup x=XV .local:=by first|exact .inl rfl|exact .inr rfl|assumption):PG X (.Name x pos) (u7 i):=by intro a s g H v u Q I r h;exact ij (DG I b c d r (λj f=>⟨_,H,f,h⟩) e)
def FJ:CJ:=λvs σ H Q=>vs=[]/\Q σ H
def yS(t:TG)(u:CJ):CJ:=λvs σ H Q=>∃v r,vs=v::r/\t v σ H λσ' H'=>u r σ' H' Q
def Pd:Ia X [] FJ:=by intro a s b H c d Q I r h;obtain⟨e,h⟩:=h;subst e;cases r;exact assignInOrder_nil ⟨b,H,I,h⟩
def DC{e:aR}{b:List aR}{t:TG}{u:CJ}(c:PG X e t)(d:Ia X b u)
  (f:(fV (e::b) X.env).map (·.2)=assign e X.env::(fV b X.env).map (·.2):=by rfl):Ia X (e::b) (yS t u):=by
 intro a s g H o p Q I r h;obtain⟨v,q,i,h⟩:=h;subst i;cases r with
 | cons r rr=>
  rw[f];refine jo (qc (c a s g H _ _ _ I r h) λ_ j ⟨k,l,m,n⟩=>?_);exact d a j k l _ _ Q m rr n
noncomputable def CL(K:ah)(n:Nat)(t:CJ):TG:=λv σ H Q=>∃a xs,v=.ref a/\rL K H a xs/\xs.length=n/\t xs σ H Q
def Ob(i:X.calm=YP)(h:Ia X es t)
  (j:(fV es X.env).length=n:=by rfl) (l:(fV es X.env).findIdx? (·.1)=X9:=by rfl):PG X (.Tuple es k pos) (CL X.K n t):=by intro c s f H v u Q I r d;obtain⟨a,m,p,q,w,d⟩:=d;subst p;cases r;obtain⟨B,g,x,C⟩:=I.tuple q;refine assign_Tuple_tuple (I.ok.hd i) x (by simp[j,<- w,g.length]) l λy z=>?_;have A:Inv X c f H { s with heap:=y }:=I.kept (t':=s.toks) λb o e=>z b o (bo (aK e)) e;exact h c _ f H m _ Q A (by simpa using g) d
def xy(to ti:TE)(t:Ik):TG:=λv σ H Q=>to σ H λo H1=>ti σ H1 λi H2=>t o i v H2 λH3=>Q σ H3
def Wb{o i:aR}{e f:TE}{t:Ik}(g:PE X o e)(j:PE X i f)(k:MO X t)
  (l:∀v,assign (.Subscript o i pos) X.env v=(do
   let b <- holding [v] (eval o X.env);let c <- holding [v,b] (eval i X.env)
   standAt pos
   holding [v,b,c] (setItem b c v)
   release [v,b,c] []):=by intro _;rfl):PG X (.Subscript o i pos) (xy e f t):=by intro a s d H v u Q I r h;rw[l];refine aa (bD (qc (g a s d H _ I h) λb m ⟨x,n,p,q,w⟩=>?_));refine aa (bD (qc (j a m d n _ p w) λc z ⟨y,A,B,C,D⟩=>?_));refine aa (dM (aa (bD (qc (k a z d A x y v b c u _ B q C r D) λ_ J ⟨E,F,G⟩=>?_))));exact wpAny_release ⟨d,E,F,G⟩
def BL(te:TE)(g:TG):TS:=λD σ H=>te σ H λx H1=>g x σ H1 D.nx
def IW{b e:aR}{te:TE}{g:TG}(d:PE X e te)(f:PG X b g)(i:fO [b] e pos.line X.env=pure Y1:=by rfl)(j:fP [b] e X.env=pure X9:=by rfl)
  (k:(fV [b] X.env).map (·.2)=[assign b X.env]:=by rfl):PS X (.Assign [b] e pos) (BL te g):=by intro a s c H D I h;refine wpAny_Assign_stores (qc (d a s c H _ I h) λv l ⟨x,m,n,o,p⟩=>?_) i j;rw[k];exact qc (f a l c m x v _ n o p) λ_ r q=>q
def N8{i:Nat}{x:Str}{e:aR}{te:TE}{a:Pos}(c:X.N.Nodup)(d:X.N[i]?=XV x)(f:Loc X.env.scope x)(g:PE X e te)(j:swapsWith e (XV (.Name x a)) pos.line X.env=pure Y1:=by rfl)(k:X.fn x=YP\/X.env.scope.names.lookup x=XV .local:=by first|exact .inl rfl|exact .inr rfl|assumption):
  PS X (.Assign [.Name x a] e pos) (BL te (u7 i)):=by intro b s l H D I h;refine wpAny_Assign_Name (qc (g b s l H _ I h) λv r ⟨y,m,n,o,p⟩=>?_) j;exact DG n c d f o (λt q=>⟨_,m,q,p⟩) k
def Uk(i j:Nat)(ta:TA):TS:=λD σ H=>ta σ H λvs H1=>∃v w,vs=[v,w]/\D.nx ((σ.set i (XV v)).set j (XV w)) H1
def Wt{i j:Nat}{x y:Str}{a b:aR}{r:TA}{k l m:Pos}{kt k2 A3}(F:X.calm=YP)(t:X.N.Nodup)(G:X.N[i]?=XV x)(J:X.N[j]?=XV y)(K:i≠j)
  (u:X.env.scope.names.lookup x=XV .local) (z:X.env.scope.names.lookup y=XV .local) (L:PA X [a,b] r)
  (M:fP [.Tuple [.Name x k,.Name y l] kt m] (.Tuple [a,b] k2 A3) X.env=pure (XV [x,y]))
  (O:fO [.Tuple [.Name x k,.Name y l] kt m] (.Tuple [a,b] k2 A3) pos.line X.env=pure Y1:=by rfl):
  PS X (.Assign [.Tuple [.Name x k,.Name y l] kt m] (.Tuple [a,b] k2 A3) pos) (Uk i j r):=by
 intro c s B H D I h;rw[exec_Assign_arm];refine aa (dM ?_);rw[O];refine aa (aj ?_);rw[Z5 'u'];refine aa (Tuple_ (qc (L _ c s B H _ I h) λP d ⟨vs,C,Q,R,n⟩=>?_));obtain⟨v,w,S,n⟩:=n;subst S;obtain⟨f,g,rfl,T,U⟩:∃f g,P=[f,g]/\RelV v f/\RelV w g:=by
  cases R with
  | cons p q=>
   cases q with
   | cons p' q'=>
    cases q';exact⟨_,_,rfl,p,p'⟩
 refine cg ?_ (by show 2<=KB;decide);have V:Inv X c B C { d with heap:=d.heap.push { cls:=.type "tuple",data:=.seq [f,g].toArray } }:=Q.kept (t':=d.toks) λb o e=>ag _ e;rw[M];refine aa (aj ?_);show ao (aw X.prog X.w) X.A (do rule "assign.swapped-stores";let items <- unpackItems (.ref d.heap.objs.size) 2 X9;assignInOrder [λv=>bindName X.env y v,λv=>bindName X.env x v] items.reverse;pure Flow.next) _ _ _;refine aa (dG (aa (unpackItems_tuple (items:=#[f,g]) (I.ok.hd F) (IsTup.new d.heap _) λh' W=>?_)));have Y:=V.kept (h':=h') (t':=d.toks) λb o e=>W b o (bo (aK e)) e;show ao _ _ (assignInOrder [λv=>bindName X.env y v,λv=>bindName X.env x v] [g,f] >>= λ_=>pure Flow.next) _ _ _;refine aa (jo (wpAny_bindName (DG Y t J (.inl z) U (λs2 Z=>?_) (.inr z))));refine jo (wpAny_bindName (DG Z t G (.inl u) T (λs3 E=>assignInOrder_nil (aj ?_)) (.inr u)));rw[List.set_comm _ _ (cS K)] at E;exact⟨_,C,E,n⟩
def Ue(i:Nat)(te:TE)(ti:H_):TS:=λD σ H=>∃x,σ[i]?=XV (XV x)/\te σ H λy H1=>ti x y H1 λz H2=>D.nx (σ.set i (XV z)) H2
def VT{i:Nat}{x:Str}{e:aR}{te:TE}{op:Operator}{g:H_}{b:Pos}(p:X.N.Nodup)(j:X.N[i]?=XV x)(d:Loc X.env.scope x)(q:PE X e te)(t:TF X op g)(B:X.fn x=YP\/X.env.scope.names.lookup x=XV .local:=by first|exact .inl rfl|exact .inr rfl|assumption):
  PS X (.AugAssign (.Name x b) op e pos) (Ue i te g):=by
 intro a s n H D I h;obtain⟨v,C,h⟩:=h;obtain⟨m,E,F⟩:=I.loc;have f:u6 X.env.scope x:=by rcases d with k|k;exact .inl k;exact .inr (.inl k)
 obtain⟨u,r,l⟩:=F i x v j C f;refine wpAny_AugAssign_Name ?_;have o:ao (aw X.prog X.w) X.A (eval e X.env) (λw G=>ao (aw X.prog X.w) X.A (inplaceOp op u w) (λr J=>ao (aw X.prog X.w) X.A (storeName X.env x r) (λ_=>SP X a D .next) X.xe J) X.xe G) X.xe s:=by
  refine qc (q a s n H _ I h) λw K ⟨y,L,M,O,P⟩=>?_;refine qc (t a K n L v y u w _ M r O P) λz Z ⟨zv,Q,R,S,T⟩=>?_;exact DG R p j d S (λs3 U=>⟨_,Q,U,T⟩) B
 rcases l with⟨hk,V⟩|⟨hk,c,W,Y⟩
 ·exact lp I.ok.kind hk E V o
 ·rcases hk with hk|hk
  ·exact lO I.ok.kind hk W Y o
  ·rcases d with k|k
   ·have:X.env.scope.names.lookup x=XV .free:=hk;rw[k] at this;cases this
   ·have:X.env.scope.names.lookup x=XV .free:=hk;rw[k] at this;cases this
def ipI(f:Int->Int->Int):H_:=λx y H Q=>∃i j,x=.int i/\y=.int j/\Q (.int (f i j)) H
def WO:TF X .Add (ipI λi j=>i+j):=by intro a s f H x y v u Q I b c h;obtain⟨i,j,d,e,q⟩:=h;subst d;subst e;obtain⟨t,rfl⟩:=b;obtain⟨g,rfl⟩:=c;exact iadd_int ⟨.int _,H,I.tok _,⟨_,rfl⟩,q⟩
end
section
variable{X:Cx}{pos:Pos}
noncomputable def Xb(c:TT)(tb:TS):TS:=λD σ H=>∃W:Nat->St->Hp->Prop,(∃m,W m σ H)/\∀m σ H,W m σ H->
 c σ H λb H1=>if b=YP then ∃N:St->Hp->Prop,(∀σ' H',N σ' H'->∃m',m'<m/\W m' σ' H')/\tb { D with nx:=N,ct:=N,bk:=D.nx } σ H1 else D.nx σ H1
def zeF{c:aR}{body:List er}{t:TT}{u:TS}(x:kl (aw X.prog X.w) X.A X.env X.xe)(F:PT X c t)(G:sY X body u):PS X (.While c body [] pos) (Xb t u):=by
 intro a s J H D I h;obtain⟨W,⟨K,L⟩,d⟩:=h;refine wpAny_While (codeAny_whileLoop (λn M=>∃e y,Inv X a e y M/\W n e y) ?_ K ⟨J,H,I,L⟩);rintro n O ⟨j,z,P,Q⟩;refine fk x (qc (F a O j z _ P (d n j z Q)) λb R ⟨B,C,k⟩=>?_);cases b with
 | true=>
  obtain⟨N,E,k⟩:=k;rw[Y2 rfl];refine fk x (qc (G a R j B _ C k) λf S l=>?_);cases f with
  | next=>
   obtain⟨g,i,m,o⟩:=l;obtain⟨p,q,r⟩:=E g i o;exact⟨p,q,g,i,m,r⟩
  | cont=>
   obtain⟨g,i,m,o⟩:=l;obtain⟨p,q,r⟩:=E g i o;exact⟨p,q,g,i,m,r⟩
  |brk=>exact l
  |ret v=>exact l
 | false=>
  rw[Z5 ci];exact iU ⟨j,B,C,k⟩
end
structure It where
 go:Nat->Hp->Prop
 yld:Nat->Hp->V->Hp->Prop
 stop:Nat->Hp->Prop
def si(X:Cx)(X5:List (ab×Obj))(H:Hp)(b:ab):Prop:=
 H b=X9/\b≠X.env.locals/\b∉X.fs/\(b∈X.ex\/X.s₀.heap.objs.size<=b)/\(∀x c,X.env.cells.lookup x=XV c->c≠b)/\∀p∈X.pn++X5,p.1≠b
def Inv.fpOk(I:Inv X X5 σ H s)(a:s.heap.objs.size<=b)(d:H' b=X9):si X X5 H' b:=by
 refine⟨d,eB (a9 I.lt a),I.nofs a,.inr (aE I.sz a),λx c e z=>?_,λp f z=>?_⟩
 ·obtain⟨v,q⟩:=I.cell x c e;exact absurd (a9 q.lt (by rw[z];exact a)) (bz _)
 ·exact absurd (a9 (aK (I.pin p f).1) (by rw[z];exact a)) (bz _)
structure xt(P:aM)(w:aV)(K:ah)(tg:aR)(J:It)(fp:List ab)(it:ab)(tn:Nat->aX->Prop):Prop where
 mem:it∈fp
 obj:∀i h,tn i h->∀b∈fp,∃o,h.get? b=XV o/\∀v,o.data ≠ .cell v
 keep:∀i h h',tn i h->(∀b∈fp,∀o,h.get? b=XV o->h'.get? b=XV o)->tn i h'
 item:∀(X:Cx),X.prog=P->X.w=w->X.K=K->X.calm=YP->∀(i:Nat)(X5:List (ab×Obj))(s:af)(σ:St)(H:Hp)(E:ae->af->Prop),Inv X X5 σ H s->(∀b∈fp,si X X5 H b)->tn i s.heap->J.go i H->
  ao (aw P w) X.A (pyNext (.ref it)) (λr s1=>∃u,r=XV u/\
   ao (aw P w) X.A (letOwnedTupleGo tg (.ref it) u) (λ_ s2=>∃x H',Inv X X5 σ H' s2/\RelV x u/\J.yld i H x H'/\tn (i+1) s2.heap/\∀b∈fp,H' b=X9) E s1) E s
 done:∀(X:Cx),X.prog=P->X.w=w->X.K=K->X.calm=YP->∀(i:Nat)(X5:List (ab×Obj))(s:af)(σ:St)(H:Hp)(E:ae->af->Prop),Inv X X5 σ H s->(∀b∈fp,si X X5 H b)->tn i s.heap->J.stop i H->
  ao (aw P w) X.A (pyNext (.ref it)) (λr s1=>r=X9/\Inv X X5 σ H s1) E s
 self:∀(A:a7)(i:Nat)(s:af)(Q:ae->af->Prop)(E:ae->af->Prop),tn i s.heap->Q (.ref it) s->ao (aw P w) A (pyIter (.ref it)) Q E s
abbrev TI:=St->Hp->(It->Hp->Prop)->Prop
def TH(X:Cx)(X5:List (ab×Obj))(σ:St)(tg:aR)(R:It->Hp->Prop)(EE:ae)(s2:af):Prop:=
 ∃(it:ab)(fp:List ab)(tn:Nat->aX->Prop)(J:It)(H':Hp),EE=.ref it/\Inv X X5 σ H' s2/\xt X.prog X.w X.K tg J fp it tn/\tn 0 s2.heap/\(∀b∈fp,si X X5 H' b)/\R J H'
def PI(X:Cx)(tg iter:aR)(wi:TI):Prop:=
 ∀(X5:List (ab×Obj))(s:af)(σ:St)(H:Hp)(R:It->Hp->Prop),Inv X X5 σ H s->wi σ H R->
  ao (aw X.prog X.w) X.A (eval iter X.env) (λv s1=>ao (aw X.prog X.w) X.A (pyIter v) (TH X X5 σ tg R) X.xe s1) X.xe s
def C0(b:s.heap.get? it=XV o)(c:o.cls=.type n)(d:o.data=.fields vs)
  (e:["enumerate", "zip", "dict_itemiterator", "dict_reverseitemiterator", "odict_iterator", "itertools.zip_longest", "itertools.pairwise"].contains n=Y1) (a:Q () s):ao M A (letOwnedTupleGo tg (.ref it) u) Q E s:=by
 unfold letOwnedTupleGo;cases tg<;>first
  |exact aj a
  | (cases u<;>first
    |exact aj a
    | (refine aa (wpAny_load b ?_)
       rw[c,d];show ao M A (if (["enumerate", "zip", "dict_itemiterator", "dict_reverseitemiterator", "odict_iterator", "itertools.zip_longest", "itertools.pairwise"].contains n&&vs[0]?==XV (bS _))=YP then _ else _) Q E s;rw[Z5 (by intro h;rw[e,kN] at h;cases h)];exact aj a))
noncomputable def Mx(K:ah)(a:ab):It:=
 ⟨λi H=>∃xs x,qJ K H a xs/\xs[i]?=XV x,λi H x H'=>H'=H/\∀xs,qJ K H a xs->xs[i]?=XV x,λi H=>∃xs,qJ K H a xs/\xs.length<=i⟩
noncomputable def Mw(K:ah)(a:ab):It:=
 ⟨λi H=>∃xs x,rL K H a xs/\xs[i]?=XV x,λi H x H'=>H'=H/\∀xs,rL K H a xs->xs[i]?=XV x,λi H=>∃xs,rL K H a xs/\xs.length<=i⟩
noncomputable def Ig(lo:Int)(n:Nat):It:=⟨λi _=>i<n,λi H x H'=>H'=H/\x=.int (lo+i),λi _=>n<=i⟩
def Rb{P:aM}{w:aV}{K:ah}{O:aR}(a it:ab):xt P w K O (Mx K a) [it] it (λi h=>h.IsListIter it a i) where
 mem:=by simp
 obj:=λi h f b j=>by
  have e:b=it:=by simpa using j
  subst e;obtain⟨o,e,c,d⟩:=f;exact⟨o,e,λv z=>by rw[d] at z;cases z⟩
 keep:=λi h l f k=>f.at λo e=>k it 'k' o e
 item:=by
  intro X q r t L i g s M H E I m f y;subst q r t;obtain⟨Q,x,n,A⟩:=y;obtain⟨R,B,p,S⟩:=I.list n;obtain⟨u,T,U⟩:=B.get A;obtain⟨C,D,V,F,G,J⟩:=m it 'k';refine wpAny_pyNext_list_item f p.isList (x:=u) (by simpa using T) λl N W=>?_;have Y:Inv X g M H { s with heap:=l }:=I.turned (t':=s.toks) (λb o j e=>(W.2 b j).trans e) C D F G J;obtain⟨o,e,c,d⟩:=id N;exact⟨u,rfl,C0 (s:={ s with heap:=l }) e c d 'u' ⟨x,H,Y,U,⟨rfl,λys Z=>by rw[I.list_inj Z n];exact A⟩,N,λb j=>(m b j).1⟩⟩
 done:=by
  intro X q r t L i g s M H E I m f y;subst q r t;obtain⟨Q,n,A⟩:=y;obtain⟨R,B,p,S⟩:=I.list n;obtain⟨C,D,V,F,G,J⟩:=m it 'k';have hl:=B.length;exact wpAny_pyNext_list_end (I.ok.hd L) f p.isList (by simp;lia) λl eb=>⟨rfl,I.turned (t':=s.toks) (λb o j e=>eb b o j e) C D F G J⟩
 self:=λ_ _ _ _ _ f h=>wpAny_pyIter_listiter f h
def zbs{P:aM}{w:aV}{K:ah}{Q:aR}(a it:ab):xt P w K Q (Mw K a) [it] it (λi h=>h.IsTupleIter it a i) where
 mem:=by simp
 obj:=λi h f b j=>by
  have e:b=it:=by simpa using j
  subst e;obtain⟨o,e,c,d⟩:=f;exact⟨o,e,λv z=>by rw[d] at z;cases z⟩
 keep:=λi h l f k=>f.at λo e=>k it 'k' o e
 item:=by
  intro X q r t M i g s N H E I m f y;subst q r t;obtain⟨R,x,n,A⟩:=y;obtain⟨B,C,p,S⟩:=I.tuple n;obtain⟨u,T,U⟩:=C.get A;obtain⟨D,F,V,G,J,L⟩:=m it 'k';refine wpAny_pyNext_tuple_item f (show s.heap.IsTuple a B.toArray from p) (x:=u) (by simpa using T) λl O W=>?_;have Y:Inv X g N H { s with heap:=l }:=I.turned (t':=s.toks) (λb o j e=>(W.2 b j).trans e) D F G J L;obtain⟨o,e,c,d⟩:=id O;exact⟨u,rfl,C0 (s:={ s with heap:=l }) e c d 'u' ⟨x,H,Y,U,⟨rfl,λys Z=>by rw[I.tuple_inj Z n];exact A⟩,O,λb j=>(m b j).1⟩⟩
 done:=by
  intro X q r t M i g s N H E I m f y;subst q r t;obtain⟨R,n,A⟩:=y;obtain⟨B,C,p,S⟩:=I.tuple n;obtain⟨D,F,V,G,J,L⟩:=m it 'k';have hl:=C.length;exact wpAny_pyNext_tuple_end (I.ok.hd M) f (show s.heap.IsTuple a B.toArray from p) (by simp;lia) λl eb=>⟨rfl,I.turned (t':=s.toks) (λb o j e=>eb b o j e) D F G J L⟩
 self:=λ_ _ _ _ _ f h=>wpAny_pyIter_tupleiter f h
def zb0{P:aM}{w:aV}{K:ah}{G:aR}(it:ab)(lo:Int)(n:Nat):xt P w K G (Ig lo n) [it] it (λi h=>IsRangeIter h it (lo+(i:Nat)*1) ((n:Int)-(i:Nat)) 1) where
 mem:=by simp
 obj:=λi h a b d=>by
  have e:b=it:=by simpa using d
  subst e;exact⟨_,a,λv z=>by
   have J:Data.fields _=Data.cell v:=z;cases J⟩
 keep:=λi h f a k=>k it 'k' _ a
 item:=by
  intro X j l m p i c s C H E I g a q;subst j l m;obtain⟨r,u,L,x,y,A⟩:=g it 'k';have W:=Walks.range (prog:=X.prog) (w:=X.w) (I.ok.hd p) it lo 1 n;refine fW I.tk (W.item i s _ _ q a λv f B M D N F=>?_);have F:0<B:=F;obtain⟨t,rfl⟩:=M;have O:Inv X c C H { s with heap:=f,toks:=B }:=I.turned (λb o d e=>N b o (by simpa using d) e) r u x y A;refine⟨_,rfl,C0 (s:={ s with heap:=f,toks:=B }) (n := "range_iterator") D rfl rfl 'u' ⟨.int (lo+i),H,O,⟨t,?_⟩,⟨rfl,rfl⟩,D,λb d=>(g b d).1⟩⟩;rw[Int.mul_one]
 done:=by
  intro X j l m p i c s C H E I g a q;subst j l m;obtain⟨r,u,L,x,y,A⟩:=g it 'k';exact wpAny_pyNext_range_end (I.ok.hd p) a (by have:n<=i:=q;lia) λf Q=>⟨rfl,I.turned (t':=s.toks) (λb o d e=>Q b o d e) r u x y A⟩
 self:=λ_ _ _ _ _ a h=>wpAny_pyIter_rangeiter a h
section
variable{X:Cx}{tg:aR}
def ZA{c:List (ab×Obj)}{σ:St}{H:Hp}{s:af}{R:It->Hp->Prop}{E:ae->af->Prop}{lo a:Int}{t u v:Tok}{tk:Nat}(I:Inv X c σ H s)(f:-(2 ^ 62)<=lo)(g:lo<2 ^ 62)(h:-(2 ^ 62)<=a)(i:a<2 ^ 62)
  (q:R (Ig lo (a-lo).toNat) H) (m:0<tk):ao (aw X.prog X.w) X.A (pyIter (.ref s.heap.objs.size)) (TH X c σ tg R) E { s with heap:=s.heap.push { cls:=.type "range",data:=.fields #[.int lo t,.int a u,.int 1 v] },toks:=tk }:=by
 refine wpAny_pyIter_range (IsRange.new ..) (small_one f g h i) ?_;have d:Inv X c σ H { s with heap:=s.heap.push { cls:=.type "range",data:=.fields #[.int lo t,.int a u,.int 1 v] },toks:=tk }:=I.kept λb o e=>ag _ e;refine⟨(s.heap.push { cls:=.type "range",data:=.fields #[.int lo t,.int a u,.int 1 v] }).objs.size,[(s.heap.push { cls:=.type "range",data:=.fields #[.int lo t,.int a u,.int 1 v] }).objs.size],_,_,H,rfl,
  d.kept (t':=tk) λb o e=>ag _ e,zb0 _ lo (a-lo).toNat,?_,λb j=>?_,q⟩
 ·have k:lo+((0:Nat):Int)*1=lo:=by simp
  have l:(((a-lo).toNat:Nat):Int)-((0:Nat):Int)=Builtin.Range.rangeSize lo a 1:=by rw[rangeSize_one];split<;>lia
  show IsRangeIter _ _ (lo+((0:Nat):Int)*1) ((((a-lo).toNat:Nat):Int)-((0:Nat):Int)) 1;rw[k,l];exact aJ _ rfl
 ·have e:b=(s.heap.push { cls:=.type "range",data:=.fields #[.int lo t,.int a u,.int 1 v] }).objs.size:=by simpa using j
  subst e;exact d.fpOk (aD _) (d.hok.fresh (aD _))
def U2(ta:TA):TI:=λσ H R=>ta σ H λvs H1=>∃j:Int,vs=[.int j]/\-(2 ^ 62)<=j/\j<2 ^ 62/\R (Ig 0 j.toNat) H1
def zeb{a:aR}{d:TA}{p pos:Pos}(g:Gl X "range")(i:X.mg "range" = X9)(k:PA X [a] d)(l:aS [a] X.env=[(Y1,eval a X.env)]:=by rfl):PI X tg (.Call (.Name "range" p) [a] [] pos) (U2 d):=by
 intro b s m H R I h;refine oa (B4 I g i boot_range (gi (qc (k pos b s m H _ I h) λu v ⟨w,x,f,n,c⟩=>?_) l rfl));obtain⟨j,e,c,o,q⟩:=c;subst e;cases n with
 | cons r rr=>
  cases rr;obtain⟨t,rfl⟩:=r;exact call_range_1 (ZA f 'd' 'd' c o (by simpa using q) (by first|exact cU _|exact f.tk))
noncomputable def UH(wi:TI)(g:TG)(tb:TS):TS:=λD σ H=>wi σ H λJ H1=>∃W:Nat->Nat->St->Hp->Prop,(∃m,W 0 m σ H1)/\∀i m σ H,W i m σ H->
 (J.stop i H/\D.nx σ H)\/(J.go i H/\∃N:St->Hp->Prop,(∀σ' H',N σ' H'->∃m',m'<m/\W (i+1) m' σ' H')/\∀x H',J.yld i H x H'->g x σ H' λrm H2=>tb { D with nx:=N,ct:=N,bk:=D.nx } rm H2)
def Dd(fp:List ab)(h:aX):List (ab×Obj):=fp.filterMap λb=>(h.get? b).map λo=>(b,o)
def G6(a:b∈fp)(e:h.get? b=XV o):(b,o)∈Dd fp h:=gN.mpr ⟨b,a,by rw[e];rfl⟩
def zdj(a:p∈Dd fp h):p.1∈fp/\h.get? p.1=XV p.2:=by
 obtain⟨b,c,e⟩:=gN.mp a;cases q:h.get? b with
 |none=>rw[q] at e;cases e
 | some o=>
  rw[q] at e;have d:(b,o)=p:=ck e;subst d;exact⟨c,q⟩
def Inv.pinned(I:Inv X X5 σ H s)(f:∀b∈fp,si X X5 H b)(g:∀b∈fp,∃o,s.heap.get? b=XV o/\∀v,o.data ≠ .cell v):Inv X (X5++Dd fp s.heap) σ H s:=
 I.pins_of λp h=>(aH.mp h).elim (λz=>I.pin p (av _ z)) λz=>by
  obtain⟨a,e⟩:=zdj z;obtain⟨i,j,k,_⟩:=f p.1 a;obtain⟨o,c,d⟩:=g p.1 a;rw[e] at c;cases c;exact⟨e,i,j,k,d⟩
def Inv.unpinned(I:Inv X (X5++pl) σ H s):Inv X X5 σ H s:=I.pins_of λp a=>I.pin p (av _ (bB _ a))
def N6(z:kl (aw X.prog X.w) X.A X.env X.xe)(U:X.calm=YP)(hi:PI X tg iter wi)(hg:PG X tg g)(c:sY X body tb)
  (hs:∀x,bF iter X.env x=pure x:=by intro _;rfl):PS X (.For tg iter body [] pos) (UH wi g tb):=by
 intro a s V H D I h;refine wpAny_For (qc (hi a s V H _ I h) λv s1 h1=>qc h1 λEE s2 h2=>?_) hs;obtain⟨it,B,Y,J,H2,e,I2,T,qu,Z,W,⟨m0,w0⟩,C⟩:=h2;subst e
 -- what stays YP of the A8 objects through the loop
 have M:∀{t:Hp},(∀b∈B,t b=X9)->∀b∈B,si X a t b:=λhn b c=>⟨hn b c,(Z b c).2⟩;refine codeAny_forLoop_any (λn s'=>∃i j t,Inv X a j t s'/\Y i s'.heap/\(∀b∈B,t b=X9)/\W i n j t) ?_ m0 ⟨0,V,H2,I2,qu,λb c=>(Z b c).1,w0⟩;rintro n s3 ⟨i,E,L,I3,qj,HY,w3⟩;rcases C i n E L w3 with⟨F,qn⟩|⟨go,N,hN,G⟩
 ·refine fk z (qc (T.done X rfl rfl rfl U i a s3 E L X.xe I3 (M HY) qj F) λr s4 ⟨O,I4⟩=>?_);subst O;exact iU ⟨E,L,I4,qn⟩
 ·refine fk z (qc (T.item X rfl rfl rfl U i a s3 E L X.xe I3 (M HY) qj go) λr s4 ⟨u,O,h4⟩=>?_);subst O;refine fk z (qc h4 λ_ s5 ⟨x,H5,I5,r5,y5,P,Q⟩=>?_);have R:=I5.pinned (M Q) (T.obj _ _ P);refine fk z (qc (hg _ s5 E H5 x u _ R r5 (G x H5 y5)) λ_ s6 ⟨TV,H6,I6,q6⟩=>?_);refine fk z (qc (c _ s6 TV H6 _ I6 q6) λf S y=>?_);have k:∀{l:St}{p:Hp},Inv X (a++Dd B s5.heap) l p S->N l p->∃m,m<n/\∃i j t,Inv X a j t S/\Y i S.heap/\(∀b∈B,t b=X9)/\W i m j t:=λ{l p}q K=>by
   obtain⟨m',hm,w7⟩:=hN l p K;refine⟨m',hm,i+1,l,p,q.unpinned,T.keep _ _ _ P λb c o e=>(q.pin (b,o) (av _ (av _ (G6 c e)))).1,λb c=>?_,w7⟩;obtain⟨o,e,d⟩:=T.obj _ _ P b c;exact(q.pin (b,o) (av _ (av _ (G6 c e)))).2.1
  cases f with
  |next=>obtain⟨l,p,q,K⟩:=y;exact k q K
  |cont=>obtain⟨l,p,q,K⟩:=y;exact k q K
  |brk=>obtain⟨l,p,q,y⟩:=y;exact⟨l,p,q.unpinned,y⟩
  |ret v=>obtain⟨x7,l,p,q,r7,y⟩:=y;exact⟨x7,l,p,q.unpinned,r7,y⟩
end
abbrev R2:=V->V->Hp->VK->Prop
def qB(X:Cx)(f:ae->ae->Sem ae)(r:R2):Prop:=
 ∀(X5:List (ab×Obj))(s:af)(σ:St)(H:Hp)(x y:V)(v u:ae)(Q:VK),Inv X X5 σ H s->RelV x v->RelV y u->r x y H Q->
  ao (aw X.prog X.w) X.A (f v u) (EP X X5 σ Q) X.xe s
def oJ(X:Cx)(f:ae)(r:List V->Hp->VK->Prop):Prop:=
 ∀(X5:List (ab×Obj))(s:af)(σ:St)(H:Hp)(xs:List V)(us:List ae)(Q:VK),Inv X X5 σ H s->oA xs us->r xs H Q->
  ao (aw X.prog X.w) X.A (call f us) (EP X X5 σ Q) X.xe s
def Uh(X:Cx)(r:V->Hp->(Bool->Hp->Prop)->Prop):Prop:=
 ∀(X5:List (ab×Obj))(s:af)(σ:St)(H:Hp)(x:V)(v:ae)(Q:Bool->Hp->Prop),Inv X X5 σ H s->RelV x v->r x H Q->
  ao (aw X.prog X.w) X.A (truthy v) (TP X X5 σ Q) X.xe s
def Ee(r:R2)(ta tb:TE):TE:=λσ H Q=>ta σ H λx H1=>tb σ H1 λy H2=>r x y H2 Q
def rI(C:Int->Int->Prop)(g:Int->Int->V):R2:=λx y H Q=>∃i j,x=.int i/\y=.int j/\C i j/\Q (g i j) H
def t6(g:Int->Int->V):R2:=λx y H Q=>∃i j,x=.int i/\y=.int j/\Q (g i j) H
section
variable{X:Cx}{a b:aR}{ta tb:TE}{pos:Pos}
def Il(i:PE X a ta)(j:PE X b tb){c:List (ab×Obj)}{s:af}{σ:St}{H:Hp}{R:V->V->Hp->Prop}(I:Inv X c σ H s)
  (h:ta σ H λx g=>tb σ g λy d=>R x y d) {Q:ae->af->Prop} {f:ae->ae->Sem ae}
  (k:∀v u e x y d,Inv X c σ d e->RelV x v->RelV y u->R x y d->ao (aw X.prog X.w) X.A (f v u) Q X.xe e):
  ao (aw X.prog X.w) X.A (eval a X.env) (λv l=>ao (aw X.prog X.w) X.A (eval b X.env) (λu m=>ao (aw X.prog X.w) X.A (f v u) Q X.xe m) X.xe l) X.xe s:=by refine qc (i c s σ H _ I h) λv n ⟨x,g,o,p,q⟩=>?_;refine qc (j c n σ g _ o q) λu e ⟨y,d,r,t,z⟩=>?_;exact k v u e x y d r p t z
def UM{op:Operator}{r:R2}(d:qB X (dS op) r)(e:PE X a ta)(f:PE X b tb):PE X (.BinOp a op b pos) (Ee r ta tb):=by intro c s g H Q I h;exact wpAny_BinOp (Il e f I h λv u i x y j k l m q=>d c i g j x y v u Q k l m q)
def Ej{f:ae->ae->Sem ae}{C:Int->Int->Prop}{g:Int->Int->Int}
  (c:∀(i j:Int)(t u:Tok)(s:af)(Q:ae->af->Prop)(E:ae->af->Prop),C i j->Q (.int (g i j) s.toks) { s with toks:=s.toks+1 }->ao (aw X.prog X.w) X.A (f (.int i t) (.int j u)) Q E s):
  qB X f (rI C λi j=>.int (g i j)):=by intro d s n H x y v u Q I e k h;obtain⟨i,j,rfl,rfl,l,q⟩:=h;obtain⟨t,rfl⟩:=e;obtain⟨m,rfl⟩:=k;exact c i j t m s _ _ l ⟨.int (g i j),H,I.tok _,⟨_,rfl⟩,q⟩
def FV{f:ae->ae->Sem ae}{g:Int->Int->Int}
  (c:∀(i j:Int)(t u:Tok)(s:af)(Q:ae->af->Prop)(E:ae->af->Prop),Q (.int (g i j) s.toks) { s with toks:=s.toks+1 }->ao (aw X.prog X.w) X.A (f (.int i t) (.int j u)) Q E s):
  qB X f (t6 λi j=>.int (g i j)):=by intro d s m H x y v u Q I e k h;obtain⟨i,j,rfl,rfl,q⟩:=h;obtain⟨t,rfl⟩:=e;obtain⟨l,rfl⟩:=k;exact c i j t l s _ _ ⟨.int (g i j),H,I.tok _,⟨_,rfl⟩,q⟩
def FQ{f:ae->ae->Sem ae}{g:Int->Int->Bool}
  (c:∀(i j:Int)(t u:Tok)(s:af)(Q:ae->af->Prop)(E:ae->af->Prop),Q (.bool (g i j)) s->ao (aw X.prog X.w) X.A (f (.int i t) (.int j u)) Q E s):
  qB X f (t6 λi j=>.bl (g i j)):=by intro d s m H x y v u Q I e k h;obtain⟨i,j,rfl,rfl,q⟩:=h;obtain⟨t,rfl⟩:=e;obtain⟨l,rfl⟩:=k;exact c i j t l s _ _ ⟨.bl (g i j),H,I,rfl,q⟩
def MS(i j:Int):Prop:=0<j/\j<1073741824
def FZ(i j:Int):Prop:=0<=j/\j<=1000000/\i.natAbs<2 ^ 64
def pF(i j:Int):Prop:=(-(2 ^ 64)<i/\i<2 ^ 64)\/(-(2 ^ 64)<j/\j<2 ^ 64)
def pF.ok(h:pF i j):IntMulOk i j:=by
 rcases h with⟨c,d⟩|⟨c,d⟩
 ·exact .of_left (intBits_le_64 c d)
 ·exact .of_right (intBits_le_64 c d)
def Vv:qB X (dS .Add) (t6 λi j=>.int (i+j)):=FV λ_ _ _ _ _ _ _ q=>add_int q
def WR:qB X (dS .Sub) (t6 λi j=>.int (i-j)):=FV λ_ _ _ _ _ _ _ q=>sub_int q
def WM:qB X (dS .Mult) (rI pF λi j=>.int (i*j)):=Ej λ_ _ _ _ _ _ _ c q=>mul_int q c.ok
def YF:qB X (dS .FloorDiv) (rI MS λi j=>.int (i/j)):=Ej λi j _ _ _ _ _ c q=>by
 have d:(0:Int)<j:=c.1;have e:j<1073741824:=c.2;exact floordiv_int 'd' (by rw[Int.fdiv_eq_ediv_of_nonneg i 'd'];exact q) (.inl (PyProof.noPylong_small 'd'))
def WN:qB X (dS .Mod) (rI (λ_ j=>0<j) λi j=>.int (i%j)):=Ej λi j _ _ _ _ _ c q=>by
 have d:(0:Int)<j:=c;exact mod_int' 'd' (by rw[Int.fmod_eq_emod_of_nonneg i 'd'];exact q)
def VN:qB X (dS .Pow) (rI FZ λi j=>.int (i ^ j.toNat)):=Ej λ_ _ _ _ _ _ _ c q=>pow_int_small c.1 c.2.1 c.2.2 q
def VU:qB X (dS .LShift) (rI FZ λi j=>.int (i*2 ^ j.toNat)):=Ej λ_ _ _ _ _ _ _ c q=>lshift_int_small c.1 c.2.1 c.2.2 q
def WS:qB X (dS .BitAnd) (t6 λi j=>.int (h9 i j)):=FV λ_ _ _ _ _ _ _ q=>and_int q
def Vh:qB X (dS .BitOr) (t6 λi j=>.int (ix i j)):=FV λ_ _ _ _ _ _ _ q=>or_int q
end
section
variable{X:Cx}{a b c:aR}{ta tb tc:TE}{pos:Pos}
def Gh(I:Inv X X5 σ H s)(q:Q (.bl k) H)(e:k=k'):EP X X5 σ Q (.bool k') s:=by subst e;exact⟨.bl k,H,I,rfl,q⟩
def ID:qB X (cm .Lt) (t6 λi j=>.bl (decide (i<j))):=FQ λ_ _ _ _ _ _ _ q=>lt_int q
def Nz:qB X (cm .LtE) (t6 λi j=>.bl (decide (i<=j))):=FQ λ_ _ _ _ _ _ _ q=>le_int q
def Nu:qB X (cm .Gt) (t6 λi j=>.bl (decide (j<i))):=FQ λ_ _ _ _ _ _ _ q=>gt_int q
def Nc:qB X (cm .GtE) (t6 λi j=>.bl (decide (j<=i))):=FQ λ_ _ _ _ _ _ _ q=>ge_int q
def zel:qB X (cm .Lt) (λx y H Q=>∃i j,x=.str i/\y=.str j/\Q (.bl (decide (i.cps.toList<j.cps.toList))) H):=by intro d s g H x y v u Q I e f h;obtain⟨i,j,rfl,rfl,q⟩:=h;obtain⟨t,rfl⟩:=e;obtain⟨k,rfl⟩:=f;exact lt_str (Gh I q rfl)
def zco:qB X (cm .In) (λx y H Q=>∃i j,x=.str i/\y=.str j/\Q (.bl (!(bN j i 0 j.length 1).isEmpty)) H):=by intro d s g H x y v u Q I e f h;obtain⟨i,j,rfl,rfl,q⟩:=h;obtain⟨t,rfl⟩:=e;obtain⟨k,rfl⟩:=f;exact in_str (Gh I q rfl)
def Ws:qB X (cm .Is) (λx y H Q=>y=.non/\Q (.bl (decide (x=.non))) H):=by
 intro d s g H x y v u Q I e f h;obtain⟨rfl,q⟩:=h;cases f;refine is_none_gen (Gh I q ?_);cases x<;>first
  |(cases e;rfl)
  |(obtain⟨t,rfl⟩:=e;rfl)
def z7U:qB X (cm .NotIn) (λx y H Q=>∃i j,x=.str i/\y=.str j/\Q (.bl (!(!(bN j i 0 j.length 1).isEmpty))) H):=by intro d s g H x y v u Q I e f h;obtain⟨i,j,rfl,rfl,q⟩:=h;obtain⟨t,rfl⟩:=e;obtain⟨k,rfl⟩:=f;exact notIn_str (Gh I q rfl)
def qB.or(h:qB X f r)(h':qB X f r'):qB X f (λx y H Q=>r x y H Q\/r' x y H Q):=by
 intro d s e H x y v u Q I g i q;rcases q with q|q
 ·exact h d s e H x y v u Q I g i q
 ·exact h' d s e H x y v u Q I g i q
def wg(b:aR)(h:op ≠ .In:=by decide)(d:op ≠ .NotIn:=by decide):behindInMarks op b=Y1:=by
 have e:(op==CmpOp.In)=Y1:=by cases op<;>first|rfl|exact absurd rfl h
 have f:(op==CmpOp.NotIn)=Y1:=by cases op<;>first|rfl|exact absurd rfl d
 cases b<;>simp[behindInMarks,e,f]
def Yr{op:CmpOp}{r:R2}(e:qB X (cm op) r)(f:PE X a ta)(g:PE X b tb)(i:behindInMarks op b=Y1):PE X (.Compare a [op] [b] pos) (Ee r ta tb):=by intro d s j H Q I h;exact wpAny_Compare1 (Il f g I h λv u k x y l m n o q=>e d k j l x y v u Q m n o q) i
def Nh(t:TE):TT:=λσ H Q=>t σ H λx H'=>∃k,x=.bl k/\Q k H'
def Yc(g:qB X (cm op) r)(i:PE X a ta)(j:PE X b tb)(l:behindInMarks op b=Y1):PT X (.Compare a [op] [b] pos) (Nh (Ee r ta tb)):=by
 intro d s f H Q I h;refine kM (qc (i d s f H _ I h) λv m ⟨x,n,o,p,q⟩=>qc (j d m f n _ o q) λu t ⟨y,w,A,B,C⟩=>
  qc (g d t f w x y v u _ A p B C) λc J ⟨z,D,E,F,k,e,G⟩=>?_) l
 subst e;cases F;exact cM ⟨D,E,G⟩
noncomputable def Vn(r r':R2)(ta tb tc:TE):TE:=λσ H Q=>ta σ H λx H1=>tb σ H1 λy H2=>r x y H2 λz H3=>∃k,z=.bl k/\
 (if k=YP then tc σ H3 λw' H4=>r' y w' H4 Q else Q (.bl Y1) H3)
def zeK(n:qB X (cm op) r)(o:qB X (cm Ct) r')(p:PE X a ta)(q:PE X b tb)(t:PE X c tc)
  (w:lastMarks [op,Ct] [b,c]=Y1:=by with_unfolding_all rfl):PE X (.Compare a [op,Ct] [b,c] pos) (Vn r r' ta tb tc):=by
 intro f s g H Q I h;refine Compare_chain (qc (p f s g H _ I h) λv A ⟨x,B,C,D,E⟩=>chain_link (qc (q f A g B _ C E) λu F ⟨y,G,J,i,K⟩=>
  qc (n f F g G x y v u _ J D i K) λd L ⟨z,j,l,M,k,e,m⟩=>?_)) w
 subst e;cases M;refine cM ?_;cases k with
 |false=>exact ite_ff ⟨.bl Y1,j,l,rfl,m⟩
 |true=>exact ite_tt (chain_last (qc (t f L g j _ l m) λN O ⟨P,R,S,T,U⟩=>o f O g R y P u N Q S i T U))
def MW(K:ah)(x:V)(H:Hp)(k:Bool):Prop:=
 match x with
 |.non=>k=Y1
 |.bl b=>k=b
 |.int i=>k=(i !=0)
 |.str y=>y.length<=KB/\k=((y.length:Int) !=0)
 |.byt y=>y.size<=KB/\k=((y.size:Int) !=0)
 |.ref p=>(∃xs,qJ K H p xs/\k = !xs.isEmpty)\/(∃xs,rL K H p xs/\k = !xs.isEmpty) \/ ∃k_,H p=XV (.dK k_)/\k = !k_.isEmpty
 |_=>False
def zbg{κ:Type}{d:List (κ×V)}{vs:List (κ×ae)}(r:KV d vs):(!vs.isEmpty) = !d.isEmpty:=by cases r<;>rfl
def Rm{xs:List V}{d:List ae}(r:oA xs d):(!d.toArray.isEmpty) = !xs.isEmpty:=by cases r<;>simp
def BX:(KB:Nat)<2 ^ 63:=by rw[mR];decide
def Wp:Uh X (λx H Q=>∃k,MW X.K x H k/\Q k H):=by
 intro z s E H x v Q I j h;obtain⟨k,e,q⟩:=h;have F:=BX;have G:KB=16777216:=mR;cases x with
 | non=>
  cases j;have d:k=Y1:=e;subst d;exact truthy_none ⟨H,I,q⟩
 | bl b=>
  cases j;have d:k=b:=e;subst d;exact cM ⟨H,I,q⟩
 | int i=>
  obtain⟨t,rfl⟩:=j;have d:k=(i !=0):=e;subst d;exact PySem.P.truthy_int ⟨H,I,q⟩
 | str y=>
  obtain⟨t,rfl⟩:=j;obtain⟨B,d⟩:y.length<=KB/\k=((y.length:Int) !=0):=e;subst d;exact PySem.P.truthy_str 'd' ⟨H,I.tok _,q⟩
 | byt y=>
  obtain⟨t,rfl⟩:=j;obtain⟨B,d⟩:y.size<=KB/\k=((y.size:Int) !=0):=e;subst d;exact PySem.W.truthy_bytes 'd' ⟨H,I.tok _,q⟩
 | ref p=>
  cases j;have d:(∃g,qJ X.K H p g/\k = !g.isEmpty)\/(∃g,rL X.K H p g/\k = !g.isEmpty) \/ ∃l,H p=XV (.dK l)/\k = !l.isEmpty:=e;rcases d with⟨g,n,d⟩|⟨g,n,d⟩|⟨l,n,d⟩
  ·subst d;obtain⟨C,r,u,A⟩:=I.list n;have f:=r.length;exact wpAny_truthy_list u.isList (by simp only[aF];lia) ⟨H,I.tok _,by rw[Rm r];exact q⟩
  ·subst d;obtain⟨C,r,u,A⟩:=I.tuple n;have f:=r.length;exact truthy_tuple u (by simp only[aF];lia) ⟨H,I.tok _,by rw[Rm r];exact q⟩
  ·subst d;obtain⟨A,D,o,r,m⟩:l.length<=KB/\(p==sysModules)=Y1/\∃o,KV l o/\s.heap.DictOf (xb X.prog X.w) p o:=I.hok p _ n;have f:l.length=o.length:=lF r;exact wpAny_truthy_dict D m 'd' ⟨H,I.tok _,by rw[zbg r];exact q⟩
 |_=>exact(show False from e).elim
def ZV(f:PE X a ta)(g:∀e,isTrue a X.env e=(do let v <- e;standAt a.pos;holding [v] (truthy v))):
  PT X a (λσ H Q=>ta σ H λx H'=>∃k,MW X.K x H' k/\Q k H'):=by intro d s σ H Q I h;exact isTrue_plain (qc (f d s σ H _ I h) λv i ⟨x,j,l,m,n⟩=>Wp d i σ j x v Q l m n) (g _)
def zbe:qB X (dS .Add) (λx y H Q=>∃i j,x=.str i/\y=.str j/\i.length+j.length<=KB/\Q (.str (i++j)) H):=by intro d s m H x y v u Q I e f h;obtain⟨i,j,rfl,rfl,g,q⟩:=h;obtain⟨t,rfl⟩:=e;obtain⟨k,rfl⟩:=f;exact fW I.tk (add_str (λk n l=>⟨.str (i++j),H,I.tok _ l,⟨_,rfl⟩,q⟩) g)
def ue(r:oA [x] us):∃u,us=[u]/\RelV x u:=by
 cases r with
 |cons r1 r2=>cases r2;exact⟨_,rfl,r1⟩
def Gg(r:oA [x,y] us):∃u d,us=[u,d]/\RelV x u/\RelV y d:=by
 cases r with
 | cons r1 r2=>
  cases r2 with
  |cons r3 r4=>cases r4;exact⟨_,_,rfl,r1,r3⟩
def zc4(f:X.calm=YP):oJ X (.builtin "max") (λxs H Q=>∃i j,xs=[.int i,.int j]/\Q (.int (if j>i then j else i)) H):=by
 intro e s l H xs m Q I r h;obtain⟨i,j,rfl,q⟩:=h;obtain⟨u,n,rfl,⟨t,rfl⟩,⟨o,rfl⟩⟩:=Gg r;refine fW I.tk (max_two_ints (I.ok.hd f) λp v k g=>⟨_,H,I.kept k g,?_,q⟩);by_cases d:j>i
 ·rw[Y2 d,Y2 d];exact⟨_,rfl⟩
 ·rw[Z5 d,Z5 d];exact⟨_,rfl⟩
def zcU(f:X.calm=YP):oJ X (.builtin "min") (λxs H Q=>∃i j,xs=[.int i,.int j]/\Q (.int (if j<i then j else i)) H):=by
 intro e s l H xs m Q I r h;obtain⟨i,j,rfl,q⟩:=h;obtain⟨u,n,rfl,⟨t,rfl⟩,⟨o,rfl⟩⟩:=Gg r;refine fW I.tk (min_two_ints (I.ok.hd f) λp v k g=>⟨_,H,I.kept k g,?_,q⟩);by_cases d:j<i
 ·rw[Y2 d,Y2 d];exact⟨_,rfl⟩
 ·rw[Z5 d,Z5 d];exact⟨_,rfl⟩
def zdv:oJ X (.type "int") (λxs H Q=>(∃i,xs=[.int i]/\Q (.int i) H) \/ ∃k,xs=[.bl k]/\Q (.int (if k then 1 else 0)) H):=by
 intro d s f H xs g Q I r h;rcases h with⟨i,rfl,q⟩|⟨k,rfl,q⟩
 ·obtain⟨u,rfl,t,rfl⟩:=ue r;exact call_int_int ⟨.int i,H,I,⟨_,rfl⟩,q⟩
 ·obtain⟨u,rfl,e⟩:=ue r;cases e;exact call_int_bool ⟨.int (if k then 1 else 0),H,I.tok _,⟨_,rfl⟩,q⟩
def z8L:oJ X (.type "str") (λxs H Q=>∃i,xs=[.int i]/\i.natAbs.log2<1920/\Q (.str (toString i)) H):=by intro d s f H xs g Q I r h;obtain⟨i,rfl,e,q⟩:=h;obtain⟨u,rfl,t,rfl⟩:=ue r;exact PySem.P.str_of_int e ⟨.str _,H,I.tok _,⟨_,rfl⟩,q⟩
def MT(K:ah)(x:V)(H:Hp)(n:Nat):Prop:=
 match x with
 |.str y=>y.length<=KB/\n=y.length
 |.byt y=>y.size<=KB/\n=y.size
 |.ref p=>(∃xs,qJ K H p xs/\n=xs.length) \/ ∃xs,rL K H p xs/\n=xs.length
 |_=>False
def zeD:oJ X (.builtin "len") (λxs H Q=>∃x n,xs=[x]/\MT X.K x H n/\Q (.int n) H):=by
 intro l s w H xs z Q I r h;obtain⟨x,n,rfl,e,q⟩:=h;obtain⟨u,rfl,g⟩:=ue r;have A:=BX;have B:KB=16777216:=mR;cases x with
 | str y=>
  obtain⟨t,rfl⟩:=g;obtain⟨m,f⟩:y.length<=KB/\n=y.length:=e;subst f;exact len_str 'd' ⟨.int _,H,I.tok _,⟨_,rfl⟩,q⟩
 | byt y=>
  obtain⟨t,rfl⟩:=g;obtain⟨m,f⟩:y.size<=KB/\n=y.size:=e;subst f;exact PySem.W.len_bytes 'd' ⟨.int _,H,I.tok _,⟨_,rfl⟩,q⟩
 | ref p=>
  cases g;have f:(∃xs,qJ X.K H p xs/\n=xs.length) \/ ∃xs,rL X.K H p xs/\n=xs.length:=e;rcases f with⟨xs,i,f⟩|⟨xs,i,f⟩
  ·subst f;obtain⟨o,j,k,v⟩:=I.list i;have d:=j.length;exact Calls.call_len_list k.isList (by simp only[aF];lia) ⟨.int xs.length,H,I.tok _,⟨_,by simp only[aF];rw[d]⟩,q⟩
  ·subst f;obtain⟨o,j,k,v⟩:=I.tuple i;have d:=j.length;exact len_tuple k (by simp only[aF];lia) ⟨.int xs.length,H,I.tok _,⟨_,by simp only[aF];rw[d]⟩,q⟩
 |_=>exact(show False from e).elim
end
structure zox(h:aX)(x dx C:ab)(mA:Str->Option ae):Prop where
 obj:h.get? x=XV (nz C dx)
 ns:h.Ns1 dx mA
 ne:dx≠x
section
end
def o0.some_of(r:o0 (XV v) o):∃u,o=XV u/\RelV v u:=by
 cases o with
 |none=>exact(show False from r).elim
 |some u=>exact⟨u,rfl,r⟩
structure My(K:ah)(C:ab):Prop where
 pg:mX K C Str.empty=YP
 hd:PySem.W.hasDictIn K C=YP
 po:PySem.W.plainOver K C=YP
 sa:eT K (.ref C) "__setattr__" = XV (XV (.builtin "object.__setattr__"))
def My.get{K:ah}{C:ab}(c:My K C)(f:Str):mX K C f=YP:=c.pg
structure Con(K:ah)(C:ab)(f:Str)(v:V)(u:ae):Prop where
 at_:eT K (.ref C) f=XV (XV u)
 rel:RelV v u
 get:jG K u "__get__" = XV X9
 cp:PySem.W.copiedNames.contains f=Y1
structure zot(K:ah)(C:ab)(m:Str)(f:ab):Prop where
 at_:eT K (.ref C) m=XV (XV (.ref f))
 fn:n6 K (.ref f)=YP
 kp:cT K (.ref f)=YP
section
end
section
variable{H:Hp}
inductive xq(K:ah)(H:Hp):V->ae->Prop where
 |non:xq K H .non (.type "NoneType")
 |bl (x:Bool):xq K H (.bl x) (.type "bool")
 |int (i:Int):xq K H (.int i) (.type "int")
 |str (x:Str):xq K H (.str x) (.type "str")
 |flt (x:UInt64):xq K H (.flt x) (.type "float")
 |lst {a:ab} {xs:List V} (e:H a=XV (.lst xs)):xq K H (.ref a) (.type "list")
 |frz {a:ab} {o:Obj} {xs:List V} (e:H a=XV (.frz o (.lst xs))):xq K H (.ref a) (.type "list")
 |tup {a:ab} {xs:List V} (e:H a=XV (.tup xs)):xq K H (.ref a) (.type "tuple")
 |dK {a:ab} {k_:List (Key×V)} (e:H a=XV (.dK k_)):xq K H (.ref a) (.type "dict")
 |dT {a:ab} {k_:List (List Key×V)} (e:H a=XV (.dT k_)):xq K H (.ref a) (.type "dict")
 | ins {a C dx:ab} {fs:List (Str×V)} (e:H a=XV (.ins C dx fs)) (cl:My K C) (ha:eT K (.ref C) "__class__" = XV (XV (.builtin "object.__class__")))
   (hn:jG K (.builtin "object.__class__") "__get__" = XV (XV (.builtin "getset_descriptor.__get__"))) (qE:nB K (.builtin "object.__class__")=XV YP)
   (hm:lG K C (.type "object")=XV YP):xq K H (.ref a) (.ref C)
end
structure oH(k:Nat)(A:a7):Prop where
 hd:A.handled=X9
 dp:A.depth+3*k+5<recursionLimit
 un:A.units+16*k+200<cLine
def oH.mono(r:oH k A)(h:j<=k):oH j A:=⟨r.hd,by have:=r.dp;lia,by have:=r.un;lia⟩
def oH.deeper(r:oH (k+1) A)(env:Env):oH k (A.deeper env):=
 ⟨r.hd,by have:=r.dp;show A.depth+1+3*k+5<_;lia,by have:=r.un;show A.units+3+16*k+200<_;lia⟩
def oH.in1(r:oH (k+1) A):oH k A.in1:=
 ⟨r.hd,by have:=r.dp;show A.depth+3*k+5<_;lia,by have:=r.un;show A.units+1+16*k+200<_;lia⟩
def oH.depth(r:oH k A):A.depth<recursionLimit:=by have:=r.dp;lia
def oH.units(r:oH k A):A.units+64<cLine:=by have:=r.un;lia
def ML:TA:=λ_ H Q=>Q [] H
def Nm(ta:TE)(tr:TA):TA:=λσ H Q=>ta σ H λx H1=>tr σ H1 λxs H2=>Q (x::xs) H2
section
variable{X:Cx}{e:aR}{es:List aR}{te:TE}{t:TA}{pos:Pos}
def Gi:PA X [] ML:=λ_ _ _ _ H Q I h=>my ⟨[],H,I,.nil,h⟩
def Dj(c:PE X e te)(d:PA X es t)(f:aS (e::es) X.env=(Y1,eval e X.env)::aS es X.env:=by rfl):PA X (e::es) (Nm te t):=by intro pos a s b H Q I h;rw[f];show ao _ _ (spliced ((Y1,eval e X.env)::backTo pos (aS es X.env))) _ _ s;refine lW (qc (c a s b H _ I h) λu g ⟨x,i,j,k,l⟩=>?_);exact qc (d pos a g b i _ j l) λr v ⟨m,n,o,p,q⟩=>⟨x::m,n,o,.cons k p,q⟩
def Ui(t:TA):TE:=λσ H Q=>t σ H λxs H1=>xs.length<=KB/\∀p,H1 p=X9->Q (.ref p) (upd H1 p (.tup xs))
def T3(t:TA):TE:=λσ H Q=>t σ H λxs H1=>xs.length<=KB/\∀p,H1 p=X9->Q (.ref p) (upd H1 p (.lst xs))
def Wv(h:PA X es t):PE X (.Tuple es x1 pos) (Ui t):=by intro a s g H Q I i;refine wpAny_Tuple_spliced (qc (h pos a s g H _ I i) λj c ⟨k,d,f,r,z,q⟩=>⟨by rw[<- r.length];exact z,?_⟩);have l:d c.heap.objs.size=X9:=f.hok.fresh (aD _);refine⟨.ref c.heap.objs.size,upd d c.heap.objs.size (.tup k),f.laid (t':=c.toks) (λb u e=>ag _ e) (aD _) ?_,rfl,q _ l⟩;exact⟨z,j,r,oU.new _ _⟩
def NL(h:PA X es t):PE X (.List es pos) (T3 t):=by intro a s g H Q I i;refine wpAny_List_spliced (qc (h pos a s g H _ I i) λj c ⟨k,d,f,r,z,q⟩=>⟨by rw[<- r.length];exact z,?_⟩);have l:d c.heap.objs.size=X9:=f.hok.fresh (aD _);refine⟨.ref c.heap.objs.size,upd d c.heap.objs.size (.lst k),f.laid (t':=c.toks) (λb u e=>ag _ e) (aD _) ?_,rfl,q _ l⟩;exact⟨z,j,0,r,aJ _ rfl⟩
end
abbrev Sp:=List V->Hp->VK->XK->Prop
abbrev wO:=List Env->Hp->af->XK->ae->af->Prop
structure o9(P:aM)(w:aV)(K:ah)(mg:Str->Option ae)(base:aX)(A:a7)(outer:List Env)(s:af)(H:Hp):Prop where
 frames:A.frames=XV outer
 mod:Mod K mg base
 bs:∀b o,base.get? b=XV o->s.heap.get? b=XV o/\H b=X9
 bsz:base.objs.size<=s.heap.objs.size
 funs:s.heap.FunFrames base outer
 frf:∀b∈uH outer,H b=X9
 hok:HOk P w H s.heap
 bare:hW s.gens
 tk:0<s.toks
def CE(outer:List Env)(P:aM)(w:aV)(H:Hp)(s:af)(Q:VK)(u:ae)(s':af):Prop:=
 (∃v H',s'.os=s.os/\hW s'.gens/\Un (uH outer) [] H H' s.heap s'.heap/\HOk P w H' s'.heap/\RelV v u/\Q v H')/\0<s'.toks
def CR(CX:wO)(outer:List Env)(P:aM)(w:aV)(H:Hp)(s:af)(Q:VK)(E:XK)(r:Result)(s':af):Prop:=
 match r with
 |.ok (.ret u)=>CE outer P w H s Q u s'
 |.ok _=>False
 |.error e=>CX outer H s E e s'
structure oP(P:aM)(w:aV)(K:ah)(mg:Str->Option ae)(base:aX)(CX:wO)(k:Nat)(f:ab)(fd:d8)(ps:List Str)(sp:Sp):Prop where
 len:∀vs H Q E,sp vs H Q E->vs.length=ps.length
 run:∀(A:a7)(outer:List Env)(s:af)(H:Hp)(args:Args)(us:List ae)(vs:List V)(Q:VK)(E:XK),oH k A->o9 P w K mg base A outer s H->kO s fd args (ps.zip us)->oA vs us->sp vs H Q E->
  codeAny (aw P w) A (.call (.ref f) args) (CR CX outer P w H s Q E) s
def oP.mono{P:aM}{w:aV}{K:ah}{mg:Str->Option ae}{base:aX}{c:wO}{j k:Nat}{f:ab}{d:d8}{ps:List Str}{e:Sp}(F:oP P w K mg base c j f d ps e)(h:j<=k):
  oP P w K mg base c k f d ps e:=⟨F.len,λA a s H b g i Q E l=>F.run A a s H b g i Q E (l.mono h)⟩
def oP.imp{P:aM}{w:aV}{K:ah}{mg:Str->Option ae}{base:aX}{c:wO}{k:Nat}{f:ab}{d:d8}{ps:List Str}{e g:Sp}(F:oP P w K mg base c k f d ps e)
  (h:∀vs H Q E,g vs H Q E->e vs H Q E):oP P w K mg base c k f d ps g:=
 ⟨λvs H Q E q=>F.len vs H Q E (h _ _ _ _ q),λA a s H b i vs Q E j l m n o=>F.run A a s H b i vs Q E j l m n (h _ _ _ _ o)⟩
def o9.in1{P:aM}{w:aV}{K:ah}{mg:Str->Option ae}{base:aX}{A:a7}{a:List Env}{s:af}{H:Hp}(e:o9 P w K mg base A a s H):
  o9 P w K mg base A.in1 a s H:=⟨e.frames,e.mod,e.bs,e.bsz,e.funs,e.frf,e.hok,e.bare,e.tk⟩
section
variable{X:Cx}{X5:List (ab×Obj)}{σ:St}{H:Hp}{s s':af}
def Inv.env0(I:Inv X X5 σ H s):o9 X.prog X.w X.K X.mg X.base X.A X.stack s H:=
 ⟨I.ok.frames,I.ok.mod,I.bs,aE I.ok.bsz I.sz,I.stack,I.stkFree,I.hok,I.bare,I.tk⟩
def Inv.after(I:Inv X X5 σ H s)(h:CE X.stack X.prog X.w H s Q u s'):EP X X5 σ Q u s':=by obtain⟨⟨v,e,f,a,i,c,r,q⟩,j⟩:=h;obtain⟨k,g,d,t,l⟩:=s';obtain rfl:l=s.os:=f;exact⟨v,e,I.call (h':=k) (g':=g) (d':=d) (t':=t) (ch:=[]) i c a (λb z=>absurd z 'k') j,r,q⟩
end
def Uz(sp:Sp)(dvs:List V)(E:XK)(t:TA):TE:=λσ H Q=>t σ H λvs H1=>sp (vs++dvs) H1 Q E
def Binds(K:ah)(fd:d8)(ps:List Str)(ds:List ae):Prop:=
 ∀(s:af)(us:List ae),K.In s.heap->(us++ds).length=ps.length->kO s fd ⟨us,[]⟩ (ps.zip (us++ds))
def Binds.all{K:ah}{b:d8}{ps:List Str}(h:∀a:List ae,a.length=ps.length->bindArgs b ⟨a,[]⟩=pure (ps.zip a)):Binds K b ps []:=λs a _ c=>by
 rw[bP] at c ⊢;exact .of_eq (h a c)
def Gm(CX:wO)(X:Cx)(E:XK):Prop:=∀(X5:List (ab×Obj))(σ:St)(H:Hp)(s:af)(e:ae)(s':af),Inv X X5 σ H s->CX X.stack H s E e s'->X.xe e s'
section
variable{X:Cx}{CX:wO}{k:Nat}{f C:ab}{fd:d8}{ps:List Str}{sp:Sp}{dvs:List V}{ds:List ae}{E:XK}{x:Str}{p pos:Pos}{e:aR}{es:List aR}{t:TA}
def VO(F:oP X.prog X.w X.K X.mg X.base CX k f fd ps sp)(c:oH k X.A)(d:Binds X.K fd ps ds)(g:oA dvs ds)(i:Gm CX X E)
  (I:Inv X X5 σ H s) (r:oA vs us) (h:sp (vs++dvs) H Q E):ao (aw X.prog X.w) X.A (call (.ref f) us) (EP X X5 σ Q) X.xe s:=by
 have b:oA (vs++dvs) (us++ds):=r.append g;have j:(us++ds).length=ps.length:=by rw[<- b.length];exact F.len _ _ _ _ h
 refine lq (gf (F.run X.A X.stack s H ⟨us,[]⟩ (us++ds) (vs++dvs) Q E c I.env0 (d s us I.kIn j) b h) λr l a=>?_);cases r with
 |error e=>exact i X5 σ H s e l I a
 | ok fl=>
  cases fl with
  |ret u=>exact I.after a
  |next=>exact ak a
  |brk=>exact ak a
  |cont=>exact ak a
def O9(F:oP X.prog X.w X.K X.mg X.base CX k f fd ps sp)(c:oH k X.A)(d:Gl X x)(g:X.mg x=XV (.ref f))(i:cT X.K (.ref f)=YP)(j:Binds X.K fd ps ds)(l:oA dvs ds)(m:Gm CX X E)
  (n:PA X (e::es) t) (o:(x==("__debug__":Str))=Y1:=by decide) (u:aS (e::es) X.env=(Y1,eval e X.env)::aS es X.env:=by rfl) (v:(backTo pos (aS es X.env)).any (·.1)=Y1:=by rfl):
  PE X (.Call (.Name x p) (e::es) [] pos) (Uz sp dvs E t):=by intro a s y H Q I h;refine gO (OF I d g ?_ o);refine PySem.W.callWith_K (h₀:=X.base) I.ok.mod.kin i (qc (n pos a s y H _ I h) λz B ⟨D,G,b,r,q⟩=>⟨b.kIn,?_⟩) u v;exact VO F c j l m b r q
structure Mk(K:ah)(C f:ab):Prop where
 makes:PySem.W.makesIn K C=YP
 init:eT K (.ref C) "__init__" = XV (XV (.ref f))
 fn:n6 K (.ref f)=YP
 kp:cT K (.ref C)=YP
end
section
variable{fd:d8}{ps ks:List Str}
structure znD(K:ah)(fd:d8)(ps ks:List Str)(g:List ae->List ae->List ae)(gV:List V->List V->List V):Prop where
 to:∀(s:af)(us ws:List ae),K.In s.heap->(g us ws).length=ps.length->kO s fd ⟨us,ks.zip ws⟩ (ps.zip (g us ws))
 rel:∀{vs:List V}{us:List ae}{zs:List V}{ws:List ae},oA vs us->oA zs ws->oA (gV vs zs) (g us ws)
end
structure qv(N P:List Str)(sc:cO):Prop where
 kind:sc.kind=.function
 co:sc.isCoroutine=Y1
 gen:sc.isGenerator=Y1
 nd:N.Nodup
 pre:N.take P.length=P
 par:∀x∈P,sc.names.lookup x=XV .local\/sc.names.lookup x=XV .cell
 nofree:∀y∈sc.names,y.2 ≠ .free
theorem Q9{a:Str->Option dg}{x:Str}:∀{binds:List (Str×ae)}{m:Str->Option ae},(∀v,(x,v)∉binds)->bindL a binds m x=m x
 |[],_,_=>rfl
 | (n,v)::r,m,h=>by
  unfold bindL;rw[Q9 λw b=>h w (ai _ b)];split
  ·have:x≠n:=by rintro rfl;exact h v al
   simp[this]
  ·rfl
theorem Q8{a:Str->Option dg}{x:Str}:∀{binds:List (Str×ae)}{m:Str->Option ae},(∀v,(x,v)∉binds)->bindC a binds m x=m x
 |[],_,_=>rfl
 | (n,v)::r,m,h=>by
  unfold bindC;rw[Q8 λw b=>h w (ai _ b)];split
  ·rfl
  ·have:x≠n:=by rintro rfl;exact h v al
   simp[this]
theorem QO{a:Str->Option dg}{x:Str}{v:ae}:∀{P:List Str}{vs:List ae}{i:Nat}{m:Str->Option ae},P.Nodup->P[i]?=XV x->vs[i]?=XV v->a x=XV .local->
  bindL a (P.zip vs) m x=XV v
 |[],_,_,_,_,h,_,_=>by simp at h
 |_::_,[],_,_,_,_,h,_=>by simp at h
 | p::P,w::vs,0,m,nd,h1,h2,hk=>by
  simp at h1 h2;subst h1;subst h2;show bindL a ((p,w)::P.zip vs) m p=_;unfold bindL;rw[Q9 λv b=>(bw.mp nd).1 (km b).1,Y2 hk];simp
 | p::P,w::vs,i+1,m,nd,h1,h2,hk=>by
  show bindL a ((p,w)::P.zip vs) m x=_;unfold bindL;exact QO (i:=i) (bw.mp nd).2 (by simpa using h1) (by simpa using h2) hk
theorem QX{a:Str->Option dg}{x:Str}{v:ae}:∀{P:List Str}{vs:List ae}{i:Nat}{m:Str->Option ae},P.Nodup->P[i]?=XV x->vs[i]?=XV v->a x≠XV .local->
  bindC a (P.zip vs) m x=XV v
 |[],_,_,_,_,h,_,_=>by simp at h
 |_::_,[],_,_,_,_,h,_=>by simp at h
 | p::P,w::vs,0,m,nd,h1,h2,hk=>by
  simp at h1 h2;subst h1;subst h2;show bindC a ((p,w)::P.zip vs) m p=_;unfold bindC;rw[Q8 λv b=>(bw.mp nd).1 (km b).1,Z5 hk];simp
 | p::P,w::vs,i+1,m,nd,h1,h2,hk=>by
  show bindC a ((p,w)::P.zip vs) m x=_;unfold bindC;exact QX (i:=i) (bw.mp nd).2 (by simpa using h1) (by simpa using h2) hk
def start(N:List Str)(vs:List V):St:=vs.map XV++aP (N.length-vs.length) X9
noncomputable def Ar(CX:wO)(P:aM)(w:aV)(K:ah)(mg:Str->Option ae)(base:aX)(N:List Str)(qual:Str)(scope:cO)(f:ab)(cd:ae)(A:a7)(outer:List Env)(s:af)(H:Hp)(E:XK):Cx where
 prog:=P
 w:=w
 K:=K
 mg:=mg
 base:=base
 A:=A.deeper (envOfC qual scope s.heap.objs.size f cd)
 N:=N
 s₀:=s
 H₀:=H
 env:=envOfC qual scope s.heap.objs.size f cd
 outer:=outer
 stack:=envOfC qual scope s.heap.objs.size f cd::outer
 ex:=[]
 calm:=YP
 fn:=λ_=>YP
 pn:=[]
 xe:=λe s'=>ao (aw P w) (A.deeper (envOfC qual scope s.heap.objs.size f cd)) (leaving (envOfC qual scope s.heap.objs.size f cd) e) (λ_ t5=>CX outer H s E e t5) (λe' t5=>CX outer H s E e' t5) s'
def PZ{a:cO}{n:Nat}{x:Str}(h:a.names.lookup x=XV .cell):∃c,(cx n a.names []).lookup x=XV c:=by have q:=iq a.names n [] (.inl h);exact gP.mp q
def zd8{G:wO}{P:aM}{w:aV}{K:ah}{mg:Str->Option ae}{base:aX}{N ps:List Str}{g:Str}{scope:cO}{f:ab}{o:ae}{A:a7}{d:List Env}{s C:af}{H:Hp}{E:XK}{D:List ae}{vs:List V}
  (S:qv N ps scope) (M:A.handled=X9) (l:o9 P w K mg base A d s H) (T:vs.length=ps.length) (r:oA vs D)
  (x:InCallC s s.heap.objs.size (bindL (envOfC g scope s.heap.objs.size f o).kindOf (ps.zip D) λ_=>X9) (cx (s.heap.objs.size+1) scope.names []) (bindC (envOfC g scope s.heap.objs.size f o).kindOf (ps.zip D) λ_=>X9) C) (O:0<C.toks):
  Inv (Ar G P w K mg base N g scope f o A d s H E) [] (start N vs) H C:=by
 have U:ps.length<=N.length:=by have:=congrArg kB S.pre;rw[bZ] at this;lia
 obtain⟨t,W,rfl,I⟩:=x.done;have F:∀b:ab,b∉(Ar G P w K mg base N g scope f o A d s H E).ex:=λb z=>absurd (show b∈([]:List ab) from z) 'k';refine⟨⟨l.mod,S.kind,rfl,rfl,aD _,λy z c t j=>?_,λy hy=>?_,λy c _ h=>?_,λ_=>M,lr l.frames,.inr ⟨rfl,rfl⟩,λb z=>absurd z (F b),l.bs,l.bsz,λb _ _=>F b,λb z=>absurd z (F b),l.funs,l.frf⟩,
  rfl,l.bare,Un.kept I,⟨_,x.toInCall.ns,λi y v t j X=>?_⟩,λy c h=>⟨_,x.cell y c h⟩,l.hok.fresh (aD _),λy c h=>?_,λp m=>absurd (show p∈([]:List (ab×Obj)) from m) 'k',l.hok.kept I,?_,O⟩
 ·exact name_of_addr x.apart (bL t) (bL j)
 ·have hy:scope.names.lookup y=XV .cell\/scope.names.lookup y=XV .free:=hy;rcases hy with hy|hy
  ·exact PZ hy
  ·exact absurd rfl (S.nofree _ (bL hy))
 ·exact fJ (x.above y c (bL h))
 ·have B:i<vs.length:=by
   unfold start at j;by_cases B:i<vs.length
   ·exact B
   ·rw[bq (by simpa using B)] at j;rw[fN] at j;split at j<;>cases j
  have Q:vs[i]?=XV v:=by
   unfold start at j;rw[aG (by simpa using B),bG] at j;cases e:vs[i]? with
   |none=>rw[e] at j;cases j
   |some a=>rw[e] at j;cases j;rfl
  obtain⟨u,J,R⟩:=r.get Q;have m:ps[i]?=XV y:=by
   rw[<- S.pre,fK 'd'];exact t
  have L:ps.Nodup:=by rw[<- S.pre];exact S.nd.sublist (cN _ _)
  refine⟨u,R,?_⟩;rcases S.par y (aN m) with k|k
  ·exact .inl ⟨k,QO L m J k⟩
  ·obtain⟨c,e⟩:=PZ (n:=s.heap.objs.size+1) k;refine .inr ⟨.inl k,c,e,?_⟩;have q:=x.cell y c e;rw[QX L m J (by show scope.names.lookup y≠_;rw[k];decide)] at q;exact q
 ·exact l.hok.fresh (fJ (x.above y c (bL h)))
 ·unfold start;show _=N.length;rw[az,au,kP];lia
def qX{z:wO}{P:aM}{w:aV}{K:ah}{mg:Str->Option ae}{base:aX}{k:Nat}{f:ab}{name c:Str}{d:iJ}{body:List er}{scope:cO}{L M l O h R oc:ae}{T od:Option ab}
  {uE:Array (Option ae)} {N ps:List Str} {B:Sp} (lk:K.lookup f=XV ⟨oc,od,.func (cy name c d body scope L M l O T h R),uE⟩) (q8:eU K h c=YP) (S:qv N ps scope)
  (m:∀vs H Q E,B vs H Q E->vs.length=ps.length)
  (qA:∀(A:a7)(a:List Env)(s:af)(H:Hp)(vs:List V)(Q:VK)(E:XK),oH k (A.deeper (envOfC c scope s.heap.objs.size f h))->B vs H Q E->
   ∃t,sY (Ar z P w K mg base N c scope f h A a s H E) body t/\t { nx:=λ_ H'=>Q .non H',rt:=Q } (start N vs) H):
  oP P w K mg base z (k+1) f (cy name c d body scope L M l O T h R) ps B:=by
 refine⟨m,λA a s H U us vs Q E C i hb r X=>?_⟩;have hl:=m _ _ _ _ X;have Y:K.In s.heap:=i.mod.kin.keeps λb o e=>(i.bs b o e).1;have D:s.heap.NoLimit:=i.mod.nolimit.keeps λb o e=>(i.bs b o e).1;have E6:∀y∈ps.zip us,scope.names.lookup y.1=XV .local\/(scope.names.lookup y.1=XV .cell/\((cx (s.heap.objs.size+1) scope.names []).lookup y.1).isSome=YP):=λ⟨n,v⟩ hy=>by
  rcases S.par n (km hy).1 with q|q
  ·exact .inl q
  ·exact .inr ⟨q,iq _ _ _ (.inl q)⟩
 refine codeAny_call_function C.depth (Y _ _ lk) rfl S.co S.gen rfl (PySem.W.codeRec_of Y q8) (hb _ _ _ _ ?_);refine fW i.tk (wpAny_newFunctionEnv_cells S.kind E6 λenv he Z x qE=>?_);subst he;refine⟨D.keeps x.toInCall.keep,codeAny_func ?_⟩;obtain⟨t,ht,hq⟩:=qA A a s H vs Q E (C.deeper _) X;have I:Inv (Ar z P w K mg base N c scope f h A a s H E) [] (start N vs) H Z:=zd8 S C.hd i hl r x qE;refine cw (ht [] Z (start N vs) H _ I hq) (λfl F j=>?_) λe F j=>j;have p:∀{g:St}{H':Hp}{v:V}{u:ae},Inv (Ar z P w K mg base N c scope f h A a s H E) [] g H' F->RelV v u->Q v H'->CE a P w H s Q u F:=
  λ{g H' v u}J G q=>⟨⟨v,H',J.os,J.bare,J.base,J.hok,G,q⟩,J.tk⟩
 cases fl with
 | ret u=>
  obtain⟨v,g,H',J,G,q⟩:=j;exact p J G q
 | next=>
  obtain⟨g,H',J,q⟩:=j;exact p (v:=V.non) (u:=gk) J rfl q
 | brk=>
  obtain⟨_,_,_,q⟩:=j;exact ak q
 | cont=>
  obtain⟨_,_,_,q⟩:=j;exact ak q
section
variable{X:Cx}{x:Str}{p pos:Pos}{e:aR}{es:List aR}{t:TA}{id T:String}{r:List V->Hp->VK->Prop}
def Hx(r:List V->Hp->VK->Prop)(t:TA):TE:=λσ H Q=>t σ H λvs H1=>r vs H1 Q
def JZ(c:oJ X (.builtin id) r)(d:Gl X x)(f:X.mg x=X9)(g:bC x=XV (.builtin id))(i:PA X (e::es) t)(j:x ≠ "__name__":=by decide)(k:(x==("__debug__":Str))=Y1:=by decide)
  (l:aS (e::es) X.env=(Y1,eval e X.env)::aS es X.env:=by rfl) (m:(backTo pos (aS es X.env)).any (·.1)=Y1:=by rfl):PE X (.Call (.Name x p) (e::es) [] pos) (Hx r t):=by intro a s b H Q I h;refine gO (B4 I d f g ?_ j k);exact PyProof.Rows.callWith_builtin1 (qc (i pos a s b H _ I h) λn o ⟨q,u,v,w,y⟩=>c a o b u q n Q v w y) l m
def Q4(c:oJ X (.type T) r)(d:Gl X x)(f:X.mg x=X9)(g:bC x=XV (.type T))(i:PA X (e::es) t)(j:x ≠ "__name__":=by decide)(k:(x==("__debug__":Str))=Y1:=by decide)
  (l:aS (e::es) X.env=(Y1,eval e X.env)::aS es X.env:=by rfl) (m:(backTo pos (aS es X.env)).any (·.1)=Y1:=by rfl):PE X (.Call (.Name x p) (e::es) [] pos) (Hx r t):=by intro a s b H Q I h;refine gO (B4 I d f g ?_ j k);exact gi (qc (i pos a s b H _ I h) λn o ⟨q,u,v,w,y⟩=>c a o b u q n Q v w y) l m
end
end L2
namespace HT
open PySem PyProof.Rows
section
open PySem.SeqAt
open PySem.AutoSeq1 (wpAny_loadPart')
open PySem.MeetsSeq PySem.MeetsSeq2 PySem.MeetsSeq3
end
section
variable{prog:aM}{w:aV}{A:a7}{E:ae->af->Prop}{s:af}
def cat_tup(r:IsTup s.heap t vs.toArray)(u:IsTup s.heap b ws.toArray)(h:vs≠[])
  (v:ws=[]->Q (.ref t) s) (x:ws≠[]->Q (.ref s.heap.objs.size) { s with heap:=s.heap.push { cls:=.type "tuple",data:=.seq (vs++ws).toArray } })
  (hsz:vs.length+ws.length<=KB):ao (aw prog w) A (dS .Add (.ref t) (.ref b)) Q E s:=by
 obtain⟨⟨cls,i,data,j⟩,c,k,n,l⟩:=id r;obtain⟨⟨y,m,g,o⟩,d,p,q,a⟩:=id u;simp only at k l p a;subst k l p a;have e:vs.toArray++ws.toArray=(vs++ws).toArray:=by simp
 by_cases f:ws=[]
 ·exact jp ⟨_,c,rfl⟩ ⟨_,d,rfl⟩ jT lH ir ig (gQ _ _)
   (tuple_addW1 t b vs.toArray ws.toArray n q i m j o (by simpa using h) (by simp[f])) ⟨c,d,v f⟩
 ·refine jp ⟨_,c,rfl⟩ ⟨_,d,rfl⟩ jT lH ir ig (gQ _ _)
   (tuple_addW2 t b vs.toArray ws.toArray n q i m j o (by simpa using h) (by simpa using f) (by rw[aF,aF];exact hsz)) ⟨c,d,?_⟩
  rw[e];exact x f
def sIx(n d:Nat):Option Int->Nat
 |none=>d
 |some v=>if v<0 then (v+(n:Int)).toNat else min v.toNat n
def VS(n d:Nat)(b:d<=n)(o:Option Int):sIx n d o<=n:=by
 cases o with
 |none=>exact b
 | some v=>
  show(if v<0 then (v+(n:Int)).toNat else min v.toNat n)<=n;by_cases a:v<0
  ·rw[Y2 a];lia
  ·rw[Z5 a];exact mY _ _
def Ot(v:Int)(n d:Nat):(if v<0 then max (v+(n:Int)) 0 else min v (n:Int))=((sIx n d (XV v):Nat):Int):=by
 show(if v<0 then max (v+(n:Int)) 0 else min v (n:Int))=(((if v<0 then (v+(n:Int)).toNat else min v.toNat n):Nat):Int);by_cases a:v<0
 ·simp only[Y2 a];lia
 ·simp only[Z5 a];lia
def zb4(lo a:Option Int)(n:Nat):gJ lo a 1 (n:Int)=(((sIx n 0 lo:Nat):Int),((sIx n n a:Nat):Int)):=by
 have b:¬ ((1:Int)<0):=by lia
 unfold gJ;simp only[b,if_false];refine mW ?_ ?_
 ·cases lo with
  |none=>rfl
  |some v=>exact Ot v n 0
 ·cases a with
  |none=>rfl
  |some v=>exact Ot v n n
def zbc(i j:Nat):fz (i:Int) (j:Int) 1=j-i:=by
 unfold fz;have a:(1:Int)>0:=by lia
 simp only[a,if_true,Int.ediv_one];split<;>lia
def Rv(p:iV v o)(h:Q o s):ao (aw prog w) A (Builtin.Slice.slicePartIndex v) Q E s:=by
 cases p with
 |none=>exact slicePart_none h
 |int i t=>exact slicePart_int h
def z4w{sl:ab}{b c:ae}{lo a:Option Int}{n:Nat}{Q:Int×Int×Nat->af->Prop}(f:s.heap.IsSliceOf sl b c .none)(pl:iV b lo)(g:iV c a)
  (h:Q (((sIx n 0 lo:Nat):Int),1,sIx n n a-sIx n 0 lo) s):ao (aw prog w) A (jx (.ref sl) (pure (n:Int))) Q E s:=by obtain⟨i,d,j,e⟩:=id f;unfold jx Builtin.Slice.sliceFields;refine aa (aa (cC d e (x:=b) rfl (aa (cC d e (x:=c) rfl (aa (cC d e (x:=.none) rfl (aj ?_)))))));refine aa (slicePart_none ?_);show ao _ _ (if ((1:Int)==0)=YP then _ else _) _ _ s;rw[Z5 'u'];refine aa (Rv pl (aa (Rv g (aa (aj ?_)))));show ao _ _ (match gJ lo a 1 (n:Int) with|(lo,a)=>pure (lo,(1:Int),fz lo a 1)) _ _ s;rw[zb4 lo a n];show ao _ _ (pure (((sIx n 0 lo:Nat):Int),(1:Int),fz ((sIx n 0 lo:Nat):Int) ((sIx n n a:Nat):Int) 1)) _ _ s;rw[zbc];exact aj h
def zf0(xs:Array ae)(i k:Nat):((aL k).filterMap λ(m:Nat)=>xs[((i:Int)+(m:Int)*1).toNat]?).toArray=((xs.toList.drop i).take k).toArray:=by
 have e:(λ(m:Nat)=>xs[((i:Int)+(m:Int)*1).toNat]?)=λm=>xs[i+m]?:=by
  funext m;have:((i:Int)+(m:Int)*1).toNat=i+m:=by lia
  rw[this]
 rw[e];have:=pick_run xs i k;rw[List.filterMap_map] at this;have a:((λx=>xs[x]?)∘λx=>i+x)=λm=>xs[i+m]?:=rfl;rw[a] at this;rw[this]
def getItem_tuple_cut{t sl:ab}{items:Array ae}{e f:ae}{lo a:Option Int}{Q:ae->af->Prop}(b:IsTup s.heap t items)(g:s.heap.IsSliceOf sl e f .none)(pl:iV e lo)(i:iV f a)
  (j:¬ (sIx items.size 0 lo=0/\sIx items.size items.size a=items.size))
  (h:Q (.ref s.heap.objs.size) { s with heap:=s.heap.push { cls:=.type "tuple",data:=.seq ((items.toList.drop (sIx items.size 0 lo)).take (sIx items.size items.size a-sIx items.size 0 lo)).toArray } })
  (hsz:items.size<=KB):ao (aw prog w) A (getItem (.ref t) (.ref sl)) Q E s:=by
 have c:sizeOk (.seq ((items.toList.drop (sIx items.size 0 lo)).take (sIx items.size items.size a-sIx items.size 0 lo)).toArray):=by
  show((items.toList.drop (sIx items.size 0 lo)).take (sIx items.size items.size a-sIx items.size 0 lo)).toArray.size<=KB;rw[aF,bZ,cr,aA];lia
 have p:sIx items.size items.size a<=items.size:=VS _ _ (aD _) a;obtain⟨k,l,n,r⟩:=id g;have d:s.TypeIs (.ref sl) "slice":=⟨k,l,n⟩;unfold getItem
 try with_reducible refine bD ?_
 first|refine aa (aj ?_)|skip
 refine aa (wpAny_sequenceKey b.typeIs 'u' ?_);refine aa (cP (name:=fT "__getitem__") b.typeIs e8
  (b9 e8 b.typeIs entry_tuple_getitem ?_ (args_tuple_getitem _ _)))
 show ao _ _ (Builtin.Tuple.tupleItemsOf (.ref t) >>= _) _ _ s;refine aa (tupleItemsOf_ b ?_);refine aa (lX d ?_);rw[Y2 'u'];refine aa (z4w g pl i ?_);have o:¬ ((((sIx items.size 0 lo:Nat):Int)==0&&(1:Int)==1&&(sIx items.size items.size a-sIx items.size 0 lo)==items.size)=YP):=by
  intro q;rw[aQ,aQ] at q;have u:((sIx items.size 0 lo:Nat):Int)=0:=eq_of_beq q.1.1;have v:sIx items.size items.size a-sIx items.size 0 lo=items.size:=eq_of_beq q.2;exact j ⟨by lia,by lia⟩
 show ao _ _ (if (((sIx items.size 0 lo:Nat):Int)==0&&(1:Int)==1&&(sIx items.size items.size a-sIx items.size 0 lo)==items.size)=YP then _ else _) _ _ s;rw[Z5 o,zf0]
 first
  |exact aa (m:=fL _) (cg (aj ⟨_,rfl,aj h⟩) c)
  |exact aa (m:=fL _) (cg (aa (aj (aj ⟨_,rfl,aj h⟩))) c)
  |exact aa (aa (m:=fL _) (cg (aj (aj ⟨_,rfl,aj h⟩)) c))
  |exact aa (aa (m:=fL _) (cg (aj ⟨_,rfl,aj h⟩) c))
end
end HT
namespace L2
open PySem PySem.Spec PyProof.Rows
abbrev TO:=St->Hp->(Option Int->Hp->Prop)->Prop
def PO(X:Cx)(e:Option aR)(t:TO):Prop:=
 ∀(X5:List (ab×Obj))(s:af)(σ:St)(H:Hp)(Q:Option Int->Hp->Prop),Inv X X5 σ H s->t σ H Q->
  ao (aw X.prog X.w) X.A (evalPart e X.env) (λu s'=>∃o H',Inv X X5 σ H' s'/\iV u o/\Q o H') X.xe s
def Zh:TO:=λ_ H Q=>Q X9 H
def Us(t:TE):TO:=λσ H Q=>t σ H λx H1=>∃i,x=.int i/\Q (XV i) H1
def Rp:∀{a:List ae},oA (ns.map V.int) a->kQ a ns:=by
 induction ns with
 |nil=>intro a r;rw[lY] at r;cases r;exact .nil
 | cons n ns ih=>
  intro a r;rw[bh] at r;cases r with
  | cons r1 r2=>
   obtain⟨t,e⟩:=r1;subst e;exact .cons n t (ih r2)
section
variable{X:Cx}{e:aR}{te:TE}{lo hi:Option aR}{tl th:TO}{pos p2:Pos}
def Zi:PO X X9 Zh:=by intro a s b H Q I h;rw[evalPart_none];exact aj ⟨X9,H,I,.none,h⟩
def WZ(h:PE X e te):PO X (XV e) (Us te):=by intro a s b H Q I c;rw[evalPart_some];refine qc (h a s b H _ I c) λu k ⟨x,d,f,g,j⟩=>?_;obtain⟨i,rfl,q⟩:=j;obtain⟨t,rfl⟩:=g;exact⟨XV i,d,f,.int i t,q⟩
def yF(X:Cx)(r:V->Option Int->Option Int->Hp->VK->Prop):Prop:=
 ∀(X5:List (ab×Obj))(s:af)(σ:St)(H:Hp)(x:V)(v vl vu:ae)(lo hi:Option Int)(sl:ab)(Q:VK),Inv X X5 σ H s->RelV x v->s.heap.IsSliceOf sl vl vu .none->iV vl lo->iV vu hi->r x lo hi H Q->
  ∃T id,typeLookup (.type T) "__getitem__" = pure (XV (.builtin id))/\s.TypeIs v T/\ao (aw X.prog X.w) X.A (getItem v (.ref sl)) (EP X X5 σ Q) X.xe s
def yF.or(h:yF X r)(h':yF X r'):yF X (λx lo hi H Q=>r x lo hi H Q\/r' x lo hi H Q):=by
 intro a s b H x v c d lo hi f Q I g i j k q;rcases q with q|q
 ·exact h a s b H x v c d lo hi f Q I g i j k q
 ·exact h' a s b H x v c d lo hi f Q I g i j k q
noncomputable def tSl(r:V->Option Int->Option Int->Hp->VK->Prop)(te:TE)(tl th:TO):TE:=λσ H Q=>te σ H λx H1=>tl σ H1 λl H2=>th σ H2 λu H3=>r x l u H3 Q
def Zl(j:yF X r)(k:PE X e te)(m:PO X lo tl)(n:PO X hi th):PE X (.Subscript e (.Slice lo hi X9 p2) pos) (tSl r te tl th):=by intro a s d H Q I h;refine Subscript_ (qc (k a s d H _ I h) λv o ⟨x,p,t,y,z⟩=>?_);refine wpAny_Slice (qc (m a o d p _ t z) λf B ⟨l,C,D,E,F⟩=>qc (n a B d C _ D F) λg c ⟨u,i,G,J,K⟩=>?_);rw[evalPart_none];refine aj ?_;have L:Inv X a d i { c with heap:=c.heap.push { cls:=.type "slice",data:=.fields #[f,g,.none] } }:=G.kept (t':=c.toks) λb P q=>ag _ q;obtain⟨T,R,M,N,O⟩:=j a { c with heap:=c.heap.push { cls:=.type "slice",data:=.fields #[f,g,.none] } } d i x v f g l u c.heap.objs.size Q L y (on ..) E J K;show ao (aw X.prog X.w) X.A (subscriptTail e (.Slice lo hi X9 p2) v (.ref c.heap.objs.size)) (EP X a d Q) X.xe { c with heap:=c.heap.push { cls:=.type "slice",data:=.fields #[f,g,.none] } };exact tail_any (ops:=[.ref c.heap.objs.size,v]) N M O (by with_unfolding_all rfl)
def zK(xs:List V)(lo hi:Option Int):List V:=(xs.drop (HT.sIx xs.length 0 lo)).take (HT.sIx xs.length xs.length hi-HT.sIx xs.length 0 lo)
def RM(xs:List V)(lo hi:Option Int):(zK xs lo hi).length<=xs.length:=by unfold zK;rw[bZ,cr];lia
def MR(K:ah):V->Option Int->Option Int->Hp->VK->Prop:=λx lo hi H Q=>∃a xs,x=.ref a/\rL K H a xs/\
 ¬ (HT.sIx xs.length 0 lo=0/\HT.sIx xs.length xs.length hi=xs.length)/\∀p,H p=X9->Q (.ref p) (upd H p (.tup (zK xs lo hi)))
def WI:yF X (MR X.K):=by
 intro f s u H x v w y lo hi z Q I j k l m h;obtain⟨a,d,rfl,n,p,q⟩:=h;cases j;obtain⟨t,r,g,i⟩:=I.tuple n;have c:t.toArray.size=d.length:=by rw[aF];exact r.length.symm
 refine⟨"tuple",_,e8.lookup,g.typeIs,?_⟩;refine HT.getItem_tuple_cut g k l m (by rw[c];exact p) ?_ (by rw[c];exact i);rw[c];refine⟨.ref s.heap.objs.size,_,I.laid (t':=s.toks) (o:=.tup (zK d lo hi)) (λb A q=>ag _ q) (aD _) ?_,rfl,q _ (I.hok.fresh (aD _))⟩;exact⟨aE (RM d lo hi) i,_,(r.drop (HT.sIx d.length 0 lo)).take (HT.sIx d.length d.length hi-HT.sIx d.length 0 lo),oU.new _ _⟩
def NH(K:ah):R2:=λx y H Q=>∃a b xs ys,x=.ref a/\y=.ref b/\rL K H a xs/\rL K H b ys/\xs≠[]/\xs.length+ys.length<=KB/\
 (ys=[]->Q (.ref a) H)/\(ys≠[]->∀p,H p=X9->Q (.ref p) (upd H p (.tup (xs++ys))))
def oA.nil_iff(r:oA xs us):us=[]↔xs=[]:=by
 cases r with
 |nil=>simp
 |cons _ _=>simp
def XI:qB X (dS .Add) (NH X.K):=by intro f s B H x y v u Q I i j h;obtain⟨a,b,k,l,rfl,rfl,m,n,p,g,r,t⟩:=h;cases i;cases j;obtain⟨C,d,A,_⟩:=I.tuple m;obtain⟨D,c,p2,_⟩:=I.tuple n;refine HT.cat_tup A p2 (λz=>p (d.nil_iff.mp z)) (λz=>⟨.ref a,H,I,rfl,r (c.nil_iff.mp z)⟩) (λz=>?_) (by rw[<- d.length,<- c.length];exact g);refine⟨.ref s.heap.objs.size,_,I.laid (t':=s.toks) (o:=.tup (k++l)) (λb E q=>ag _ q) (aD _) ?_,rfl,t (λw=>z (c.nil_iff.mpr w)) _ (I.hok.fresh (aD _))⟩;exact⟨by rw[az];exact g,_,d.append c,oU.new _ _⟩
end
noncomputable def ixN(n:Nat)(i:Int):Option Nat:=if 0<=i then (if i<n then XV i.toNat else X9) else if -(n:Int)<=i then XV (i+n).toNat else X9
def atI{α:Type}(xs:List α)(i:Int):Option α:=(ixN xs.length i).bind λj=>xs[j]?
def OZ(h:ixN n i=XV j):seqIndex? i n=XV j/\j<n/\-(n:Int)<=i/\i<n:=by
 unfold ixN at h;by_cases b:0<=i
 ·rw[Y2 b] at h;by_cases a:i<n
  ·rw[Y2 a] at h;have e:i.toNat=j:=ck h;exact⟨by rw[mS b a,e],by lia,by lia,a⟩
  ·rw[Z5 a] at h;cases h
 ·rw[Z5 b] at h;by_cases a:-(n:Int)<=i
  ·rw[Y2 a] at h;have e:(i+n).toNat=j:=ck h;exact⟨by rw[seqIndex_neg 'd' a,e],by lia,a,by lia⟩
  ·rw[Z5 a] at h;cases h
def Jp{α:Type}{xs:List α}{i:Int}{v:α}(h:atI xs i=XV v):∃j,seqIndex? i xs.length=XV j/\xs[j]?=XV v/\j<xs.length/\-(xs.length:Int)<=i/\i<xs.length:=by
 unfold atI at h;cases e:ixN xs.length i with
 |none=>rw[e] at h;cases h
 | some j=>
  rw[e] at h;obtain⟨a,b,c,d⟩:=OZ e;exact⟨j,a,h,b,c,d⟩
def atI_nat{α:Type}{xs:List α}{j:Nat}{v:α}(h:xs[j]?=XV v):atI xs (j:Int)=XV v:=by
 have a:j<xs.length:=(aq.mp h).1;have e:ixN xs.length (j:Int)=XV j:=by
  unfold ixN;rw[Y2 'd',Y2 'd'];simp
 unfold atI;rw[e];exact h
def Ov(b:aR):Prop:=∀o i,subscripted b Y1 o i=operate [o,i] (getItem o i)
def zH(X:Cx)(r:R2):Prop:=
 ∀(value slice:aR)(X5:List (ab×Obj))(s:af)(σ:St)(H:Hp)(x y:V)(v u:ae)(Q:VK),Inv X X5 σ H s->RelV x v->RelV y u->r x y H Q->
  subscripted slice Y1 v u=operate [v,u] (getItem v u)->ao (aw X.prog X.w) X.A (subscriptTail value slice v u) (EP X X5 σ Q) X.xe s
def Ib(X:Cx)(id:String)(r:V->List V->Hp->VK->Prop):Prop:=
 ∀(X5:List (ab×Obj))(s:af)(σ:St)(H:Hp)(x:V)(xs:List V)(v:ae)(us:List ae)(Q:VK),Inv X X5 σ H s->RelV x v->oA xs us->r x xs H Q->
  ao (aw X.prog X.w) X.A (call (.builtin id) (v::us)) (EP X X5 σ Q) X.xe s
section
variable{X:Cx}{a b:aR}{ta tb:TE}{pos:Pos}
def zH.or(h:zH X r)(h':zH X r'):zH X (λx y H Q=>r x y H Q\/r' x y H Q):=by
 intro c d e s f H x y v u Q I g i q j;rcases q with q|q
 ·exact h c d e s f H x y v u Q I g i q j
 ·exact h' c d e s f H x y v u Q I g i q j
def Ux(d:zH X r)(e:PE X a ta)(f:PE X b tb)(g:Ov b):PE X (.Subscript a b pos) (Ee r ta tb):=by intro c s i H Q I h;exact Subscript_ (Il e f I h λv u j x y k l m n q=>d a b c j i k x y v u Q l m n q (g _ _))
def MH(K:ah):R2:=λx y H Q=>∃p xs i v,x=.ref p/\y=.int i/\qJ K H p xs/\atI xs i=XV v/\Q v H
def MB(K:ah):R2:=λx y H Q=>∃p xs i v,x=.ref p/\y=.int i/\rL K H p xs/\atI xs i=XV v/\Q v H
def MI:R2:=λx y H Q=>∃z i c,x=.str z/\y=.int i/\z.length<=KB/\atI z.cps.toList i=XV c/\Q (.str ⟨#[c]⟩) H
def pK:zH X (MH X.K):=by
 intro f g c s m H x y v u Q I B C h n;obtain⟨p,P,i,z,rfl,rfl,D,E,q⟩:=h;cases B;obtain⟨t,rfl⟩:=C;obtain⟨F,r,k,R⟩:=I.list D;obtain⟨j,e,G,S,J,L⟩:=Jp E;obtain⟨w,o,M⟩:=r.get G;have N:=r.length;have T:=BX;have d:EP X c m Q w s:=⟨z,H,I,M,q⟩;by_cases A:0<=i
 ·have l:i.toNat=j:=by
   rw[mS A L] at e;exact ck e
  exact item_listR k.isList A 'd' (by rw[l];simpa using o) d n
 ·have l:(i+(F.toArray.size:Int)).toNat=j:=by
   rw[seqIndex_neg 'd' J] at e;rw[aF,<- N];exact ck e
  exact kC (x:=w) k.isList.typeIs slot_list_getitem.lookup
   (wpAny_getItem_list_neg (Q:=λr O=>r=w/\EP X c m Q r O) k.isList 'd' (by rw[aF]<;>lia) 'd' (by rw[l];simpa using o) ⟨rfl,d⟩) n
def pM:zH X (MB X.K):=by
 intro d e c s g H x y v u Q I l m h n;obtain⟨p,J,i,z,rfl,rfl,o,A,q⟩:=h;cases l;obtain⟨t,rfl⟩:=m;obtain⟨L,r,k,M⟩:=I.tuple o;obtain⟨j,B,C,N,O,P⟩:=Jp A;obtain⟨w,D,E⟩:=r.get C;have F:=r.length;have R:=BX;have f:EP X c g Q w s:=⟨z,H,I,E,q⟩;exact kC (x:=w) k.typeIs e8.lookup
  (getItem_tuple (j:=j) (Q:=λr G=>r=w/\EP X c g Q r G) k 'd' 'd' (by rw[aF,<- F];exact B) (by simpa using D) ⟨rfl,f⟩) n
def WJ:zH X MI:=by
 intro d e f s C H x y v u Q I k l h m;obtain⟨z,i,c,rfl,rfl,D,n,q⟩:=h;obtain⟨t,rfl⟩:=k;obtain⟨E,rfl⟩:=l;obtain⟨j,g,o,F,p,r⟩:=Jp n;have w:z.cps.toList.length=z.length:=by simp[Str.length]
 rw[w] at g p r;have G:=BX;exact tail_any (typeIs_str s z t) slot_str_getitem.lookup (getItem_str (c:=c) (by
  have A:decide (i < -(2 ^ 63:Int))=Y1:=decide_eq_false 'd';have B:decide (i ≥ 2 ^ 63)=Y1:=decide_eq_false 'd';rw[A,B,Bool.or_false]) (by rw[g];simpa using o) ⟨.str ⟨#[c]⟩,H,I.tok _,⟨_,rfl⟩,q⟩) m
def Sl(K:ah):R2:=λx y H Q=>MH K x y H Q\/MB K x y H Q\/MI x y H Q
def V1:zH X (Sl X.K):=pK.or (pM.or WJ)
def zbt(c:List ae)(n j:Nat)(u:ae):bu (·.setIfInBounds j u) { cls:=.type "list",data:=.seq c.toArray n } = { cls:=.type "list",data:=.seq (c.set j u).toArray n }:=by simp[bu]
def Inv.lst{c:List (ab×Obj)}{σ:St}{H:Hp}{s:af}{p:ab}{xs:List V}(I:Inv X c σ H s)(h:H p=XV (.lst xs)):
  ∃(d:List ae)(n:Nat),oA xs d/\s.heap.get? p=XV { cls:=.type "list",data:=.seq d.toArray n }/\xs.length<=KB:=by obtain⟨z,d,n,r,e⟩:=I.hok p _ h;exact⟨d,n,r,e,z⟩
def Inv.lstUpd{c:List (ab×Obj)}{σ:St}{H:Hp}{s:af}{p:ab}{xs d:List V}{i its':List ae}{n g:Nat}{f:Obj->Obj}(I:Inv X c σ H s)(h:H p=XV (.lst xs))
  (k:s.heap.get? p=XV { cls:=.type "list",data:=.seq i.toArray n }) (j:f { cls:=.type "list",data:=.seq i.toArray n } = { cls:=.type "list",data:=.seq its'.toArray g }) (r:oA d its') (hz:d.length<=KB) (t:Nat) (m:0<t:=by first|exact cU _|exact Inv.tk ‹_›|assumption|lia):
  Inv X c σ (upd H p (.lst d)) { s with heap:=s.heap.update p f,toks:=t }:=by
 have e:(s.heap.update p f).get? p=XV { cls:=.type "list",data:=.seq its'.toArray g }:=by
  rw[bI f k (by rw[j]<;>rfl),j]
 refine I.write (x:=p) (e:=p) (by rw[h];trivial) (.inl rfl) (λb u l q=>(bj _ _ (cS l)).trans q) ⟨_,e⟩ ?_;exact⟨hz,its',g,r,e⟩
def Vc:V->V->V->Hp->(Hp->Prop)->Prop:=λo i v H Q=>∃p xs k j,o=.ref p/\i=.int k/\H p=XV (.lst xs)/\ixN xs.length k=XV j/\Q (upd H p (.lst (xs.set j v)))
def zeZ:MO X Vc:=by
 intro c s A H o i v J K u Q I B C D h;obtain⟨p,E,k,j,rfl,rfl,l,F,q⟩:=h;cases B;obtain⟨t,rfl⟩:=C;obtain⟨m,n,r,e,G⟩:=I.lst l;obtain⟨d,L,w,x⟩:=OZ F;have f:=r.length;have M:=BX;have y:Inv X c A (upd H p (.lst (E.set j v))) { s with heap:=s.heap.update p (bu (·.setIfInBounds j u)) }:=
  I.lstUpd l e (zbt m n j u) (r.set D j) (by rw[cb];exact G) s.toks
 by_cases z:0<=k
 ·have g:k.toNat=j:=by
   rw[mS z x] at d;exact ck d
  exact PySem.W.ki_setAt e z 'd' (by rw[aF,<- f];exact x) (by rw[g];exact⟨_,y,q⟩)
 ·have g:(k+(m.toArray.size:Int)).toNat=j:=by
   rw[seqIndex_neg 'd' w] at d;rw[aF,<- f];exact ck d
  exact PySem.W.ki_setBack e 'd' (by rw[aF,<- f];exact w) 'd' (by rw[g];exact⟨_,y,q⟩)
def z8i(lo c:Option Int)(n:Nat):(sliceBounds lo c X9 n).1=((HT.sIx n 0 lo:Nat):Int)/\(sliceBounds lo c X9 n).2.1=((HT.sIx n n c:Nat):Int)/\(sliceBounds lo c X9 n).2.2=1:=by
 refine⟨?_,?_,rfl⟩
 ·cases lo with
  |none=>simp[sliceBounds,HT.sIx]
  | some i=>
   simp only[sliceBounds,HT.sIx,mZ,show(1:Int)>0 by decide,if_true];by_cases h:i<0
   ·simp only[h,if_true]<;>lia
   ·simp only[h,if_false]<;>lia
 ·cases c with
  |none=>simp[sliceBounds,HT.sIx]
  | some i=>
   simp only[sliceBounds,HT.sIx,mZ,show(1:Int)>0 by decide,if_true];by_cases h:i<0
   ·simp only[h,if_true]<;>lia
   ·simp only[h,if_false]<;>lia
def z6M(c:List ae)(lo d:Option Int):slicePick c.toArray lo d X9=((c.drop (HT.sIx c.length 0 lo)).take (HT.sIx c.length c.length d-HT.sIx c.length 0 lo)).toArray:=by obtain⟨e,f,g⟩:=z8i lo d c.toArray.size;unfold slicePick;rw[e,f,g];simp only[sliceRange_one,pick_run,aF]<;>rfl
def MM(K:ah):V->Option Int->Option Int->Hp->VK->Prop:=λx lo hi H Q=>∃a xs,x=.ref a/\qJ K H a xs/\∀p,H p=X9->Q (.ref p) (upd H p (.lst (zK xs lo hi)))
def YQ:yF X (MM X.K):=by intro g s t H x v u w e f y Q I j k l m h;obtain⟨a,c,rfl,n,q⟩:=h;cases j;obtain⟨z,r,i,p⟩:=I.list n;have d:=r.length;refine⟨"list",_,slot_list_getitem.lookup,i.isList.typeIs,?_⟩;refine wpAny_getItem_list_slice i.isList k l m .none 'k' ?_ (by rw[aF]<;>lia);rw[z6M,<- d];refine⟨.ref s.heap.objs.size,_,I.laid (t':=s.toks) (o:=.lst (zK c e f)) (λb A q=>ag _ q) (aD _) ?_,rfl,q _ (I.hok.fresh (aD _))⟩;exact⟨aE (RM c e f) p,_,0,(r.drop (HT.sIx c.length 0 e)).take (HT.sIx c.length c.length f-HT.sIx c.length 0 e),aJ _ rfl⟩
def oJ.or{f:ae}{r d:List V->Hp->VK->Prop}(h:oJ X f r)(h':oJ X f d):oJ X f (λxs H Q=>r xs H Q\/d xs H Q):=by
 intro c s e H xs g Q I i q;rcases q with q|q
 ·exact h c s e H xs g Q I i q
 ·exact h' c s e H xs g Q I i q
def z7m:oJ X (.type "tuple") (λxs H Q=>∃p d,xs=[.ref p]/\((qJ X.K H p d/\∀l,H l=X9->Q (.ref l) (upd H l (.tup d)))\/(rL X.K H p d/\Q (.ref p) H))):=by
 intro c s m H xs A Q I r h;obtain⟨p,d,rfl,h⟩:=h;obtain⟨u,rfl,x⟩:=ue r;cases x;rcases h with⟨g,q⟩|⟨g,q⟩
 ·obtain⟨i,j,k,n⟩:=I.list g;have t:=j.length;refine call_tuple_list k.isList (λf y=>?_) (by simp only[aF]<;>lia);have v:Inv X c m H { s with heap:=f }:=I.kept (t':=s.toks) y;have z:Inv X c m (upd H f.objs.size (.tup d)) { s with heap:=f.push { cls:=.type "tuple",data:=.seq i.toArray } }:=
   v.laid (t':=s.toks) (λb o e=>ag _ e) (aD _) (show oN X.prog X.w _ _ _ (.tup d) from ⟨n,i,j,oU.new _ _⟩)
  exact⟨.ref f.objs.size,_,z,rfl,q _ (v.hok.fresh (aD _))⟩
 ·obtain⟨i,j,k,n⟩:=I.tuple g;exact call_tuple_same k ⟨.ref p,H,I,rfl,q⟩
def R_(K:ah)(T:String)(x:V)(H:Hp):Prop:=match x with
 |.str _=>T = "str"
 |.int _=>T = "int"
 | .ref p=>(T = "list"/\∃xs,qJ K H p xs)\/(T = "tuple"/\∃o,K.lookup p=XV o/\o.cls=.type "tuple"/\o.dict=X9) \/
   (T = "dict"/\((∃k_,H p=XV (.dK k_)) \/ ∃k_,H p=XV (.dT k_)))\/(T = "set"/\∃S n,H p=XV (.set S n))
 |_=>False
def Xi(I:Inv X X5 σ H s)(r:RelV x v)(g:R_ X.K T x H):
  s.TypeIs v T/\∀a,v=.ref a->∃ob,s.heap.get? a=XV ob/\ob.dict=X9:=by
 cases x with
 | str z=>
  obtain⟨t,rfl⟩:=r;cases (show T = "str" from g);exact⟨typeIs_str s z t,λ_ e=>nomatch e⟩
 | int i=>
  obtain⟨t,rfl⟩:=r;cases (show T = "int" from g);exact⟨typeIs_int s i t,λ_ e=>nomatch e⟩
 | ref p=>
  cases r;rcases g with⟨rfl,u,l⟩|⟨rfl,o,d,m,h⟩|⟨rfl,d⟩|⟨rfl,S,n,d⟩
  ·obtain⟨w,_,k,_⟩:=I.list l;refine⟨k.isList.typeIs,λa e=>?_⟩;cases e;obtain⟨o,n,e,c,h,_⟩:=k;exact⟨o,e,h⟩
  ·refine⟨⟨o,I.kIn p o d,m⟩,λa e=>?_⟩;cases e;exact⟨o,I.kIn _ o d,h⟩
  ·have z:∃o,s.heap.get? p=XV o/\o.ExactDict:=by
    rcases d with⟨q,d⟩|⟨q,d⟩
    ·obtain⟨_,_,_,_,o,_,_,e,f,_⟩:=I.hok p _ d;exact⟨o,e,f⟩
    ·obtain⟨_,_,_,_,o,_,_,e,f,_⟩:=I.hok p _ d;exact⟨o,e,f⟩
   obtain⟨o,e,f⟩:=z;refine⟨⟨o,e,f.1⟩,λa j=>?_⟩;cases j;exact⟨o,e,f.2.1⟩
  ·obtain⟨o,_,_,_,e,f,_⟩:=I.hok p _ d;refine⟨⟨o,e,f.1⟩,λa j=>?_⟩;cases j;exact⟨o,e,f.2.1⟩
 |_=>exact ak g
def tBM(K:ah)(T:String)(r:V->List V->Hp->VK->Prop)(to:TE)(t:TA):TE:=λσ H Q=>to σ H λx H1=>R_ K T x H1/\t σ H1 λxs H2=>r x xs H2 Q
variable{o e:aR}{es:List aR}{to:TE}{t:TA}{name:Str}{apos p_:Pos}{T id:String}{r:V->List V->Hp->VK->Prop}
def F7(k:PlainAttrs T)(d:Slot T name id)(l:typeOf (.builtin id)=pure (.type "method_descriptor"))(m:Ib X id r)(n:PE X o to)(p:PA X (e::es) t)
  (q:attributeBase o name X.env (eval o X.env)=eval o X.env:=by rfl)
  (u:((backTo p_ (aS (e::es) X.env)).all (λx=>!x.1)&&(backToKw p_ (keywordEach [] X.env)).all (λx=>x.1.isSome)
   && decide ((e::es).length+([]:List fF).length+(if ([]:List fF).isEmpty then 0 else 1)<30))=YP:=by rfl)
  (w:(apos.endLine==p_.line)=YP:=by rfl) (y:aS (e::es) X.env=(Y1,eval e X.env)::aS es X.env:=by rfl) (z:(backTo p_ (aS es X.env)).any (·.1)=Y1:=by rfl):
  PE X (.Call (.Attribute o name apos) (e::es) [] p_) (tBM X.K T r to t):=by intro c s f H Q I h;refine wpAny_Call_method_late q u w rfl (qc (n c s f H _ I h) λv A ⟨x,B,g,i,C,D⟩=>?_);obtain⟨E,F⟩:=Xi g i C;refine⟨T,id,k,d,l,E,F,?_⟩;have j:=p p_ c A f B _ g D;rw[y] at j ⊢;refine Calls.callWith_builtin (by show(Y1||(backTo p_ (aS es X.env)).any (·.1))=Y1;rw[z]<;>rfl) (Calls.evalArgs_plain ?_);exact qc j λG J ⟨L,M,N,O,P⟩=>m c J f M x L v G Q N i O P
end
def TJ(X:Cx)(id:String)(r:V->List V->Hp->VK->Prop):Prop:=
 ∀(X5:List (ab×Obj))(s:af)(σ:St)(H:Hp)(x:V)(xs:List V)(v:ae)(us:List ae)(Q:VK),Inv X X5 σ H s->RelV x v->oA xs us->r x xs H Q->
  ao (aw X.prog X.w) X.A (call (.builtin id) (v::us)) (EP X X5 σ Q) X.xe s
def oA.one:∀{x:V}{a:List ae},oA [x] a->∃u,a=[u]/\RelV x u
 |_,_,.cons r .nil=>⟨_,rfl,r⟩
theorem oA.eraseIdx:∀{xs:List V}{a:List ae}(i:Nat),oA xs a->oA (xs.eraseIdx i) (a.eraseIdx i)
 |_,_,_,.nil=>.nil
 |_,_,0,.cons _ t=>t
 |_,_,i+1,.cons r t=>.cons r (oA.eraseIdx i t)
def oA.reverse{xs:List V}{a:List ae}(h:oA xs a):oA xs.reverse a.reverse:=by
 induction h with
 |nil=>exact .nil
 |cons r t ih=>rw[mz,mz];exact oA.append ih (.cons r .nil)
section
variable{X:Cx}{X5:List (ab×Obj)}{σ:St}{H:Hp}{s:af}{l:ab}{xs ys:List V}
def Inv.lset{a its':List ae}{n:Nat}{f:Array ae->Array ae}{t':Nat}(I:Inv X X5 σ H s)(b:H l=XV (.lst xs))
  (e:s.heap.get? l=XV { cls:=.type "list",data:=.seq a.toArray n }) (c:f a.toArray=its'.toArray) (d:oA ys its') (hz:ys.length<=KB) (i:0<t':=by first|exact cU _|exact Inv.tk ‹_›|assumption|lia):
  Inv X X5 σ (upd H l (.lst ys)) { s with heap:=s.heap.update l (bu f),toks:=t' }:=by have q:=PySem.IsL.update e f;rw[c] at q;refine I.write (x:=l) (e:=l) (by rw[b];exact trivial) (.inl rfl) (λj u g h=>(bj s.heap (bu f) (cS g)).trans h) ⟨_,q⟩ ?_;exact⟨hz,its',_,d,q⟩
def Inv.lnew(I:Inv X X5 σ H s)(a:oA ys h_)(hz:ys.length<=KB)(b:0<t':=by first|exact cU _|exact Inv.tk ‹_›|assumption|lia):
  Inv X X5 σ (upd H s.heap.objs.size (.lst ys)) { s with heap:=s.heap.push { cls:=.type "list",data:=.seq h_.toArray },toks:=t' }:=
 I.laid (λ_ _ q=>ag _ q) (aD _) ⟨hz,h_,0,a,aJ _ rfl⟩
def Inv.fresh(I:Inv X X5 σ H s):H s.heap.objs.size=X9:=I.hok.fresh (aD _)
def Inv.lstM(I:Inv X X5 σ H s)(b:H l=XV (.lst xs)):xs.length<=KB/\∃(a:List ae)(n:Nat),oA xs a/\xs.length=a.length/\s.heap.get? l=XV { cls:=.type "list",data:=.seq a.toArray n }:=by obtain⟨z,a,n,r,e⟩:=I.hok l _ b;exact⟨z,a,n,r,r.length,e⟩
def zeW{n:Nat}(h:n<=KB):fM n=Y1:=by unfold fM;exact decide_eq_false 'd'
end
section
variable{X:Cx}
def YJ:V->List V->Hp->VK->Prop:=λx vs H Q=>∃l xs y,x=.ref l/\vs=[y]/\H l=XV (.lst xs)/\xs.length<KB/\Q .non (upd H l (.lst (xs++[y])))
def QT:TJ X "list.append" YJ:=by intro a s i H x j v k Q I d f h;obtain⟨l,m,y,rfl,rfl,b,o,q⟩:=h;cases d;obtain⟨u,rfl,g⟩:=f.one;obtain⟨z,c,n,r,p,e⟩:=I.lstM b;refine call_meets kR ⟨_,e,rfl⟩ F.entry_list_append (F.args_list_append_2 _ _) (PySem.list_append l c.toArray n u (by rw[aF];lia)) ⟨e,?_⟩;refine⟨.non,_,I.lset (its':=c++[u]) b e 'k' (r.append (.cons g .nil)) ?_,rfl,q⟩;rw[az,ef];lia
end
section
end
end L2
namespace Att
open PySem PySem.W PySem.Calls PyProof.Rows
def z4M:∀(ns:List Int)(vs:List ae),WellAll P h vs (ns.map nW)->kQ vs ns:=by
 intro ns
 induction ns with
 | nil=>
  intro vs w;rw[lY] at w;cases w;exact .nil
 | cons n ns ih=>
  intro vs w;rw[bh] at w;cases w with
  | cons a b=>
   cases a;exact .cons _ _ (ih _ b)
def zet{l:lZ}{n:Nat}(k:l.most=XV n){P:iQ}{h:aX}{args:List WData}{b:List ae}
  (i:l.row.toRowW.claim.pre args=YP) (m:WellAll P h b args):
  ∃a vs ns,b=[fU a]/\args=[WData.list (ns.map nW)]/\h.get? a=XV { cls:=.type "list",data:=.seq vs.toArray }/\kQ vs ns/\ns.length<=n:=by
 have g:WShape.hasAll [] args [.list .int]=YP:=(pre_splitW i).1;have j:l.pre.holds [] { args:=args } = YP:=(pre_splitW i).2;obtain⟨d,r,rfl,o,p⟩:=hasAllW_cons g;obtain rfl:=hasAllW_nil p;obtain⟨u,rfl,s⟩:=hasW_list o;obtain⟨ns,rfl⟩:=items_int s;have c:ns.length<=n:=by
  unfold OpenLaw.pre at j;have e:(WTm.not (.lt (.lit (.int (n:Int))) (.len (.arg 0)))).holds [] { args:=[.list (ns.map .int)] } = YP:=by
   have e:=(holds_andW j).1;rw[k] at e;exact e
  have f:=condW_of e (w_not (w_lt w_lit (w_len_list (w_arg rfl))));rw[au] at f;refine Nat.le_of_not_lt λq=>?_;have t:(n:Int)<((ns.length:Nat):Int):=by lia
  first
   |(rw[decide_eq_true t] at f;exact absurd f 'u')
   |(simp at f;lia)
 cases m with
 | cons w1 w2=>
  cases w2;cases w1 with
  |list ho uZ=>exact⟨_,_,ns,rfl,rfl,ho,z4M ns _ uZ,c⟩
def zem(l:lZ)(args:List WData):l.row.toRowW.claim.post args (.bool YP) args=YP:=
 postW_of (r:=l.row.toRowW) (X:=(YP==YP))
  (show WShape.has [] (.bool YP) .bool=YP by first|rfl|decide|simp[WShape.has,WShape.arms,WShape.armsAll])
  (show(WTm.eq .res (.lit (.bool YP))).value [] { args:=args,res:=XV (.bool YP),after:=args } = XV (.bool (YP==YP)) from w_eq_bool (w_res rfl) w_lit) rfl
theorem Rw:∀ns:List Int,lI (ns.map gR)=ns.map nW
 |[]=>by simp[lI]
 |n::ns=>by simp only[bh,lI,l7];rw[Rw ns]
def attach_call{l:lZ}{n:Nat}{q:aM}{loose:List Str}{XP:(Str->Option ae)->aX->Prop}{p:aV->aX->Prop}{d:DefRec}{α:Type}{Yf:af->α}{Ya:aV->α}
  (C:l.most=XV n) (D:d.params.defaults=[]) (E:∀w s,Yf s=Ya w->p w s.heap) (F:∀w h h',p w h->(∀b o,h.get? b=XV o->h'.get? b=XV o)->p w h')
  (j:∀(w:aV)(c e:af)(mg v:Str->Option ae)(k:ab)(o:Obj)(x t g:ae)(a:ab)(vs:List ae)(ns:List Int),
   Ground q loose [] XP w c mg v e.heap->p w e.heap->
   e.heap.get? k=XV o->o.data=.func (docDef d.name d.params d.body d.scope x t g)->e.heap.CodeRec t d.name->mg d.name=XV (.ref k)->
   e.heap.get? a=XV { cls:=.type "list",data:=.seq vs.toArray }->kQ vs ns->ns.length<=n->e.gens = #[]->0<e.toks->
   codeAny (aw l.prog w) callerA (.call (.ref k) ⟨[.ref a],[]⟩) (λr u=>r=.ok (.ret (.bool YP))/\OldK e.heap u.heap/\u.os=e.os/\hW u.gens) e):
  WalkX q loose XP (λs=>(Yf s,decide (0<s.toks))) (λw=>(Ya w,YP)) l.row.toRowW d [] (λf vs=>PySem.call f vs):=by
 intro w c e mg v G Y k o x t g H I J K M y N O z A P L Q B R S E1;obtain rfl:H=.none:=Dflts.none y D;obtain rfl:I=.none:=Dflts.noKw y;have T:Yf c=Ya w:=congrArg Prod.fst Y;have U:0<c.toks:=of_decide_eq_true (congrArg Prod.snd Y);obtain⟨a,vs,ns,rfl,rfl,V,i,m⟩:=zet C Q S;have Z:Laid l.row.toRowW.records w c e [l7 (ee (ns.map gR))] [.ref a] P:=by
  rw[l7,Rw];exact L
 have qE:0<e.toks:=a9 U (PySem.W.X.script_toks Z rfl);refine enter_call (gf (j w c e mg v k o x t g a vs ns G (F _ _ _ (E w c T) L.keeps) J (fd_plain K) M N V i m O qE) λr u hq=>?_);obtain⟨rfl,h2,h3,h4⟩:=hq;exact⟨.inl ⟨.bool YP,.bool YP,[],rfl,λ_=>rfl,.bool YP,zem l _,λ_=>⟨eH,λ_ hm=>(nomatch hm)⟩⟩,h2,h3,h4⟩
section
end
end Att
namespace L2
open PySem PySem.Spec PyProof.Rows
theorem Q0:∀{vs:List ae}{ns:List Int},kQ vs ns->oA (ns.map V.int) vs
 |_,_,.nil=>.nil
 |_,_,.cons n t h=>.cons ⟨t,rfl⟩ (Q0 h)
noncomputable def xF(s:er):iJ:=match s with
 |.FunctionDef _ a _ _ _ _ _ _ _ _=>a
 |_=>{ posonlyargs:=[],args:=[],vararg:=X9,kwonlyargs:=[],kw_defaults:=[],kwarg:=X9,defaults:=[] }
def u_(s:er):List er:=match s with
 |.FunctionDef _ _ b _ _ _ _ _ _ _=>b
 |_=>[]
def qg(s:er):cO:=match s with
 |.FunctionDef _ _ _ _ _ _ sc _ _ _=>sc
 |_=>{ kind:=.function,names:=[],isGenerator:=Y1,isCoroutine:=Y1 }
abbrev xo:wO:=λ_ _ _ _ _ _=>False
abbrev E0:XK:=λ_ _ _=>False
def Ni:Gm xo X E0:=λ_ _ _ _ _ _ _ h=>h.elim
structure Fun(K:ah)(x qual:Str)(st:er)(f:ab)(fd:d8):Prop where
 ex:∃(oc:ae)(od:Option ab)(kV doc pm:ae)(an:Option ab)(pP ct:ae)(uE:Array (Option ae)),
  fd=cy x qual (xF st) (u_ st) (qg st) .none kV doc pm an pP ct/\K.lookup f=XV ⟨oc,od,.func fd,uE⟩/\eU K pP qual=YP
 kp:cT K (.ref f)=YP
section
variable{P:aM}{w:aV}{K:ah}{mg:Str->Option ae}{base:aX}
def Fun.ok{x b:Str}{st:er}{f:ab}{g:d8}{N ps:List Str}{k:Nat}{d:Sp}(F:Fun K x b st f g)(S:qv N ps (qg st))(e:∀vs H Q E,d vs H Q E->vs.length=ps.length)
  (i:∀(c:ae)(A:a7)(a:List Env)(s:af)(H:Hp)(vs:List V)(Q:VK)(E:XK),oH k (A.deeper (envOfC b (qg st) s.heap.objs.size f c))->d vs H Q E->
   ∃t,sY (Ar xo P w K mg base N b (qg st) f c A a s H E).nox (u_ st) t/\t { nx:=λ_ H'=>Q .non H',rt:=Q } (start N vs) H):oP P w K mg base xo (k+1) f g ps d:=by obtain⟨p,r,u,j,v,y,c,z,B,rfl,l,m⟩:=F.ex;refine qX l m S e λA a s H vs Q E n o=>?_;obtain⟨t,h,q⟩:=i c A a s H vs Q E n o;exact⟨t,h.nox,q⟩
def Fun.binds{x a:Str}{st:er}{f:ab}{k:d8}{ps:List Str}(F:Fun K x a st f k)
  (h:∀(c b d:ae)(e:Option ab)(g i:ae)(j:List ae),j.length=ps.length->bindArgs (cy x a (xF st) (u_ st) (qg st) .none c b d e g i) ⟨j,[]⟩=pure (ps.zip j)):Binds K k ps []:=by obtain⟨l,m,c,b,d,e,g,i,n,rfl,o,p⟩:=F.ex;exact .all (h c b d e g i)
def Je{x a:Str}{st:er}{f:ab}{j:ae}{m e:Option ab}{n:Array (Option ae)}{g b h d i:ae}(l:K.lookup f=XV ⟨j,m,.func (cy x a (xF st) (u_ st) (qg st) .none g b h e d i),n⟩)
  (c:eU K d a=YP) (k:cT K (.ref f)=YP):Fun K x a st f (cy x a (xF st) (u_ st) (qg st) .none g b h e d i):=⟨⟨j,m,g,b,h,e,d,i,n,rfl,l,c⟩,k⟩
end
def oE(H H':Hp):Prop:=∀b o,H b=XV o->H' b=XV o
def oE.refl(H:Hp):oE H H:=λ_ _ h=>h
def oE.trans(a:oE H H1)(b:oE H1 H2):oE H H2:=λc o h=>b c o (a c o h)
def oE.free{H H':Hp}(e:oE H H'){l:ab}(h:H' l=jk):H l=jk:=by
 cases q:H l with
 |none=>rfl
 | some o=>
  rw[e l o q] at h;cases h
def oE.seq{K:ah}{H H':Hp}{a:ab}{xs:List V}(e:oE H H')(h:qJ K H a xs):qJ K H' a xs:=by
 rcases h with(h|⟨o,h⟩)|h
 ·exact .inl (.inl (e _ _ h))
 ·exact .inl (.inr ⟨o,e _ _ h⟩)
 ·exact .inr h
section
variable{κ:Type}[DecidableEq κ]
def uw(k_:List (κ×V))(k:κ):Option V:=(k_.find? λkv=>decide (kv.1=k)).map (·.2)
noncomputable def zI(k_:List (κ×V))(k:κ)(v:V):List (κ×V):=
 if (k_.any λkv=>decide (kv.1=k))=YP then k_.map (λkv=>if kv.1=k then (kv.1,v) else kv) else k_++[(k,v)]
def yQ(k_:List (κ×V))(k:κ):List (κ×V):=k_.filter λkv=>decide (kv.1≠k)
def DD{p:κ×V}{r:List (κ×V)}{k:κ}(e:p.1=k):uw (p::r) k=XV p.2:=by simp[uw,eC,e]
def Ci{p:κ×V}{r:List (κ×V)}{k:κ}(e:¬ p.1=k):uw (p::r) k=uw r k:=by simp[uw,eC,e]
theorem P1(k:κ):∀a:List (κ×V),(a.any λkv=>decide (kv.1=k))=(uw a k).isSome
 |[]=>rfl
 | p::r=>by
  rw[fQ];by_cases e:p.1=k
  ·simp only[DD e,decide_eq_true e,Bool.true_or,l8]
  ·rw[Ci e,decide_eq_false e,jy];exact P1 k r
def z9m(a:List (κ×V))(k:κ)(v:V):(zI a k v).length<=a.length+1:=by
 unfold zI;split
 ·rw[au];lia
 ·rw[az,aO,eD];lia
def zeO{a:List (κ×V)}{k:κ}(v:V)(h:uw a k=X9):zI a k v=a++[(k,v)]:=by unfold zI;rw[P1,h];exact Z5 'u'
def o0.isSome_eq(r:o0 o u):o.isSome=u.isSome:=by
 cases o with
 | none=>cases u with
  |none=>rfl
  |some _=>exact(show False from r).elim
 | some _=>cases u with
  |none=>exact(show False from r).elim
  |some _=>rfl
def o0.getD(r:o0 o u)(a:RelV d d'):RelV (o.getD d) (u.getD d'):=by
 cases o with
 | none=>cases u with
  |none=>exact a
  |some _=>exact(show False from r).elim
 | some _=>cases u with
  |none=>exact(show False from r).elim
  |some _=>exact r
def KV.val{c:List (κ×V)}{vs:List (κ×ae)}(r:KV c vs)(k:κ):o0 (uw c k) (valueAt vs k):=by
 unfold KV at r
 induction r with
 |nil=>exact fX
 | @cons p q ps qs h t ih=>
  obtain⟨d,f⟩:=h;by_cases e:p.1=k
  ·have a:q.1=k:=d.symm.trans e;have b:valueAt (q::qs) k=XV q.2:=by simp[valueAt,eC,a]
   rw[DD e,b];exact f
  ·have a:¬ q.1=k:=λz=>e (d.trans z);have b:valueAt (q::qs) k=valueAt qs k:=by simp[valueAt,eC,a]
   rw[Ci e,b];exact ih
def KV.any{a:List (κ×V)}{vs:List (κ×ae)}(r:KV a vs)(k:κ):(a.any λkv=>decide (kv.1=k))=vs.any λkv=>decide (kv.1=k):=by
 unfold KV at r
 induction r with
 |nil=>rfl
 |cons h t ih=>rw[fQ,fQ,ih,h.1]
def KV.repl(r:KV k_ vs)(k:κ)(b:RelV y u):
  KV (k_.map λkv=>if kv.1=k then (kv.1,y) else kv) (vs.map λkv=>if kv.1=k then (kv.1,u) else kv):=by
 unfold KV at r ⊢
 induction r with
 |nil=>exact .nil
 | @cons p q ps qs h t ih=>
  rw[bh,bh];refine .cons ?_ ih;obtain⟨a,c⟩:=h;by_cases e:p.1=k
  ·rw[Y2 e,Y2 (a.symm.trans e)];exact⟨a,b⟩
  ·rw[Z5 e,Z5 (λz=>e (a.trans z))];exact⟨a,c⟩
def KV.put(r:KV k_ vs)(k:κ)(a:RelV y u):KV (zI k_ k y) (stored vs k u):=by
 unfold zI stored;rw[r.any k];by_cases e:(vs.any λb=>decide (b.1=k))=YP
 ·rw[Y2 e,Y2 e];exact r.repl k a
 ·rw[Z5 e,Z5 e];exact Paired.snoc r ⟨rfl,a⟩
def KV.drop(r:KV k_ vs)(k:κ):KV (yQ k_ k) (without vs k):=by
 unfold KV at r ⊢;unfold yQ without
 induction r with
 |nil=>exact .nil
 | @cons p q ps qs h t ih=>
  obtain⟨c,d⟩:=h;rw[cY,cY];by_cases e:p.1=k
  ·have a:¬ decide (p.1≠k)=YP:=by simp[e]
   have b:¬ decide (q.1≠k)=YP:=by simp[c.symm.trans e]
   rw[Z5 a,Z5 b];exact ih
  ·have f:¬ q.1=k:=λz=>e (c.trans z);have a:decide (p.1≠k)=YP:=by simp[e]
   have b:decide (q.1≠k)=YP:=by simp[f]
   rw[Y2 a,Y2 b];exact .cons ⟨c,d⟩ ih
def KV.length(r:KV k_ vs):k_.length=vs.length:=lF r
def ZU(a:List (κ×V))(k:κ):(yQ a k).length<=a.length:=aZ _ _
end
def IG(r:RelV (kV k) u):(xb P w).is k u=YP:=by
 cases k with
 |inl i=>obtain⟨t,e⟩:=(show ∃t,u=lS i t from r);subst e;exact z9i P w i t
 |inr x=>obtain⟨t,e⟩:=(show ∃t,u=lT x t from r);subst e;exact z9A P w x t
abbrev KT(H:Hp):List (List Key×V)->List (List Key×ab×ae)->Prop:=bU λp q=>p.1=q.1/\H q.2.1=XV (.tup (p.1.map kV))/\RelV p.2 q.2.2
def KT.val{H:Hp}{c:List (List Key×V)}{xs:List (List Key×ab×ae)}(r:KT H c xs)(k:List Key):o0 (uw c k) ((atKey xs k).map (·.2)):=by
 induction r with
 |nil=>exact fX
 | @cons p q ps qs h t ih=>
  obtain⟨d,_,f⟩:=h;by_cases e:p.1=k
  ·have a:q.1=k:=d.symm.trans e;have b:atKey (q::qs) k=XV q.2:=by simp[atKey,eC,a]
   rw[DD e,b];exact f
  ·have a:¬ q.1=k:=λz=>e (d.trans z);have b:atKey (q::qs) k=atKey qs k:=by simp[atKey,eC,a]
   rw[Ci e,b];exact ih
section
variable{P:aM}{w:aV}{H:Hp}{h:aX}{a:ab}
def U6(ok:HOk P w H h)(e:Rd H a u):oN P w H h a u:=e.ok ok
def F_(ok:HOk P w H h)(e:Rd H a (.dK k_)):k_.length<=KB/\(a==sysModules)=Y1/\∃vs,KV k_ vs/\h.DictOf (xb P w) a vs:=
 show oN P w H h a (.dK k_) from U6 ok e
def IL(ok:HOk P w H h)(e:H a=XV (.dK k_)):k_.length<=KB/\(a==sysModules)=Y1/\∃vs,KV k_ vs/\h.DictOf (xb P w) a vs:=F_ ok (.inl e)
end
section
variable{X:Cx}{X5:List (ab×Obj)}{σ:St}{H:Hp}{s:af}{a:ab}
def Inv.big(I:Inv X X5 σ H s):sysModules<s.heap.objs.size:=by have h:bO<s.heap.objs.size:=(I.mod.glob.keeps I.bk).lt;exact l9 'u' h
def OH(I:Inv X X5 σ H s)(d:FD (H a))(f:cG a s.heap h')(g:∃q,h'.get? a=XV q)(c:oN X.prog X.w (upd H a ob) h' a ob)(i:0<t':=by first|exact cU _|exact Inv.tk ‹_›|assumption|lia):
  Inv X X5 σ (upd H a ob) { s with heap:=h',toks:=t' }:=
 I.write (x:=a) (e:=a) d (.inl rfl) (λb q h z=>(f.2 b h).trans z) g c
def IU(z:k_.length<=KB)(c:(a==sysModules)=Y1)(b:KV k_ vs)(d:h'.DictOf (xb P w) a vs):
  oN P w H' h' a (.dK k_):=⟨z,c,vs,b,d⟩
end
section
variable{X:Cx}{X5:List (ab×Obj)}{σ:St}{H:Hp}{s:af}{a:ab}{k_:List (Key×V)}{k:Key}{u:ae}{A:a7}{E:ae->af->Prop}
def zcf(I:Inv X X5 σ H s)(e:H a=XV (.dK k_))(g:RelV (kV k) u)(l:(uw k_ k).isSome=YP)(h:∀d,Inv X X5 σ (upd H a (.dK (yQ k_ k))) d->Q () d):
  ao (aw X.prog X.w) A (delItem (.ref a) u) Q E s:=by
 obtain⟨z,i,j,b,c⟩:=IL I.hok e;refine wpAny_delItem_slot c.typeIs 'u' jM
  (call_meetsIn jM c.typeIs PySem.F.entry_dict_delitem (PySem.F.args_dict_delitem_2 _ _) (meets_dict_delitem_pairs (xb X.prog X.w) a (IG g)) ⟨j,c,by rw[<- b.length];exact z,by rw[<- (b.val k).isSome_eq];exact l,λm f n=>h _ ?_⟩)
 have o:∃q,m.get? a=XV q:=let ⟨q,_,_,hq,_⟩:=f;⟨q,hq⟩;exact OH I (by rw[e];exact fX) n o (IU (aE (ZU k_ k) z) i (b.drop k) f)
end
def FX(i:aR):Prop:=∀ov iv,subscripted i Y1 ov iv=operate [ov,iv] (getItem ov iv)
def zev{prog:aM}{w:aV}{A:a7}{E:ae->af->Prop}{s:af}{env:Env}{b a:aR}{pos:Pos}{T id:String}{Q:ae->af->Prop}
  (k:typeLookup (.type T) "__getitem__" = pure (XV (.builtin id))) (l:FX a)
  (h:ao (aw prog w) A (eval b env) (λo f=>ao (aw prog w) A (eval a env) (λi d=>d.TypeIs o T/\ao (aw prog w) A (getItem o i) Q E d) E f) E s):
  ao (aw prog w) A (eval (.Subscript b a pos) env) Q E s:=by
 refine Subscript_ (cw h (λo f m=>cw m (λi d e=>?_) λ_ _ x=>x) λ_ _ x=>x);obtain⟨g,e⟩:=e;unfold subscriptTail;refine aa ?_;rw[getitemInPython_of_ne g.not_modules];refine aa (wpAny_specialOf g k ?_);have c:ao (aw prog w) A (subscripted a Y1 o i) (λr j=>ao (aw prog w) A (letTemporaryGo b o r >>= λ_=>pure r) Q E j) E d:=by
  rw[l o i];exact wpAny_operating (cw e (λr j n=>aa (wpAny_letTemporaryGo (aj n))) λ_ _ x=>x)
 first
  |exact aj (aa c)
  |exact aa (aj (aa c))
  |exact aa c
def U_(td ty:TE):TS:=λD σ H=>td σ H λx H1=>ty σ H1 λy H2=>∃a k_ k,x=.ref a/\H2 a=XV (.dK k_)/\y=kV k/\(uw k_ k).isSome=YP/\D.nx σ (upd H2 a (.dK (yQ k_ k)))
section
variable{X:Cx}{o i e:aR}{pos KQ:Pos}{td ty:TE}
def XH(d:PE X o td)(f:PE X i ty):PS X (.Delete [.Subscript o i KQ] pos) (U_ td ty):=by intro b s c H D I h;refine wpAny_Delete (wpAny_deleteEach_cons (wpAny_delete_Subscript (qc (d b s c H _ I h) λu g ⟨x,j,m,n,p⟩=>qc (f b g c j _ m p) λA B ⟨y,C,q,r,a,E,k,t,e,v,l,w⟩=>?_)));subst t v;obtain rfl:u=fU a:=n;exact zcf q e r l λF z=>wpAny_deleteEach_nil ⟨c,_,z,w⟩
end
structure M1(X:Cx)(o:aR)(m:Str)(apos:Pos)(e:aR)(p_:Pos):Prop where
 base:attributeBase o m X.env (eval o X.env)=eval o X.env
 few:((backTo p_ (aS [e] X.env)).all (λx=>!x.1)&&(backToKw p_ (keywordEach [] X.env)).all (λx=>x.1.isSome)
  && decide (([e]:List aR).length+([]:List fF).length+(if ([]:List fF).isEmpty then 0 else 1)<30))=YP
 line:(apos.endLine==p_.line)=YP
 trees:backTo p_ (aS [e] X.env)=[(Y1,eval e X.env)]
structure M2(X:Cx)(o:aR)(m:Str)(apos:Pos)(e f:aR)(p_:Pos):Prop where
 base:attributeBase o m X.env (eval o X.env)=eval o X.env
 few:((backTo p_ (aS [e,f] X.env)).all (λx=>!x.1)&&(backToKw p_ (keywordEach [] X.env)).all (λx=>x.1.isSome)
  && decide (([e,f]:List aR).length+([]:List fF).length+(if ([]:List fF).isEmpty then 0 else 1)<30))=YP
 line:(apos.endLine==p_.line)=YP
 trees:backTo p_ (aS [e,f] X.env)=[(Y1,eval e X.env),(Y1,eval f X.env)]
section
end
section
end
end L2
namespace DL
open PySem L2
def wT{X:Cx}{b:List (ab×Obj)}{d:St}{H:Hp}{s:af}{α:Type}{M:iS}{A:a7}{m:Sem α}{Q:α->af->Prop}{E:ae->af->Prop}(I:L2.Inv X b d H s)(h:ao M A m (λa c=>0<c.toks->Q a c) (λe c=>0<c.toks->E e c) s):ao M A m Q E s:=fW I.tk h
structure H9(K:ah)(C:ab):Prop where
 ga:eT K (.ref C) "__getattribute__" = XV (XV (.builtin "BaseException.__getattribute__"))
 nh:eT K (.ref C) "__getattr__" = XV X9
 cl:∃cd,PySem.W.clsIn K C=XV cd
 at_:eT K (.ref C) "__class__" = XV (XV (.builtin "object.__class__"))
 gt:jG K (.builtin "object.__class__") "__get__" = XV (XV (.builtin "getset_descriptor.__get__"))
 tk:nB K (.builtin "object.__class__")=XV YP
 ob:lG K C (.type "object")=XV YP
 bx:lG K C (.type "BaseException")=XV YP
 kit:∀c∈(["int", "bool", "str", "list", "tuple", "dict"]:List String),kS K (.ref C) (.type c)=XV Y1
section
open PySem.W
variable{prog:aM}{w:aV}{A:a7}{E:ae->af->Prop}{s:af}{K:ah}{x C:ab}{ox:Obj}
def YU(X:K.In s.heap)(k:H9 K C)(I:ja s.heap x ox C X9)(a:Q () s):ao M A (checkBuiltinCall "BaseException.__getattribute__" ⟨[.ref x,Eu],[]⟩) Q E s:=by
 have b:builtinKind "BaseException.__getattribute__" = XV .slot:=by decide +kernel
 have c:splitId "BaseException.__getattribute__" = XV ("BaseException", "__getattribute__"):=by decide +kernel
 have g:=F.args_bexc_ga (.ref x) Eu;have d:=I.type (M:=M);have e:=looks_mroIn (M:=M) X k.bx;have f:Looks M s.heap (isInstance (.ref x) (.type "BaseException")) YP:=d.andThen e;simp only[checkBuiltinCall,b,c];refine aa (f.at ?_)
 repeat (first|wp_step|exact a)
def WX(X:K.In s.heap)(k:H9 K C)(I:ja s.heap x ox C X9)(h:Q (XV (.ref C)) { s with toks:=s.toks+1 }):ao (aw prog w) A (getAttr? (.ref x) "__class__") Q E s:=by
 obtain⟨i,c⟩:=k.cl;have d:findObj K C X9 "__class__" = XV (.bind (.builtin "getset_descriptor.__get__") (.builtin "object.__class__")):=by
  unfold findObj;rw[c,k.at_];simp only[Option.bind_some,k.gt,k.tk]
 have b:=I.type (M:=aw prog w);have e:=looks_findIn (M:=aw prog w) X k.ga;have f:=looks_findIn (M:=aw prog w) X k.nh;have g:=looks_find (M:=aw prog w) X I d;unfold getAttr? getAttrBy? getAttrBy;refine aa (wpAny_mkText (aa (gq (bD (aa (b.at (aa (e.at ?_))))))));have a:(onTheHeap (fU C)&&gu "BaseException.__getattribute__" == gu "object.__getattribute__")=Y1:=by
  rw[show(gu "BaseException.__getattribute__" == gu "object.__getattribute__")=Y1 from by decide +kernel];rfl
 show ao _ _ (if (onTheHeap (fU C)&&gu "BaseException.__getattribute__" == gu "object.__getattribute__")=YP then _ else _) _ _ _;rw[Z5 (by rw[a];decide)];unfold getAttrByItsOwn hookBefore;rw[Y2 (by rfl)];refine aa (f.at (aa (gq (bD ?_))));unfold callGetattribute boundAndCalled;rw[Z5 'u'];rw[mB.ga.bind (.ref x)];refine aa (aj (lq ?_));refine codeAny_call_builtin mB.ga.plain F.entry_bexc_ga (YU (s:={ s with toks:=s.toks+1 }) X k I ?_);unfold dN.«object.__getattribute__»;refine aa (aj (aa (aj (aa (b.at (aa (g.at ?_)))))));show ao _ _ (jN _ _ _ _) _ _ _;unfold jN;refine aa (bD (lq (class_get (s:={ s with toks:=s.toks+1 }) X I k.ob ?_)));exact aj (aj (aj h))
def Vr(k:H9 K C):KitX K (.ref x) (.ref C) (λh=>∃ox,ja h x ox C X9) where
 ty:=λ_ _ _ ⟨ox,I⟩=>I.type
 it:=λ_ _ X _=>by
  obtain⟨f,a⟩:=k.cl;unfold clsIn at a;split at a
  ·rename_i g i b j c;intro o p r t l q;unfold isType loadHead;exact aa (wpAny_loadPart (l _ _ (X _ _ c)) (aj q))
  ·cases a
 ne:=λh m u v n y X d=>by
  obtain⟨f,a⟩:=k.cl;refine Bool.eq_false_iff.mpr λq=>?_;have e:C=m:=Value.ref.inj (beq_iff_eq.mp q);subst e;unfold clsIn at a;split at a
  ·rename_i g i b j c;have z:=(X _ _ c).symm.trans d;cases z
  ·cases a
 ca:=λX ⟨ox,I⟩ q=>WX X k I q
end
end DL
namespace DL
open PySem L2
inductive D where
 |non
 |bl (b:Bool)
 |int (i:Int)
 |str (cs:List Nat)
 |lst (xs:List D)
 |tup (xs:List D)
 |own (k:Nat)
 |dct
 |exn (C:Nat)
 |tab (P:Nat)
 |map (ks:List (Sum Int (List Nat))) (ds:List D)
 |adr (a:Nat)
 deriving Inhabited
abbrev Ow:=List (List D)
inductive R(α:Type) where
 |ok (a:α) (O:Ow)
 |exc (c:Nat) (O:Ow)
 |bad
 deriving Inhabited
def R.bnd{α β:Type}(r:R α)(k:α->Ow->R β):R β:=match r with
 |.ok a O=>k a O
 |.exc c O=>.exc c O
 |.bad=>.bad
abbrev Sg:=List (Option D)
abbrev DE:=Sg->Ow->R D
abbrev DT:=Sg->Ow->R Bool
abbrev DA:=Sg->Ow->R (List D)
section
variable(K:ah)(H:Hp)(X4 μ:List ab)
def TY(K:ah)(a:ab)(xs:List V):Prop:=∃(o:Obj)(h_:Array ae)(n:Nat),K.lookup a=XV o/\o.cls=.type "list"/\o.dict=X9/\o.data=.seq h_ n/\h_.size<=KB/\oA xs h_.toList
def T9(K:ah)(a:ab)(xs:List V):Prop:=∃(o:Obj)(h_:Array ae)(n:Nat),K.lookup a=XV o/\o.cls=.type "tuple"/\o.data=.seq h_ n/\h_.size<=KB/\oA xs h_.toList
def LstAt(a:ab)(vs:List V):Prop:=(Rd H a (.lst vs)/\a∉X4/\a∉μ)\/TY K a vs
def TupAt(a:ab)(vs:List V):Prop:=(Rd H a (.tup vs)/\a∉X4/\a∉μ)\/T9 K a vs/\∃o,K.lookup a=XV o/\o.dict=X9
end
noncomputable def kD:Sum Int (List Nat)->Key
 |.inl i=>.inl i
 |.inr cs=>.inr ⟨cs.toArray⟩
def oK(H:Hp)(P:ab):Prop:=∃ps,H P=XV (.tbl ps)/\TriplesOk ps.toList/\∀pos cv,codeAmong pos ps.toList=XV cv->∃c φ,cv=.ref c/\H c=XV (.ext φ)/\∀h:aX,φ h->∃q,h.CodeRec (.ref c) q
def BV(o:HO):Prop:=∀ps,o ≠ .tbl ps
section
variable(K:ah)(H:Hp)(X4 μ:List ab)
mutual
def X6:D->V->Prop
 |.non,v=>v=.non
 |.bl b,v=>v=.bl b
 |.int i,v=>v=.int i
 |.str cs,v=>v=.str ⟨cs.toArray⟩
 |.lst ds,v=>∃a vs,v=.ref a/\LstAt K H X4 μ a vs/\oy ds vs
 |.tup ds,v=>∃a vs,v=.ref a/\TupAt K H X4 μ a vs/\oy ds vs
 |.own k,v=>∃a,v=.ref a/\μ[k]?=XV a
 |.dct,v=>∃a,v=.ref a/\Rd H a (.dK [])/\a∉X4/\a∉μ
 |.exn C,v=>∃a φ,v=.ref a/\(H9 K C/\∀h:aX,φ h->∃ox,ja h a ox C X9)/\Rd H a (.ext φ)/\a∉X4/\a∉μ
 |.tab P,v=>v=.bl Y1/\oK H P
 |.map ks ds,v=>∃a vs,v=.ref a/\(∃o,H a=XV (.frz o (.dK ((ks.map kD).zip vs))))/\a∉X4/\a∉μ/\ks.length=vs.length/\oy ds vs
 |.adr a,v=>v=.ref a
def oy:List D->List V->Prop
 |[],vs=>vs=[]
 |d::ds,vs=>∃v r,vs=v::r/\X6 d v/\oy ds r
end
structure ou(O:Ow):Prop where
 len:μ.length=O.length
 nd:μ.Nodup
 nh:∀a∈μ,a∉X4
 ht:∀a∈X4,H a≠X9
 at_:∀(k:Nat)a,μ[k]?=XV a->∃ds vs,O[k]?=XV ds/\H a=XV (.lst vs)/\oy K H X4 μ ds vs
structure oz(σ:Sg)(d_:St):Prop where
 len:σ.length=d_.length
 at_:∀(i:Nat)d,σ[i]?=XV (XV d)->∃v,d_[i]?=XV (XV v)/\X6 K H X4 μ d v
end
structure Ext(H:Hp)(μ:List ab)(H':Hp)(f_:List ab):Prop where
 pre:∃ν,f_=μ++ν
 kept:∀b o,H b=XV o->b∉μ->BV o->H' b=XV o
 fresh:∀b∈f_,b∈μ\/H b=X9
 there:∀b,H b≠X9->H' b≠X9
 tab:∀P,oK H P->oK H' P
structure Mv(H:Hp)(X4 μ:List ab)(H':Hp)(hid' f_:List ab):Prop where
 pre:∃ν,f_=μ++ν
 kept:∀b o,H b=XV o->b∉μ->b∉X4->BV o->H' b=XV o
 fresh:∀b∈f_,b∈μ\/H b=X9
 hids:∀b∈hid',b∈X4\/H b=X9
 there:∀b,H b≠X9->H' b≠X9
 tab:∀P,oK H P->oK H' P
section
variable{K:ah}{H H' H1 H2:Hp}{X4 hid' wH E9 μ f_ g_ pW:List ab}
def Ext.keep(e:Ext H μ H' f_)(b:ab)(o:HO)(h:H b=XV o)(n:b∉μ)(a:BV o:=by intro ps z;cases z):H' b=XV o:=e.kept b o h n a
def oK.upd(t:oK H P)(f:H p=X9 \/ ∃vs,H p=XV (.lst vs)):oK (L2.upd H p o) P:=by
 obtain⟨g,a,h,i⟩:=t;have j:P≠p:=by
  rintro rfl;rcases f with z|⟨vs,z⟩<;>(rw[z] at a;cases a)
 refine⟨g,by rw[qf j];exact a,h,λb k e=>?_⟩;obtain⟨c,l,rfl,d,m⟩:=i b k e;have n:c≠p:=by
  rintro rfl;rcases f with z|⟨vs,z⟩<;>(rw[z] at d;cases d)
 exact⟨c,l,rfl,by rw[qf n];exact d,m⟩
def Ext.refl:Ext H μ H μ:=⟨⟨[],by simp⟩,λ_ _ h _ _=>h,λ_ h=>.inl h,λ_ h=>h,λ_ t=>t⟩
def Ext.trans(a:Ext H μ H1 g_)(b:Ext H1 g_ H2 pW):Ext H μ H2 pW:=by
 refine⟨?_,λc o h n d=>?_,λc h=>?_,λc h=>b.there c (a.there c h),λP t=>b.tab P (a.tab P t)⟩
 ·obtain⟨x,rfl⟩:=a.pre;obtain⟨y,rfl⟩:=b.pre;exact⟨x++y,by simp⟩
 ·refine b.kept c o (a.kept c o h n d) (λm=>?_) d;rcases a.fresh c m with z|z
  ·exact n z
  ·rw[z] at h;cases h
 ·rcases b.fresh c h with z|z
  ·exact a.fresh c z
  ·by_cases f:c∈μ
   ·exact .inl f
   ·cases e:H c with
    |none=>exact .inr rfl
    |some o=>exact absurd z (a.there c (by rw[e];simp))
def Ext.mv(a:Ext H μ H' f_):Mv H X4 μ H' X4 f_:=⟨a.pre,λb o h n _ c=>a.kept b o h n c,a.fresh,λ_ h=>.inl h,a.there,a.tab⟩
def Mv.refl:Mv H X4 μ H X4 μ:=Ext.refl.mv
def Mv.trans(a:Mv H X4 μ H1 wH g_)(b:Mv H1 wH g_ H2 E9 pW):Mv H X4 μ H2 E9 pW:=by
 have d:∀c,H1 c=X9->H c=X9:=λc h=>by
  cases e:H c with
  |none=>rfl
  |some o=>exact absurd h (a.there c (by rw[e];simp))
 refine⟨?_,λc o h f g i=>?_,λc h=>?_,λc h=>?_,λc h=>b.there c (a.there c h),λP t=>b.tab P (a.tab P t)⟩
 ·obtain⟨x,rfl⟩:=a.pre;obtain⟨y,rfl⟩:=b.pre;exact⟨x++y,by simp⟩
 ·refine b.kept c o (a.kept c o h f g i) (λm=>?_) (λm=>?_) i
  ·rcases a.fresh c m with z|z
   ·exact f z
   ·rw[z] at h;cases h
  ·rcases a.hids c m with z|z
   ·exact g z
   ·rw[z] at h;cases h
 ·rcases b.fresh c h with z|z
  ·exact a.fresh c z
  ·exact .inr (d c z)
 ·rcases b.hids c h with z|z
  ·exact a.hids c z
  ·exact .inr (d c z)
def Mv.hide(h:H b=X9):Mv H X4 μ H (b::X4) μ:=⟨⟨[],by simp⟩,λ_ _ h _ _ _=>h,λ_ m=>.inl m,λc m=>(am.mp m).elim (λe=>.inr (by rw[e];exact h)) .inl,λ_ h=>h,λ_ t=>t⟩
def Mv.unhide:Mv H (b::X4) μ H X4 μ:=⟨⟨[],by simp⟩,λ_ _ h _ _ _=>h,λ_ m=>.inl m,λ_ m=>.inl (ai _ m),λ_ h=>h,λ_ t=>t⟩
def Rd.mv(r:Rd H a u)(e:Mv H X4 μ H' hid' f_)(c:a∉X4)(d:a∉μ)(f:BV u:=by intro ps z;cases z):Rd H' a u/\a∉hid'/\a∉f_:=by
 have b:∀o,H a=XV o->a∉hid'/\a∉f_:=by
  intro o h;constructor
  ·intro m;rcases e.hids a m with z|z
   ·exact c z
   ·rw[z] at h;cases h
  ·intro m;rcases e.fresh a m with z|z
   ·exact d z
   ·rw[z] at h;cases h
 rcases r with r|⟨o,r⟩
 ·exact⟨.inl (e.kept _ _ r d c f),b _ r⟩
 ·exact⟨.inr ⟨o,e.kept _ _ r d c (by intro ps z;cases z)⟩,b _ r⟩
def LstAt.mv(h:LstAt K H X4 μ a vs)(e:Mv H X4 μ H' hid' f_):LstAt K H' hid' f_ a vs:=
 h.imp (λz=>Rd.mv z.1 e z.2.1 z.2.2) id
def TupAt.mv(h:TupAt K H X4 μ a vs)(e:Mv H X4 μ H' hid' f_):TupAt K H' hid' f_ a vs:=
 h.imp (λz=>Rd.mv z.1 e z.2.1 z.2.2) id
def LstAt.sq(h:LstAt K H X4 μ a vs):qJ K H a vs:=h.elim (λz=>.inl z.1) .inr
def TupAt.sq(h:TupAt K H X4 μ a vs):rL K H a vs:=h.elim (λz=>.inl z.1) λz=>.inr z.1
mutual
theorem X6.mv(e:Mv H X4 μ H' hid' f_):∀{d:D}{v:V},X6 K H X4 μ d v->X6 K H' hid' f_ d v
 |.non,_,h=>h
 |.bl _,_,h=>h
 |.int _,_,h=>h
 |.str _,_,h=>h
 | .lst ds,v,h=>by
  unfold X6 at h ⊢;obtain⟨a,f,r,l,q⟩:=h;exact⟨a,f,r,l.mv e,oy.mv e q⟩
 | .tup ds,v,h=>by
  unfold X6 at h ⊢;obtain⟨a,f,r,l,q⟩:=h;exact⟨a,f,r,l.mv e,oy.mv e q⟩
 | .own k,v,h=>by
  unfold X6 at h ⊢;obtain⟨a,r,q⟩:=h;obtain⟨x,rfl⟩:=e.pre;exact⟨a,r,by rw[aG (aq.mp q).1];exact q⟩
 | .dct,v,h=>by
  unfold X6 at h ⊢;obtain⟨a,r,q,b,c⟩:=h;exact⟨a,r,Rd.mv q e b c⟩
 | .exn C,v,h=>by
  unfold X6 at h ⊢;obtain⟨a,i,r,g,q,b,c⟩:=h;exact⟨a,i,r,g,Rd.mv q e b c⟩
 | .tab P,v,h=>by
  unfold X6 at h ⊢;exact⟨h.1,e.tab _ h.2⟩
 | .map ks ds,v,h=>by
  unfold X6 at h ⊢;obtain⟨a,f,r,⟨o,q⟩,b,c,j,d⟩:=h;obtain⟨_,m,n⟩:=Rd.mv (.inr ⟨o,q⟩) e b c;exact⟨a,f,r,⟨o,e.kept a _ q c b (by intro p z;cases z)⟩,m,n,j,oy.mv e d⟩
 |.adr _,_,h=>h
theorem oy.mv(e:Mv H X4 μ H' hid' f_):∀{ds:List D}{vs:List V},oy K H X4 μ ds vs->oy K H' hid' f_ ds vs
 |[],_,h=>h
 | d::ds,vs,h=>by
  unfold oy at h ⊢;obtain⟨v,r,a,b,c⟩:=h;exact⟨v,r,a,X6.mv e b,oy.mv e c⟩
end
def X6.ext(e:Ext H μ H' f_)(h:X6 K H X4 μ d v):X6 K H' X4 f_ d v:=h.mv e.mv
def oy.ext(e:Ext H μ H' f_)(h:oy K H X4 μ ds vs):oy K H' X4 f_ ds vs:=h.mv e.mv
def oz.mv(h:oz K H X4 μ σ d_)(e:Mv H X4 μ H' hid' f_):oz K H' hid' f_ σ d_:=
 ⟨h.len,λi d q=>let ⟨v,a,b⟩:=h.at_ i d q;⟨v,a,b.mv e⟩⟩
def oz.ext(h:oz K H X4 μ σ d_)(e:Ext H μ H' f_):oz K H' X4 f_ σ d_:=h.mv e.mv
def oz.set(h:oz K H X4 μ σ d_)(q:X6 K H X4 μ d v)(i:Nat):oz K H X4 μ (σ.set i (XV d)) (d_.set i (XV v)):=by
 refine⟨by simp[h.len],λj x e=>?_⟩;by_cases c:i=j
 ·subst c;have f:i<σ.length:=by have:=(aq.mp e).1;simpa using this
  rw[bA f] at e;cases e;exact⟨v,by rw[bA (by rw[<- h.len];exact f)],q⟩
 ·rw[br c] at e;obtain⟨w,a,b⟩:=h.at_ j x e;exact⟨w,by rw[br c];exact a,b⟩
theorem oy.length:∀{ds:List D}{vs:List V},oy K H X4 μ ds vs->ds.length=vs.length
 |[],_,h=>by unfold oy at h;subst h;rfl
 | d::ds,vs,h=>by
  unfold oy at h;obtain⟨v,r,rfl,_,a⟩:=h;simp[oy.length a]
def oy.nil:oy K H X4 μ [] []:=by unfold oy;rfl
def oy.cons(h:X6 K H X4 μ d v)(t:oy K H X4 μ ds vs):oy K H X4 μ (d::ds) (v::vs):=by unfold oy;exact⟨v,vs,rfl,h,t⟩
theorem oy.append:∀{ds a:List D}{vs b:List V},oy K H X4 μ ds vs->oy K H X4 μ a b->oy K H X4 μ (ds++a) (vs++b)
 |[],_,_,_,h,t=>by unfold oy at h;subst h;exact t
 | d::ds,a,vs,b,h,t=>by
  unfold oy at h;obtain⟨v,r,rfl,c,e⟩:=h;exact .cons c (oy.append e t)
theorem oy.get:∀{ds:List D}{vs:List V}{i:Nat}{d:D},oy K H X4 μ ds vs->ds[i]?=XV d->∃v,vs[i]?=XV v/\X6 K H X4 μ d v
 |[],_,_,_,_,e=>by simp at e
 | d::ds,vs,0,x,h,e=>by
  unfold oy at h;obtain⟨v,r,rfl,c,f⟩:=h;simp at e;subst e;exact⟨v,by simp,c⟩
 | d::ds,vs,i+1,x,h,e=>by
  unfold oy at h;obtain⟨v,r,rfl,c,f⟩:=h;obtain⟨z,a,b⟩:=oy.get (i:=i) f (by simpa using e);exact⟨z,by simpa using a,b⟩
theorem oy.take:∀{ds:List D}{vs:List V}(n:Nat),oy K H X4 μ ds vs->oy K H X4 μ (ds.take n) (vs.take n)
 |_,_,0,_=>by simpa using oy.nil
 |[],_,n+1,h=>by unfold oy at h;subst h;simpa using oy.nil
 | d::ds,vs,n+1,h=>by
  unfold oy at h;obtain⟨v,r,rfl,a,b⟩:=h;simpa using oy.cons a (oy.take n b)
theorem oy.drop:∀{ds:List D}{vs:List V}(n:Nat),oy K H X4 μ ds vs->oy K H X4 μ (ds.drop n) (vs.drop n)
 |_,_,0,h=>by simpa using h
 |[],_,n+1,h=>by unfold oy at h;subst h;simpa using oy.nil
 | d::ds,vs,n+1,h=>by
  unfold oy at h;obtain⟨v,r,rfl,b,a⟩:=h;simpa using oy.drop n a
theorem oy.set(q:X6 K H X4 μ d v):∀{ds:List D}{vs:List V}(i:Nat),oy K H X4 μ ds vs->oy K H X4 μ (ds.set i d) (vs.set i v)
 |[],_,i,h=>by unfold oy at h;subst h;simpa using oy.nil
 | x::ds,vs,0,h=>by
  unfold oy at h;obtain⟨w,r,rfl,b,a⟩:=h;simpa using oy.cons q a
 | x::ds,vs,i+1,h=>by
  unfold oy at h;obtain⟨w,r,rfl,b,a⟩:=h;simpa using oy.cons b (oy.set q i a)
theorem oy.rev:∀{ds:List D}{vs:List V},oy K H X4 μ ds vs->oy K H X4 μ ds.reverse vs.reverse
 |[],_,h=>by unfold oy at h;subst h;simpa using oy.nil
 | d::ds,vs,h=>by
  unfold oy at h;obtain⟨v,r,rfl,a,b⟩:=h;simpa using oy.append (oy.rev b) (.cons a .nil)
def xg(b:ab)(h:H b≠X9):upd H p o b≠X9:=by
 by_cases e:b=p
 ·subst e;rw[rA];simp
 ·rw[qf e];exact h
def Ext.laid(h:H p=X9):Ext H μ (upd H p o) μ:=
 ⟨⟨[],by simp⟩,λb u e _ _=>by rw[qf (sk e h)];exact e,λ_ m=>.inl m,xg,λ_ t=>t.upd (.inl h)⟩
def ou.laid(c:ou K H X4 μ O)(h:H p=X9):ou K (upd H p o) X4 μ O:=by
 refine⟨c.len,c.nd,c.nh,λa m=>?_,λk a e=>?_⟩
 ·by_cases q:a=p
  ·subst q;rw[rA];simp
  ·rw[qf q];exact c.ht a m
 ·obtain⟨d,f,g,b,i⟩:=c.at_ k a e;exact⟨d,f,g,by rw[qf (sk b h)];exact b,i.ext (.laid h)⟩
def ou.not_in(c:ou K H X4 μ O)(h:H p=X9):p∉X4/\p∉μ:=by refine⟨λm=>c.ht p m h,λm=>?_⟩;obtain⟨k,b,e⟩:=dq.mp m;obtain⟨d,f,_,a,_⟩:=c.at_ k p (by rw[aq];exact⟨b,e⟩);rw[h] at a;cases a
def X6.newL(c:ou K H X4 μ O)(h:H p=X9)(q:oy K H X4 μ ds vs):X6 K (upd H p (.lst vs)) X4 μ (.lst ds) (.ref p):=by unfold X6;exact⟨p,vs,rfl,.inl ⟨.inl rA,c.not_in h⟩,q.ext (.laid h)⟩
def X6.newT(c:ou K H X4 μ O)(h:H p=X9)(q:oy K H X4 μ ds vs):X6 K (upd H p (.tup vs)) X4 μ (.tup ds) (.ref p):=by unfold X6;exact⟨p,vs,rfl,.inl ⟨.inl rA,c.not_in h⟩,q.ext (.laid h)⟩
def Ext.cell(h:H p=X9):Ext H μ (upd H p o) (μ++[p]):=
 ⟨⟨[p],rfl⟩,λb u e _ _=>by rw[qf (sk e h)];exact e,λb m=>by
  rcases aH.mp m with m|m
  ·exact .inl m
  ·have:b=p:=by simpa using m
   subst this;exact .inr h,xg,λ_ t=>t.upd (.inl h)⟩
def ou.cell(c:ou K H X4 μ O)(h:H p=X9)(q:oy K H X4 μ ds vs):ou K (upd H p (.lst vs)) X4 (μ++[p]) (O++[ds]):=by
 have d:=c.not_in h;refine⟨by simp[c.len],?_,λa m=>?_,λa m=>?_,λk a e=>?_⟩
 ·rw[dF];refine⟨c.nd,by simp,λa i b j=>?_⟩;have:b=p:=by simpa using j
  subst this;rintro rfl;exact d.2 i
 ·rcases aH.mp m with m|m
  ·exact c.nh a m
  ·have:a=p:=by simpa using m
   subst this;exact d.1
 ·by_cases q:a=p
  ·subst q;rw[rA];simp
  ·rw[qf q];exact c.ht a m
 ·by_cases f:k<μ.length
  ·rw[aG f] at e;obtain⟨l,n,o,g,r⟩:=c.at_ k a e;exact⟨l,n,by rw[aG (by rw[<- c.len];exact f)];exact o,by rw[qf (sk g h)];exact g,r.ext (.cell h)⟩
  ·rw[bq 'd'] at e;have s:k-μ.length=0:=by
    have:=(aq.mp e).1;simp at this;lia
   rw[s] at e;simp at e;subst e;refine⟨ds,vs,?_,rA,q.ext (.cell h)⟩;have:k=O.length:=by have:=c.len;lia
   subst this;simp
def Ext.put(h:p∈μ)(a:∃vs,H p=XV (.lst vs)):Ext H μ (upd H p o) μ:=
 ⟨⟨[],by simp⟩,λb u e n _=>by rw[qf (by rintro rfl;exact n h)];exact e,λ_ m=>.inl m,xg,λ_ t=>t.upd (.inr a)⟩
def ou.put(c:ou K H X4 μ O)(b:μ[k]?=XV p)(q:oy K H X4 μ ds vs):ou K (upd H p (.lst vs)) X4 μ (O.set k ds):=by
 have g:p∈μ:=aN b;have h:∃vs,H p=XV (.lst vs):=let ⟨_,vs,_,d,_⟩:=c.at_ k p b;⟨vs,d⟩;refine⟨by simp[c.len],c.nd,c.nh,λa m=>?_,λj a e=>?_⟩
 ·by_cases q:a=p
  ·subst q;rw[rA];simp
  ·rw[qf q];exact c.ht a m
 ·by_cases f:j=k
  ·subst f;rw[b] at e;cases e;refine⟨ds,vs,?_,rA,q.ext (.put g h)⟩;rw[bA (by rw[<- c.len];exact(aq.mp b).1)]
  ·have l:a≠p:=by
    rintro rfl;obtain⟨i,n⟩:=aq.mp e;obtain⟨d,o⟩:=aq.mp b;exact f ((jS c.nd).mp (n.trans o.symm))
   obtain⟨r,s,i,d,t⟩:=c.at_ j a e;exact⟨r,s,by rw[br (cS f)];exact i,by rw[qf l];exact d,t.ext (.put g h)⟩
end
section
variable(Ex:Nat->Hp->Prop)(K:ah)
def post{α β:Type}(rel:Hp->List ab->α->β->Prop)(H:Hp)(X4 μ:List ab)(r:R α)(Q:β->Hp->Prop):Prop:=match r with
 |.ok d O'=>∀v H' f_,Ext H μ H' f_->ou K H' X4 f_ O'->rel H' f_ d v->Q v H'
 |.exc c O'=>∀H' f_,Ext H μ H' f_->ou K H' X4 f_ O'->Ex c H'
 |.bad=>False
abbrev q9(H:Hp)(X4 μ:List ab)(r:R D)(Q:VK):Prop:=post Ex K (λH' f_ d v=>X6 K H' X4 f_ d v) H X4 μ r Q
abbrev wX(H:Hp)(X4 μ:List ab)(r:R Bool)(Q:Bool->Hp->Prop):Prop:=post Ex K (λ_ _ d v=>d=v) H X4 μ r Q
abbrev NC(H:Hp)(X4 μ:List ab)(r:R (List D))(Q:List V->Hp->Prop):Prop:=post Ex K (λH' f_ d v=>oy K H' X4 f_ d v) H X4 μ r Q
def rd(t:DE):TE:=λd_ H Q=>∃X4 μ σ O,oz K H X4 μ σ d_/\ou K H X4 μ O/\q9 Ex K H X4 μ (t σ O) Q
def xj(t:DT):TT:=λd_ H Q=>∃X4 μ σ O,oz K H X4 μ σ d_/\ou K H X4 μ O/\wX Ex K H X4 μ (t σ O) Q
def uN(t:DA):TA:=λd_ H Q=>∃X4 μ σ O,oz K H X4 μ σ d_/\ou K H X4 μ O/\NC Ex K H X4 μ (t σ O) Q
end
section
variable{Ex:Nat->Hp->Prop}{K:ah}{H H1:Hp}{X4 μ g_:List ab}
def post.ext{α i:Type}{a:Hp->List ab->α->i->Prop}{r:R α}{Q:i->Hp->Prop}(h:post Ex K a H X4 μ r Q)(e:Ext H μ H1 g_):post Ex K a H1 X4 g_ r Q:=by
 cases r with
 |ok d O'=>exact λv b f g c q=>h v b f (e.trans g) c q
 |exc c O'=>exact λb f g c=>h b f (e.trans g) c
 |bad=>exact h
def post.bnd{α f g i:Type}{a:Hp->List ab->α->f->Prop}{b:Hp->List ab->g->i->Prop}{r:R α}{k:α->Ow->R g}{Q:i->Hp->Prop}{Q1:f->Hp->Prop}
  (h:post Ex K b H X4 μ (r.bnd k) Q)
  (j:∀d O1 v H1 g_,Ext H μ H1 g_->ou K H1 X4 g_ O1->a H1 g_ d v->post Ex K b H1 X4 g_ (k d O1) Q->Q1 v H1):post Ex K a H X4 μ r Q1:=by
 cases r with
 |ok d O'=>exact λv l m e c q=>j d O' v l m e c q (post.ext (show post Ex K b H X4 μ (k d O') Q from h) e)
 |exc c O'=>exact h
 |bad=>exact h
def post.ok{α f:Type}{a:Hp->List ab->α->f->Prop}{d:α}{O:Ow}{Q:f->Hp->Prop}{v:f}(h:post Ex K a H X4 μ (.ok d O) Q){H':Hp}{b:List ab}(e:Ext H μ H' b)(c:ou K H' X4 b O)(q:a H' b d v):Q v H':=h v H' b e c q
def post.here{α b:Type}{a:Hp->List ab->α->b->Prop}{d:α}{O:Ow}{Q:b->Hp->Prop}{v:b}(h:post Ex K a H X4 μ (.ok d O) Q)(c:ou K H X4 μ O)(q:a H μ d v):Q v H:=h v H μ .refl c q
end
structure PD(X:Cx)(Ex:Nat->Hp->Prop)(e:aR)(t:DE):Prop where
 out:PE X e (rd Ex X.K t)
structure qZ(X:Cx)(Ex:Nat->Hp->Prop)(e:aR)(t:DT):Prop where
 out:PT X e (xj Ex X.K t)
structure uc(X:Cx)(Ex:Nat->Hp->Prop)(es:List aR)(t:DA):Prop where
 out:PA X es (uN Ex X.K t)
def PE.imp(h:PE X e t)(f:∀σ H Q,t' σ H Q->t σ H Q):PE X e t':=λa s σ H Q I q=>h a s σ H Q I (f σ H Q q)
def PT.imp(h:PT X e t)(f:∀σ H Q,t' σ H Q->t σ H Q):PT X e t':=λa s σ H Q I q=>h a s σ H Q I (f σ H Q q)
def PA.imp(h:PA X e t)(f:∀σ H Q,t' σ H Q->t σ H Q):PA X e t':=λb a s σ H Q I q=>h b a s σ H Q I (f σ H Q q)
def PW.imp(h:PW X e t)(f:∀σ H Q,t' σ H Q->t σ H Q):PW X e t':=λw a s σ H Q I q=>h w a s σ H Q I (f σ H Q q)
end DL
namespace DL
open PySem L2
def a_(i:Nat):DE:=λσ O=>match σ[i]? with
 |some (XV d)=>.ok d O
 |_=>.bad
def dC(d:D):DE:=λ_ O=>.ok d O
section
variable{X:Cx}{Ex:Nat->Hp->Prop}{pos:Pos}{a b c:aR}{ta tb tc:DE}
def r9{e:aR}{t:TE}{t':DE}(h:PE X e t)(f:∀X4 μ σ O d H Q,oz X.K H X4 μ σ d->ou X.K H X4 μ O->q9 Ex X.K H X4 μ (t' σ O) Q->t d H Q):PD X Ex e t':=
 ⟨PE.imp h λd H Q ⟨X4,μ,σ,O,g,i,q⟩=>f X4 μ σ O d H Q g i q⟩
def Gj{e:aR}{t:TT}{t':DT}(h:PT X e t)(f:∀X4 μ σ O d H Q,oz X.K H X4 μ σ d->ou X.K H X4 μ O->wX Ex X.K H X4 μ (t' σ O) Q->t d H Q):qZ X Ex e t':=
 ⟨PT.imp h λd H Q ⟨X4,μ,σ,O,g,i,q⟩=>f X4 μ σ O d H Q g i q⟩
def NZ(h:PA X e t)(f:∀X4 μ σ O d H Q,oz X.K H X4 μ σ d->ou X.K H X4 μ O->NC Ex X.K H X4 μ (t' σ O) Q->t d H Q):uc X Ex e t':=
 ⟨PA.imp h λd H Q ⟨X4,μ,σ,O,g,i,q⟩=>f X4 μ σ O d H Q g i q⟩
def rd.go{i j:Type}{l:Hp->List ab->i->j->Prop}{t:DE}{X4 μ:List ab}{σ:Sg}{O:Ow}{h:St}{H:Hp}{Q1:VK}{k:D->Ow->R i}{Q:j->Hp->Prop}(m:oz X.K H X4 μ σ h)(n:ou X.K H X4 μ O)
  (q:post Ex X.K l H X4 μ ((t σ O).bnd k) Q)
  (f:∀d O1 v e g,oz X.K e X4 g σ h->Ext H μ e g->ou X.K e X4 g O1->X6 X.K e X4 g d v->post Ex X.K l e X4 g (k d O1) Q->Q1 v e):rd Ex X.K t h H Q1:=
 ⟨X4,μ,σ,O,m,n,post.bnd q λd O1 v e g x c r p=>f d O1 v e g (m.ext x) x c r p⟩
def xj.go{i j:Type}{l:Hp->List ab->i->j->Prop}{t:DT}{X4 μ:List ab}{σ:Sg}{O:Ow}{h:St}{H:Hp}{Q1:Bool->Hp->Prop}{k:Bool->Ow->R i}{Q:j->Hp->Prop}(m:oz X.K H X4 μ σ h)(n:ou X.K H X4 μ O)
  (q:post Ex X.K l H X4 μ ((t σ O).bnd k) Q)
  (f:∀v O1 e g,oz X.K e X4 g σ h->Ext H μ e g->ou X.K e X4 g O1->post Ex X.K l e X4 g (k v O1) Q->Q1 v e):xj Ex X.K t h H Q1:=
 ⟨X4,μ,σ,O,m,n,post.bnd q λd O1 v e g x c r p=>by
  have r:d=v:=r;subst r;exact f d O1 e g (m.ext x) x c p⟩
def uN.go{i j:Type}{l:Hp->List ab->i->j->Prop}{t:DA}{X4 μ:List ab}{σ:Sg}{O:Ow}{h:St}{H:Hp}{Q1:List V->Hp->Prop}{k:List D->Ow->R i}{Q:j->Hp->Prop}(m:oz X.K H X4 μ σ h)(n:ou X.K H X4 μ O)
  (q:post Ex X.K l H X4 μ ((t σ O).bnd k) Q)
  (f:∀d O1 v e g,oz X.K e X4 g σ h->Ext H μ e g->ou X.K e X4 g O1->oy X.K e X4 g d v->post Ex X.K l e X4 g (k d O1) Q->Q1 v e):uN Ex X.K t h H Q1:=
 ⟨X4,μ,σ,O,m,n,post.bnd q λd O1 v e g x c r p=>f d O1 v e g (m.ext x) x c r p⟩
def Wi(f:X.N[i]?=XV x)(g:u6 X.env.scope x)(e:(x==("__debug__":Str))=Y1:=by decide)(h:(x==("__classdict__":Str))=Y1:=by decide):PD X Ex (.Name x pos) (a_ i):=
 r9 (IT f g e h) λj o p O r H Q k l q=>by
  unfold a_ at q;split at q
  ·rename_i d e;obtain⟨v,m,n⟩:=k.at_ i d e;exact⟨v,m,post.here q l n⟩
  ·exact ak q
def WC:PD X Ex (.Constant (.int i) j pos) (dC (.int i)):=r9 V4 λd f g O h H Q k e q=>post.here q e (by unfold X6;rfl)
def Ur:PD X Ex (.Constant (.bool i) j pos) (dC (.bl i)):=r9 UN λd f g O h H Q k e q=>post.here q e (by unfold X6;rfl)
def WB:PD X Ex (.Constant .none j pos) (dC .non):=r9 VB λd f g O h H Q i e q=>post.here q e (by unfold X6;rfl)
def VQ(cs:List Nat)(h:x=⟨cs.toArray⟩):PD X Ex (.Constant (.str x) j pos) (dC (.str cs)):=r9 Wq λd f g O i H Q k e q=>post.here q e (by unfold X6;rw[h])
def Z4(cs:List Nat)(d:Gl X x)(e:X.mg x=XV (.str y t))(h:y=⟨cs.toArray⟩)(f:(x==("__debug__":Str))=Y1:=by decide):PD X Ex (.Name x pos) (dC (.str cs)):=
 r9 (Jv (v:=.str y) d e ⟨t,rfl⟩ f) λg j k O l H Q m i q=>post.here q i (by unfold X6;rw[h])
def e_(f:Ow->D->D->R D)(ta tb:DE):DE:=λσ O=>(ta σ O).bnd λx O1=>(tb σ O1).bnd λy O2=>f O2 x y
def rZ(X:Cx)(Ex:Nat->Hp->Prop)(r:R2)(f:Ow->D->D->R D):Prop:=∀(H:Hp)(X4 μ:List ab)(O:Ow)(x y:D)(v w:V)(Q:VK),ou X.K H X4 μ O->X6 X.K H X4 μ x v->X6 X.K H X4 μ y w->q9 Ex X.K H X4 μ (f O x y) Q->r v w H Q
def Gs{r:R2}{f:Ow->D->D->R D}(h:rZ X Ex r f)(X4 μ:List ab)(σ:Sg)(O:Ow)(d:St)(H:Hp)(Q:VK)(e:oz X.K H X4 μ σ d)(g:ou X.K H X4 μ O)(q:q9 Ex X.K H X4 μ (e_ f ta tb σ O) Q):
  Ee r (rd Ex X.K ta) (rd Ex X.K tb) d H Q:=
 rd.go e g q λx z v A B i C j k l=>rd.go i j l λy m w n o E p s t u=>h n X4 o m x y v w Q s (k.ext p) t u
def yj(d:qB X (dS op) r)(h:rZ X Ex r f)(e:PD X Ex a ta)(g:PD X Ex b tb):PD X Ex (.BinOp a op b pos) (e_ f ta tb):=
 r9 (UM d e.out g.out) (Gs h)
def yT(d:qB X (cm op) r)(h:rZ X Ex r f)(e:PD X Ex a ta)(g:PD X Ex b tb)(i:behindInMarks op b=Y1):PD X Ex (.Compare a [op] [b] pos) (e_ f ta tb):=
 r9 (Yr d e.out g.out i) (Gs h)
def pQ(t:DE):DT:=λσ O=>(t σ O).bnd λx O1=>match x with
 |.bl k=>.ok k O1
 |_=>.bad
def PV(f:∀X4 μ σ O e H Q,oz X.K H X4 μ σ e->ou X.K H X4 μ O->q9 Ex X.K H X4 μ (td σ O) Q->t e H Q)(X4 μ:List ab)(σ:Sg)(O:Ow)(e:St)(H:Hp)(Q:Bool->Hp->Prop)
  (g:oz X.K H X4 μ σ e) (h:ou X.K H X4 μ O) (q:wX Ex X.K H X4 μ (pQ td σ O) Q):Nh t e H Q:=by
 refine f X4 μ σ O e H _ g h ?_;refine post.bnd q λd i v j l x c r p=>?_;cases d with
 | bl k=>
  have r:v=.bl k:=by unfold X6 at r;exact r
  exact⟨k,r,post.here p c rfl⟩
 |_=>exact ak p
def zX(d:qB X (cm op) r)(h:rZ X Ex r f)(e:PD X Ex a ta)(g:PD X Ex b tb)(i:behindInMarks op b=Y1):qZ X Ex (.Compare a [op] [b] pos) (pQ (e_ f ta tb)):=
 Gj (Yc d e.out g.out i) (PV (Gs h))
noncomputable def CP(O:Ow):D->R Bool
 |.non=>.ok Y1 O
 |.bl b=>.ok b O
 |.int i=>.ok (i !=0) O
 |.str cs=>if cs.length<=4000000 then .ok (!cs.isEmpty) O else .bad
 |.lst ds=>.ok (!ds.isEmpty) O
 |.tup ds=>.ok (!ds.isEmpty) O
 | .own k=>match O[k]? with
  |some ds=>.ok (!ds.isEmpty) O
  |none=>.bad
 |.dct=>.bad
 |.exn _=>.bad
 |.tab _=>.bad
 |.map _ _=>.bad
 |.adr _=>.bad
def qP(t:DE):DT:=λσ O=>(t σ O).bnd λx O1=>CP O1 x
def yq{n:Nat}(h:n<=4000000):n<=KB:=aE h 'u'
def KH{K:ah}{H:Hp}{X4 μ:List ab}{ds:List D}{vs:List V}(h:oy K H X4 μ ds vs):(!ds.isEmpty) = !vs.isEmpty:=by have e:=h.length;cases ds<;>cases vs<;>simp_all
def Xz(u:PD X Ex a ta)(w:∀t,isTrue a X.env t=(do let v <- t;standAt a.pos;holding [v] (truthy v))):qZ X Ex a (qP ta):=
 Gj (ZV u.out w) λf E F O G H Q y z q=>rd.go y z q λd h v i j I x c r p=>by
  cases d with
  |non=>unfold X6 at r;subst r;exact⟨_,rfl,post.here p c rfl⟩
  |bl b=>unfold X6 at r;subst r;exact⟨_,rfl,post.here p c rfl⟩
  |int b=>unfold X6 at r;subst r;exact⟨_,rfl,post.here p c rfl⟩
  | str cs=>
   unfold X6 at r;subst r;by_cases o:cs.length<=4000000
   ·have s:wX Ex X.K i f j (.ok (!cs.isEmpty) h) Q:=by
     have g:wX Ex X.K i f j (if cs.length<=4000000 then .ok (!cs.isEmpty) h else .bad) Q:=p;rw[Y2 o] at g;exact g
    refine⟨_,⟨?_,rfl⟩,?_⟩
    ·show cs.toArray.size<=_;rw[aF];exact yq o
    ·have e:(((⟨cs.toArray⟩:Str).length:Int) !=0) = !cs.isEmpty:=by
      show((cs.toArray.size:Int) !=0)=_;rw[aF];cases cs<;>simp[bne];lia
     rw[e];exact post.here s c rfl
   ·have g:wX Ex X.K i f j (if cs.length<=4000000 then .ok (!cs.isEmpty) h else .bad) Q:=p;rw[Z5 o] at g;exact ak g
  | lst m=>
   unfold X6 at r;obtain⟨a,n,rfl,l,q⟩:=r;exact⟨_,.inl ⟨n,l.sq,rfl⟩,by rw[<- KH q];exact post.here p c rfl⟩
  | tup m=>
   unfold X6 at r;obtain⟨a,n,rfl,l,q⟩:=r;exact⟨_,.inr (.inl ⟨n,l.sq,rfl⟩),by rw[<- KH q];exact post.here p c rfl⟩
  | own k=>
   unfold X6 at r;obtain⟨a,rfl,A⟩:=r;obtain⟨m,n,B,C,D⟩:=c.at_ k a A;have s:wX Ex X.K i f j (.ok (!m.isEmpty) h) Q:=by
    have g:wX Ex X.K i f j (match h[k]? with|some m=>.ok (!m.isEmpty) h|none=>.bad) Q:=p;rw[B] at g;exact g
   exact⟨_,.inl ⟨n,.of C,rfl⟩,by rw[<- KH D];exact post.here s c rfl⟩
  |dct=>exact ak p
  |exn _=>exact ak p
  |tab _=>exact ak p
  |map _ _=>exact ak p
  |adr _=>exact ak p
noncomputable def fI(g:Int->Int->Option D):Ow->D->D->R D:=λO x y=>match x,y with
 | .int i,.int j=>match g i j with
  |some d=>.ok d O
  |none=>.bad
 |_,_=>.bad
def Dg(h:∀i j d,g i j=XV d->C i j/\∀K H X4 μ,X6 K H X4 μ d (gv i j)):rZ X Ex (rI C gv) (fI g):=by
 intro H X4 μ O x y v w Q c e f q;unfold fI at q;split at q
 ·rename_i i j;unfold X6 at e f;subst e;subst f;split at q
  ·rename_i d k;obtain⟨l,m⟩:=h i j d k;exact⟨i,j,rfl,rfl,l,post.here q c (m _ _ _ _)⟩
  ·exact ak q
 ·exact ak q
def AS(h:∀i j d,g i j=XV d->∀K H X4 μ,X6 K H X4 μ d (gv i j)):rZ X Ex (t6 gv) (fI g):=by
 intro H X4 μ O x y v w Q c e f q;unfold fI at q;split at q
 ·rename_i i j;unfold X6 at e f;subst e;subst f;split at q
  ·rename_i d k;exact⟨i,j,rfl,rfl,post.here q c (h i j d k _ _ _ _)⟩
  ·exact ak q
 ·exact ak q
def sR:X6 K H X4 μ (.int i) (.int i):=by unfold X6;rfl
def uA{K H X4 μ}{i:Bool}:X6 K H X4 μ (.bl i) (.bl i):=by unfold X6;rfl
def Gw:X6 K H X4 μ .non .non:=by unfold X6;rfl
def JA:X6 K H X4 μ (.str cs) (.str ⟨cs.toArray⟩):=by unfold X6;rfl
def gB(p:Int->Int->Bool):Int->Int->Option D:=λi j=>XV (.bl (p i j))
noncomputable def gI(p:Int->Int->Int):Int->Int->Option D:=λi j=>XV (.int (p i j))
def xy:Int->Int->Option D:=gI λi j=>i-j
noncomputable def uJ:Int->Int->Option D:=λi j=>if (-1000000000000000<i/\i<1000000000000000)\/(-1000000000000000<j/\j<1000000000000000) then XV (.int (i*j)) else X9
def wa:Int->Int->Option D:=λi j=>if 0<j/\j<1073741824 then XV (.int (i/j)) else X9
def tO:Int->Int->Option D:=λi j=>if 0<j then XV (.int (i%j)) else X9
def xr:Int->Int->Option D:=λi j=>if 0<=j/\j<=1000000/\i.natAbs<2 ^ 64 then XV (.int (i ^ j.toNat)) else X9
def s_:Int->Int->Option D:=λi j=>if 0<=j/\j<=1000000/\i.natAbs<2 ^ 64 then XV (.int (i*2 ^ j.toNat)) else X9
def Ys:rZ X Ex (t6 λi j=>.int (i-j)) (fI xy):=AS λi j d h _ _ _ _=>by cases h;exact sR
def Yx:rZ X Ex (rI pF λi j=>.int (i*j)) (fI uJ):=Dg λi j d h=>by
 unfold uJ at h;split at h
 ·rename_i e;cases h;exact⟨e.imp (λz=>⟨by lia,by lia⟩) λz=>⟨by lia,by lia⟩,λ_ _ _ _=>sR⟩
 ·cases h
def XE:rZ X Ex (rI MS λi j=>.int (i/j)) (fI wa):=Dg λi j d h=>by
 unfold wa at h;split at h
 ·rename_i e;cases h;exact⟨e,λ_ _ _ _=>sR⟩
 ·cases h
def XM:rZ X Ex (rI (λ_ j=>0<j) λi j=>.int (i%j)) (fI tO):=Dg λi j d h=>by
 unfold tO at h;split at h
 ·rename_i e;cases h;exact⟨e,λ_ _ _ _=>sR⟩
 ·cases h
def XA:rZ X Ex (rI FZ λi j=>.int (i ^ j.toNat)) (fI xr):=Dg λi j d h=>by
 unfold xr at h;split at h
 ·rename_i e;cases h;exact⟨e,λ_ _ _ _=>sR⟩
 ·cases h
def Xq:rZ X Ex (rI FZ λi j=>.int (i*2 ^ j.toNat)) (fI s_):=Dg λi j d h=>by
 unfold s_ at h;split at h
 ·rename_i e;cases h;exact⟨e,λ_ _ _ _=>sR⟩
 ·cases h
def wJ:Ow->D->D->R D:=fI (gB λi j=>decide (i<j))
def Fs:Ow->D->D->R D:=fI (gB λi j=>decide (i<=j))
def Ft:Ow->D->D->R D:=fI (gB λi j=>decide (j<i))
def Bu:Ow->D->D->R D:=fI (gB λi j=>decide (j<=i))
def IZ:rZ X Ex (t6 λi j=>.bl (decide (i<j))) wJ:=AS λi j d h _ _ _ _=>by cases h;exact uA
def NY:rZ X Ex (t6 λi j=>.bl (decide (i<=j))) Fs:=AS λi j d h _ _ _ _=>by cases h;exact uA
def N5:rZ X Ex (t6 λi j=>.bl (decide (j<i))) Ft:=AS λi j d h _ _ _ _=>by cases h;exact uA
def NM:rZ X Ex (t6 λi j=>.bl (decide (j<=i))) Bu:=AS λi j d h _ _ _ _=>by cases h;exact uA
def II:D->Bool
 |.non=>YP
 |_=>Y1
def Iu:Ow->D->D->R D:=λO x y=>match y with
 |.non=>.ok (.bl (II x)) O
 |_=>.bad
def Xr(h:X6 K H X4 μ x v):decide (v=.non)=II x:=by
 cases x with
 |non=>unfold X6 at h;subst h;rfl
 |bl _=>unfold X6 at h;subst h;rfl
 |int _=>unfold X6 at h;subst h;rfl
 |str _=>unfold X6 at h;subst h;rfl
 |lst _=>unfold X6 at h;obtain⟨_,_,rfl,_⟩:=h;rfl
 |tup _=>unfold X6 at h;obtain⟨_,_,rfl,_⟩:=h;rfl
 |own _=>unfold X6 at h;obtain⟨_,rfl,_⟩:=h;rfl
 |dct=>unfold X6 at h;obtain⟨_,rfl,_⟩:=h;rfl
 |exn _=>unfold X6 at h;obtain⟨_,_,rfl,_⟩:=h;rfl
 |tab _=>unfold X6 at h;obtain⟨rfl,_⟩:=h;rfl
 |map _ _=>unfold X6 at h;obtain⟨_,_,rfl,_⟩:=h;rfl
 |adr _=>unfold X6 at h;subst h;rfl
def WV:rZ X Ex (λx y H Q=>y=.non/\Q (.bl (decide (x=.non))) H) Iu:=by
 intro H d f O x y v w Q c g e q;cases y with
 | non=>
  unfold X6 at e;subst e;refine⟨rfl,?_⟩;rw[Xr g];exact post.here (show q9 Ex X.K H d f (.ok (.bl (II x)) O) Q from q) c uA
 |_=>exact ak q
def BD(t u:DE):DE:=λσ O=>(t σ O).bnd λx O1=>match x with
 |.bl YP=>u σ O1
 |.bl Y1=>.ok (.bl Y1) O1
 |_=>.bad
def By(t u:DE):DE:=λσ O=>(t σ O).bnd λx O1=>match x with
 |.bl YP=>.ok (.bl YP) O1
 |.bl Y1=>u σ O1
 |_=>.bad
def CM(t:DE):DE:=λσ O=>(t σ O).bnd λx O1=>match x with
 |.bl b=>.ok (.bl (!b)) O1
 |_=>.bad
def C1(t u:DT):DT:=λσ O=>(t σ O).bnd λx O1=>if x=YP then u σ O1 else .ok Y1 O1
def xv(t u:DT):DT:=λσ O=>(t σ O).bnd λx O1=>if x=YP then .ok YP O1 else u σ O1
def tG(t:DT):DT:=λσ O=>(t σ O).bnd λx O1=>.ok (!x) O1
def Wy(d:PD X Ex a ta):PD X Ex (.BoolOp op [a] pos) ta:=⟨Vz d.out⟩
def WK{e:List aR}(g:PD X Ex a ta)(h:PD X Ex (.BoolOp .And (b::e) pos) tb):PD X Ex (.BoolOp .And (a::b::e) pos) (BD ta tb):=
 r9 (UZ g.out h.out) λf s i O t H Q j l q=>rd.go j l q λd m v u n o x c r p=>by
  cases d with
  | bl k=>
   unfold X6 at r;subst r;refine⟨k,rfl,?_⟩;cases k with
   |true=>rw[Y2 rfl];exact⟨f,n,i,m,o,c,p⟩
   |false=>rw[Z5 ci];exact post.here p c uA
  |_=>exact ak p
def Ve{e:List aR}(g:PD X Ex a ta)(h:PD X Ex (.BoolOp .Or (b::e) pos) tb):PD X Ex (.BoolOp .Or (a::b::e) pos) (By ta tb):=
 r9 (UU g.out h.out) λf s i O t H Q j l q=>rd.go j l q λd m v u n o x c r p=>by
  cases d with
  | bl k=>
   unfold X6 at r;subst r;refine⟨k,rfl,?_⟩;cases k with
   |true=>rw[Y2 rfl];exact post.here p c uA
   |false=>rw[Z5 ci];exact⟨f,n,i,m,o,c,p⟩
  |_=>exact ak p
def Wl(e:PD X Ex a ta):PD X Ex (.UnaryOp .Not a pos) (CM ta):=
 r9 (Wu e.out) λf i j O l H Q g h q=>rd.go g h q λd m v n o s x c r p=>by
  cases d with
  |bl k=>unfold X6 at r;subst r;exact⟨k,rfl,post.here p c uA⟩
  |_=>exact ak p
structure v7(X:Cx)(Ex:Nat->Hp->Prop)(e:aR)(t:DT):Prop where
 out:PW X e (xj Ex X.K t)
def v7.pt(h:v7 X Ex e t):qZ X Ex e t:=⟨L2.PW.pt h.out⟩
def NX{e:aR}{t:TT}{t':DT}(h:PW X e t)(f:∀X4 μ σ O d H Q,oz X.K H X4 μ σ d->ou X.K H X4 μ O->wX Ex X.K H X4 μ (t' σ O) Q->t d H Q):v7 X Ex e t':=
 ⟨PW.imp h λd H Q ⟨X4,μ,σ,O,g,i,q⟩=>f X4 μ σ O d H Q g i q⟩
def YR{d:List aR}{f g:DT}(h:qZ X Ex a f)(i:v7 X Ex (.BoolOp .And (b::d) pos) g):v7 X Ex (.BoolOp .And (a::b::d) pos) (C1 f g):=
 NX (Vu h.out i.out) λe s j O t H Q l m q=>xj.go l m q λk n u o r x c p=>by
  cases k with
  |true=>rw[Y2 rfl];exact⟨e,o,j,n,r,c,p⟩
  |false=>rw[Z5 ci];exact post.here p c rfl
def Vo{d:List aR}{f g:DT}(h:qZ X Ex a f)(i:v7 X Ex (.BoolOp .Or (b::d) pos) g):v7 X Ex (.BoolOp .Or (a::b::d) pos) (xv f g):=
 NX (US h.out i.out) λe s j O t H Q l m q=>xj.go l m q λk n u o r x c p=>by
  cases k with
  |true=>rw[Y2 rfl];exact post.here p c rfl
  |false=>rw[Z5 ci];exact⟨e,o,j,n,r,c,p⟩
def zeC(d:qZ X Ex a tA):v7 X Ex (.BoolOp .And [a] pos) tA:=⟨Yj d.out⟩
def Y9(d:qZ X Ex a tA):v7 X Ex (.BoolOp .Or [a] pos) tA:=⟨Xc d.out⟩
def X_{d:DT}(e:qZ X Ex a d):qZ X Ex (.UnaryOp .Not a pos) (tG d):=
 Gj (WG e.out) λf i j O l H Q g h q=>xj.go g h q λk m n o r x c p=>post.here p c rfl
noncomputable def Jd(f g:Ow->D->D->R D)(ta tb tc:DE):DE:=λσ O=>(ta σ O).bnd λx O1=>(tb σ O1).bnd λy O2=>(f O2 x y).bnd λz O3=>match z with
 |.bl YP=>(tc σ O3).bnd λw O4=>g O4 y w
 |.bl Y1=>.ok (.bl Y1) O3
 |_=>.bad
def ZG{op e:CmpOp}{r i:R2}{f g:Ow->D->D->R D}(o:qB X (cm op) r)(h:rZ X Ex r f)(s:qB X (cm e) i)(h':rZ X Ex i g)(t:PD X Ex a ta)(A:PD X Ex b tb)(B:PD X Ex c tc)
  (C:lastMarks [op,e] [b,c]=Y1:=by with_unfolding_all rfl):PD X Ex (.Compare a [op,e] [b,c] pos) (Jd f g ta tb tc):=
 r9 (zeK o s t.out A.out B.out C) λd μ σ O d_ H Q E F q=>rd.go E F q λx O1 v H1 g_ G x2 I J K=>rd.go G I K λy L w M N P S T j U=>
  h M d N L x y v w _ T (J.ext S) j (post.bnd U λz O3 u H3 Ij l m n p=>by
   cases z with
   | bl k=>
    unfold X6 at n;subst n;refine⟨k,rfl,?_⟩;cases k with
    |true=>rw[Y2 rfl];exact rd.go (P.ext l) m p λV W Y Z TX e5 x5 c5 d5 q5=>h' Z d TX W y V w Y Q c5 ((j.ext l).ext x5) d5 q5
    |false=>rw[Z5 ci];exact post.here p m uA
   |_=>exact ak p)
def c_:DA:=λ_ O=>.ok [] O
def b_(t:DE)(u:DA):DA:=λσ O=>(t σ O).bnd λx O1=>(u σ O1).bnd λxs O2=>.ok (x::xs) O2
def YE:uc X Ex [] c_:=NZ Gi λd f g O h H Q i e q=>post.here q e .nil
def Zx{d:List aR}{t:DA}(e:PD X Ex a ta)(f:uc X Ex d t)(g:aS (a::d) X.env=(Y1,eval a X.env)::aS d X.env:=by rfl):uc X Ex (a::d) (b_ ta t):=
 NZ (Dj e.out f.out g) λh u z O A H Q i j q=>rd.go i j q λx B v C D k E l m n=>uN.go k l n λy F w G I J o p r s=>post.here s p (.cons (m.ext o) r)
def qR(t:DA):DE:=λσ O=>(t σ O).bnd λxs O1=>if xs.length<=4000000 then .ok (.tup xs) O1 else .bad
def qO(t:DA):DE:=λσ O=>(t σ O).bnd λxs O1=>if xs.length<=4000000 then .ok (.lst xs) O1 else .bad
def wY(t:DA):DE:=λσ O=>(t σ O).bnd λxs O1=>if xs.length<=4000000 then .ok (.own O1.length) (O1++[xs]) else .bad
def post.iteN{α e:Type}{K:ah}{H:Hp}{X4 μ:List ab}{d:Hp->List ab->α->e->Prop}{Q:e->Hp->Prop}{b:Bool}{r:R α}(h:post Ex K d H X4 μ (if b=YP then .bad else r) Q):b=Y1/\post Ex K d H X4 μ r Q:=by
 cases b with
 |true=>exact ak h
 |false=>exact⟨rfl,h⟩
def post.ite{α f:Type}{K:ah}{H:Hp}{X4 μ:List ab}{d:Hp->List ab->α->f->Prop}{Q:f->Hp->Prop}{c:Prop}[Decidable c]{r:R α}(h:post Ex K d H X4 μ (if c then r else .bad) Q):c/\post Ex K d H X4 μ r Q:=by
 by_cases e:c
 ·rw[Y2 e] at h;exact⟨e,h⟩
 ·rw[Z5 e] at h;exact ak h
def VJ(h:uc X Ex es t):PD X Ex (.Tuple es x1 pos) (qR t):=
 r9 (Wv h.out) λi m n O o H Q j k q=>uN.go j k q λr s u v w x y f g d=>by
  obtain⟨l,d⟩:=post.ite d;exact⟨by rw[<- g.length];exact yq l,λp e=>post.ok d (.laid e) (f.laid e) (X6.newT f e g)⟩
def Wn(h:uc X Ex es t):PD X Ex (.List es pos) (qO t):=
 r9 (NL h.out) λi m n O o H Q j k q=>uN.go j k q λr s u v w x y f g d=>by
  obtain⟨l,d⟩:=post.ite d;exact⟨by rw[<- g.length];exact yq l,λp e=>post.ok d (.laid e) (f.laid e) (X6.newL f e g)⟩
def Hc(h:μ.length=n):X6 K H X4 (μ++[p]) (.own n) (.ref p):=by unfold X6;exact⟨p,rfl,by rw[<- h];simp⟩
def XQ(h:uc X Ex es t):PD X Ex (.List es pos) (wY t):=
 r9 (NL h.out) λi m n O o H Q j k q=>uN.go j k q λr s u v w x y e f d=>by
  obtain⟨l,d⟩:=post.ite d;exact⟨by rw[<- f.length];exact yq l,λp g=>post.ok d (.cell g) (e.cell g f) (Hc e.len)⟩
end
inductive Src where
 |val (ds:List D)
 |own (k:Nat)
 |zip (a b:Src)
 deriving Inhabited
noncomputable def Src.get:Src->Ow->Nat->Option D
 |.val ds,_,i=>ds[i]?
 | .own k,O,i=>match O[k]? with
  |some ds=>ds[i]?
  |none=>X9
 | .zip a b,O,i=>match a.get O i,b.get O i with
  |some x,XV y=>XV (.tup [x,y])
  |_,_=>X9
noncomputable def Src.size:Src->Ow->Nat
 |.val ds,_=>ds.length
 | .own k,O=>match O[k]? with
  |some ds=>ds.length
  |none=>0
 |.zip a b,O=>min (a.size O) (b.size O)
abbrev DI:=Sg->Ow->R Src
def oG(K:ah)(J:It)(src:Src)(H:Hp)(X4 μ:List ab):Prop:=∀hid' H' f_ O',Mv H X4 μ H' hid' f_->ou K H' hid' f_ O'->∀i,
 match src.get O' i with
 |some d=>J.go i H'/\∀x tM,J.yld i H' x tM->Ext H' f_ tM f_/\ou K tM hid' f_ O'/\X6 K tM hid' f_ d x
 |none=>J.stop i H'
noncomputable def rdI(Ex:Nat->Hp->Prop)(K:ah)(t:DI):TI:=λd_ H Rr=>∃X4 μ σ O,oz K H X4 μ σ d_/\ou K H X4 μ O/\post Ex K (λH' f_ s J=>oG K J s H' X4 f_) H X4 μ (t σ O) Rr
structure sZ(X:Cx)(Ex:Nat->Hp->Prop)(tg iter:aR)(t:DI):Prop where
 out:PI X tg iter (rdI Ex X.K t)
def oG.mv(h:oG K J src H X4 μ)(e:Mv H X4 μ H1 wH g_):oG K J src H1 wH g_:=
 λa b d f m c=>h a b d f (e.trans m) c
def oG.val(l:LstAt K H X4 μ a vs)(q:oy K H X4 μ ds vs):oG K (Mx K a) (.val ds) H X4 μ:=by
 intro f k n o m c i;have b:=(l.mv m).sq;have h:=q.mv m;show match ds[i]? with|some d=>_|none=>_
 cases e:ds[i]? with
 | some d=>
  obtain⟨v,g,j⟩:=h.get e;refine⟨⟨vs,v,b,g⟩,λx p y=>?_⟩;obtain⟨rfl,y⟩:=y;have:=y vs b;rw[g] at this;cases this;exact⟨.refl,c,j⟩
 | none=>
  refine⟨vs,b,?_⟩;have:=aT.mp e;rw[<- q.length];exact this
def oG.tup(l:TupAt K H X4 μ a vs)(q:oy K H X4 μ ds vs):oG K (Mw K a) (.val ds) H X4 μ:=by
 intro f k n o m c i;have b:=(l.mv m).sq;have h:=q.mv m;show match ds[i]? with|some d=>_|none=>_
 cases e:ds[i]? with
 | some d=>
  obtain⟨v,g,j⟩:=h.get e;refine⟨⟨vs,v,b,g⟩,λx p y=>?_⟩;obtain⟨rfl,y⟩:=y;have:=y vs b;rw[g] at this;cases this;exact⟨.refl,c,j⟩
 | none=>
  refine⟨vs,b,?_⟩;have:=aT.mp e;rw[<- q.length];exact this
def oG.own(h:μ[k]?=XV a):oG K (Mx K a) (.own k) H X4 μ:=by
 intro j o w p m c i;obtain⟨q,rfl⟩:=m.pre;have r:(μ++q)[k]?=XV a:=by rw[aG (aq.mp h).1];exact h
 obtain⟨b,f,s,t,l⟩:=c.at_ k a r;have g:qJ K o a f:=.of t;show match (match p[k]? with|some b=>b[i]?|none=>X9) with|some d=>_|none=>_
 rw[s];show match b[i]? with|some d=>_|none=>_
 cases e:b[i]? with
 | some d=>
  obtain⟨v,n,u⟩:=l.get e;refine⟨⟨f,v,g,n⟩,λx z y=>?_⟩;obtain⟨rfl,y⟩:=y;have:=y f g;rw[n] at this;cases this;exact⟨.refl,c,u⟩
 | none=>
  refine⟨f,g,?_⟩;have:=aT.mp e;rw[<- l.length];exact this
def Ie(x:Str):It:=⟨λi _=>i<x.cps.size,λi H v H'=>H'=H/\∃c,x.cps[i]?=XV c/\v=.str ⟨#[c]⟩,λi _=>x.cps.size<=i⟩
def oG.str{K:ah}{H:Hp}{X4 μ:List ab}{cs:List Nat}:oG K (Ie ⟨cs.toArray⟩) (.val (cs.map λc=>.str [c])) H X4 μ:=by
 intro a h j k m c i;show match (cs.map λc=>D.str [c])[i]? with|some d=>_|none=>_
 rw[bG];cases e:cs[i]? with
 | some d=>
  have f:=(aq.mp e).1;refine⟨by show i<cs.toArray.size;simpa using f,λx l y=>?_⟩;obtain⟨rfl,z,g,rfl⟩:=y;have b:cs.toArray[i]?=XV z:=g;rw[kT,e] at b;cases b;refine⟨.refl,c,?_⟩;unfold X6;rfl
 | none=>
  have:=aT.mp e;show cs.toArray.size<=i;simpa using this
def oG.rng:oG K (Ig lo n) (.val ((aL n).map λi=>.int (lo+(i:Nat)))) H X4 μ:=by
 intro b e f g m c i;show match ((aL n).map λi=>D.int (lo+(i:Nat)))[i]? with|some d=>_|none=>_
 rw[bG];by_cases a:i<n
 ·rw[i7 a];refine⟨a,λx h y=>?_⟩;obtain⟨rfl,rfl⟩:=y;exact⟨.refl,c,sR⟩
 ·rw[aT.mpr (by simpa using a)];exact lu.mp a
def Zw(x:Str)(t:Tok)(it:ab):xt P w K tg (Ie x) [it] it (λi h=>h.IsStrIter it (strIterType x) x t i) where
 mem:=by simp
 obj:=λi h a b j=>by
  have e:b=it:=by simpa using j
  subst e;obtain⟨o,e,c,d⟩:=a;exact⟨o,e,λv z=>by rw[d] at z;cases z⟩
 keep:=λi h f a k=>by
  obtain⟨o,e,c,d⟩:=a;exact⟨o,k it 'k' o e,c,d⟩
 item:=by
  intro X G J L M i g s N H E I p a O;subst G J L;obtain⟨q,r,W,B,C,D⟩:=p it 'k';obtain⟨U,l⟩:∃c,x.cps[i]?=XV c:=⟨_,aU (show i<x.cps.size from O)⟩;have Q:∀(F:String),(["enumerate", "zip", "dict_itemiterator", "dict_reverseitemiterator", "odict_iterator", "itertools.zip_longest", "itertools.pairwise"].contains F=Y1)->strIterType x=F->∀f,f.IsStrIter it F x t (i+1)->cG it s.heap f->
    ∃u,XV (lT ⟨#[U]⟩ s.toks)=XV u/\ao (aw X.prog X.w) X.A (letOwnedTupleGo tg (.ref it) u) (λ_ V=>∃y R,Inv X g N R V/\RelV y u/\(Ie x).yld i H y R/\V.heap.IsStrIter it (strIterType x) x t (i+1)/\∀b∈[it],R b=X9) E { s with heap:=f,toks:=s.toks+1 }:=by
   intro F Y Z f m n;have I1:Inv X g N H { s with heap:=f,toks:=s.toks+1 }:=I.turned (t':=s.toks+1) (λb o j e=>(n.2 b j).trans e) q r B C D;obtain⟨o,e,c,d⟩:=id m;refine⟨_,rfl,C0 (s:={ s with heap:=f,toks:=s.toks+1 }) e c d Y ⟨.str ⟨#[U]⟩,H,I1,⟨_,rfl⟩,⟨rfl,_,l,rfl⟩,?_,λb j=>(p b j).1⟩⟩;rw[Z];exact m
  unfold strIterType at a Q ⊢;split at a
  ·rename_i S;exact wpAny_pyNext_ascii_item a l λf m n=>Q "str_ascii_iterator" 'u' (by rw[Y2 S]) f m n
  ·rename_i S;exact wpAny_pyNext_wide_item a l λf m n=>Q "str_iterator" 'u' (by rw[Z5 S]) f m n
 done:=by
  intro X G J L M i g s N H E I p a O;subst G J L;obtain⟨q,r,W,B,C,D⟩:=p it 'k';have l:x.cps[i]?=X9:=by
   have:x.cps.size<=i:=O;simp[this]
  unfold strIterType at a;split at a
  ·exact wpAny_pyNext_ascii_end (I.ok.hd M) a l λf T=>⟨rfl,I.turned (t':=s.toks) (λb o j e=>T b o j e) q r B C D⟩
  ·exact wpAny_pyNext_wide_end (I.ok.hd M) a l λf T=>⟨rfl,I.turned (t':=s.toks) (λb o j e=>T b o j e) q r B C D⟩
 self:=λ_ _ s _ _ a h=>by
  unfold strIterType at a;split at a
  ·exact wpAny_pyIter_striter_ascii a h
  ·exact wpAny_pyIter_striter_wide a h
section
variable{X:Cx}{Ex:Nat->Hp->Prop}{pos:Pos}{a b c tg:aR}{ta:DE}
noncomputable def Nj(O:Ow):D->R Src
 |.lst ds=>.ok (.val ds) O
 |.tup ds=>.ok (.val ds) O
 |.str cs=>.ok (.val (cs.map λc=>.str [c])) O
 |.own k=>.ok (.own k) O
 |_=>.bad
def pR(t:DE):DI:=λσ O=>(t σ O).bnd λx O1=>Nj O1 x
def W8(G:PD X Ex a ta):sZ X Ex tg a (pR ta):=by
 refine⟨?_⟩;rintro m s L H M I ⟨f,U,V,O,N,P,q⟩;refine qc (G.out m s L H _ I (rd.go N P q (Q1:=λv h=>∃f n w d,ou X.K h f n w/\X6 X.K h f n d v/\post Ex X.K (λQ R s J=>oG X.K J s Q f R) h f n (Nj w d) M)
  λd w v h n W x c r p=>⟨f,n,w,d,c,r,p⟩)) λu g ⟨v,h,i,z,f,n,w,d,c,r,p⟩=>?_
 have j:∀(b:ab),b∈[g.heap.objs.size]->si X m h b:=λb S=>by
  have e:b=g.heap.objs.size:=by simpa using S
  subst e;exact i.fpOk (aD _) (i.hok.fresh (aD _))
 cases d with
 | lst B=>
  unfold X6 at r;obtain⟨a,C,rfl,l,q⟩:=r;cases z;obtain⟨A,D,y,E⟩:=i.list l.sq;refine fw y.isList ?_;exact⟨g.heap.objs.size,[g.heap.objs.size],_,_,h,rfl,i.kept (t':=g.toks) λb o e=>ag _ e,Rb a _,⟨_,aJ _ rfl,rfl,rfl⟩,j,post.here p c (.val l q)⟩
 | tup B=>
  unfold X6 at r;obtain⟨a,C,rfl,l,q⟩:=r;cases z;obtain⟨A,D,y,E⟩:=i.tuple l.sq;refine gT (show g.heap.IsTuple a A.toArray from y) ?_;exact⟨g.heap.objs.size,[g.heap.objs.size],_,_,h,rfl,i.kept (t':=g.toks) λb o e=>ag _ e,zbs a _,⟨_,aJ _ rfl,rfl,rfl⟩,j,post.here p c (.tup l q)⟩
 | str cs=>
  unfold X6 at r;subst r;obtain⟨t,rfl⟩:=z;refine wpAny_pyIter_strU ?_;exact⟨g.heap.objs.size,[g.heap.objs.size],_,_,h,rfl,i.kept (t':=g.toks) λb o e=>ag _ e,Zw ⟨cs.toArray⟩ t _,⟨_,aJ _ rfl,rfl,rfl⟩,j,post.here p c .str⟩
 | own k=>
  unfold X6 at r;obtain⟨a,rfl,F⟩:=r;cases z;obtain⟨B,C,Y,T,Z⟩:=c.at_ k a F;obtain⟨A,D,y,E⟩:=i.list (.of T);refine fw y.isList ?_;exact⟨g.heap.objs.size,[g.heap.objs.size],_,_,h,rfl,i.kept (t':=g.toks) λb o e=>ag _ e,Rb a _,⟨_,aJ _ rfl,rfl,rfl⟩,j,post.here p c (.own F)⟩
 |_=>exact ak p
noncomputable def N2(lo hi:Int):Src:=.val ((aL (hi-lo).toNat).map λi=>.int (lo+(i:Nat)))
def rU(t:DA):DI:=λσ O=>(t σ O).bnd λxs O1=>match xs with
 |[.int j]=>if -1000000<=j/\j<=1000000 then .ok (N2 0 j) O1 else .bad
 |_=>.bad
def PI.imp(h:PI X tg iter t)(f:∀σ H Q,t' σ H Q->t σ H Q):PI X tg iter t':=λd s σ H Q I q=>h d s σ H Q I (f σ H Q q)
def tW(h:oy K H X4 μ [d] vs):∃v,vs=[v]/\X6 K H X4 μ d v:=by unfold oy at h;obtain⟨v,r,rfl,f,e⟩:=h;unfold oy at e;subst e;exact⟨v,rfl,f⟩
def AA(h:oy K H X4 μ [d,e] vs):∃v w,vs=[v,w]/\X6 K H X4 μ d v/\X6 K H X4 μ e w:=by unfold oy at h;obtain⟨v,r,rfl,f,g⟩:=h;obtain⟨w,rfl,i⟩:=tW g;exact⟨v,w,rfl,f,i⟩
def zb6(f:Gl X "range")(g:X.mg "range" = X9)(h:uc X Ex [a] t)(i:aS [a] X.env=[(Y1,eval a X.env)]:=by rfl):sZ X Ex tg (.Call (.Name "range" p) [a] [] pos) (rU t):=
 sZ.mk <| PI.imp (zeb f g h.out i) λo H Q ⟨k,s,u,O,l,m,q⟩=>uN.go l m q λd w y z A B x c r p=>by
  split at p
  ·rename_i j;obtain⟨⟨C,D⟩,p⟩:=post.ite p;obtain⟨v,rfl,e⟩:=tW r;unfold X6 at e;subst e;refine⟨j,rfl,by lia,by lia,?_⟩;have:=post.here p c (oG.rng (lo:=0) (n:=(j-0).toNat));simpa using this
  ·exact ak p
end
inductive RS where
 |nx (σ:Sg) (O:Ow)
 |rt (d:D) (O:Ow)
 |bk (σ:Sg) (O:Ow)
 |ct (σ:Sg) (O:Ow)
 |exc (c:Nat) (O:Ow)
 |bad
 deriving Inhabited
abbrev DS:=Sg->Ow->RS
def R.bnS{α:Type}(r:R α)(k:α->Ow->RS):RS:=match r with
 |.ok a O=>k a O
 |.exc c O=>.exc c O
 |.bad=>.bad
section
variable(Ex:Nat->Hp->Prop)(K:ah)
def oB(H:Hp)(X4 μ:List ab)(r:RS)(E:yh):Prop:=match r with
 |.nx σ O=>∀d_ H' f_,Ext H μ H' f_->oz K H' X4 f_ σ d_->ou K H' X4 f_ O->E.nx d_ H'
 |.rt d O=>∀v H' f_,Ext H μ H' f_->ou K H' X4 f_ O->X6 K H' X4 f_ d v->E.rt v H'
 |.bk σ O=>∀d_ H' f_,Ext H μ H' f_->oz K H' X4 f_ σ d_->ou K H' X4 f_ O->E.bk d_ H'
 |.ct σ O=>∀d_ H' f_,Ext H μ H' f_->oz K H' X4 f_ σ d_->ou K H' X4 f_ O->E.ct d_ H'
 |.exc c O=>∀H' f_,Ext H μ H' f_->ou K H' X4 f_ O->Ex c H'
 |.bad=>False
def KW(t:DS):TS:=λE d_ H=>∃X4 μ σ O,oz K H X4 μ σ d_/\ou K H X4 μ O/\oB Ex K H X4 μ (t σ O) E
end
structure rM(X:Cx)(Ex:Nat->Hp->Prop)(st:er)(t:DS):Prop where
 out:PS X st (KW Ex X.K t)
structure tF(X:Cx)(Ex:Nat->Hp->Prop)(st:List er)(t:DS):Prop where
 out:sY X st (KW Ex X.K t)
def PS.imp(h:PS X st t)(f:∀E σ H,t' E σ H->t E σ H):PS X st t':=λa s σ H D I q=>h a s σ H D I (f D σ H q)
def sY.imp(h:sY X st t)(f:∀E σ H,t' E σ H->t E σ H):sY X st t':=λa s σ H D I q=>h a s σ H D I (f D σ H q)
section
variable{Ex:Nat->Hp->Prop}{K:ah}{H H1:Hp}{X4 μ g_:List ab}
def oB.ext{r:RS}{E:yh}(h:oB Ex K H X4 μ r E)(e:Ext H μ H1 g_):oB Ex K H1 X4 g_ r E:=by
 cases r with
 |nx σ O=>exact λj f g i a b=>h j f g (e.trans i) a b
 |bk σ O=>exact λj f g i a b=>h j f g (e.trans i) a b
 |ct σ O=>exact λj f g i a b=>h j f g (e.trans i) a b
 |rt d O=>exact λv f g i a b=>h v f g (e.trans i) a b
 |exc c O=>exact λf g i a=>h f g (e.trans i) a
 |bad=>exact h
def oB.bnS{α b:Type}{a:Hp->List ab->α->b->Prop}{r:R α}{k:α->Ow->RS}{E:yh}{Q1:b->Hp->Prop}(h:oB Ex K H X4 μ (r.bnS k) E)
  (f:∀d O1 v H1 g_,Ext H μ H1 g_->ou K H1 X4 g_ O1->a H1 g_ d v->oB Ex K H1 X4 g_ (k d O1) E->Q1 v H1):post Ex K a H X4 μ r Q1:=by
 cases r with
 |ok d O'=>exact λv g i e c q=>f d O' v g i e c q (oB.ext (show oB Ex K H X4 μ (k d O') E from h) e)
 |exc c O'=>exact h
 |bad=>exact h
end
section
variable{X:Cx}{Ex:Nat->Hp->Prop}{pos:Pos}{a b c e tg:aR}{tb tc te:DE}
def w9{st:er}{t:TS}{t':DS}(h:PS X st t)(f:∀X4 μ σ O E d H,oz X.K H X4 μ σ d->ou X.K H X4 μ O->oB Ex X.K H X4 μ (t' σ O) E->t E d H):rM X Ex st t':=
 ⟨PS.imp h λE d H ⟨X4,μ,σ,O,g,i,q⟩=>f X4 μ σ O E d H g i q⟩
def Jx(h:sY X st t)(f:∀X4 μ σ O E d H,oz X.K H X4 μ σ d->ou X.K H X4 μ O->oB Ex X.K H X4 μ (t' σ O) E->t E d H):tF X Ex st t':=
 ⟨sY.imp h λE d H ⟨X4,μ,σ,O,g,i,q⟩=>f X4 μ σ O E d H g i q⟩
def rd.goS{t:DE}{X4 μ:List ab}{σ:Sg}{O:Ow}{i:St}{H:Hp}{Q1:VK}{k:D->Ow->RS}{E:yh}(j:oz X.K H X4 μ σ i)(l:ou X.K H X4 μ O)
  (q:oB Ex X.K H X4 μ ((t σ O).bnS k) E)
  (f:∀d O1 v g h,oz X.K g X4 h σ i->Ext H μ g h->ou X.K g X4 h O1->X6 X.K g X4 h d v->oB Ex X.K g X4 h (k d O1) E->Q1 v g):rd Ex X.K t i H Q1:=
 ⟨X4,μ,σ,O,j,l,oB.bnS q λd O1 v g h x c r p=>f d O1 v g h (j.ext x) x c r p⟩
def xj.goS{t:DT}{X4 μ:List ab}{σ:Sg}{O:Ow}{i:St}{H:Hp}{Q1:Bool->Hp->Prop}{k:Bool->Ow->RS}{E:yh}(j:oz X.K H X4 μ σ i)(l:ou X.K H X4 μ O)
  (q:oB Ex X.K H X4 μ ((t σ O).bnS k) E)
  (f:∀v O1 g h,oz X.K g X4 h σ i->Ext H μ g h->ou X.K g X4 h O1->oB Ex X.K g X4 h (k v O1) E->Q1 v g):xj Ex X.K t i H Q1:=
 ⟨X4,μ,σ,O,j,l,oB.bnS q λd O1 v g h x c r p=>by
  have r:d=v:=r;subst r;exact f d O1 g h (j.ext x) x c p⟩
def qQ:DS:=λσ O=>.nx σ O
def m_(t u:DS):DS:=λσ O=>match t σ O with
 |.nx σ' O'=>u σ' O'
 |r=>r
def Zn:tF X Ex [] qQ:=Jx Za λd f j O E g H h i q=>q g H f .refl h i
def qF{st:er}{f:List er}{t u:DS}(j:rM X Ex st t)(k:tF X Ex f u):tF X Ex (st::f) (m_ t u):=
 Jx (DB j.out k.out) λh l i O E r H m n q=>by
  refine⟨h,l,i,O,m,n,?_⟩;unfold m_ at q;cases g:t i O with
  | nx σ' O'=>
   rw[g] at q;exact λs v o p a b=>⟨h,o,σ',O',a,b,q.ext p⟩
  |rt d O'=>rw[g] at q;exact q
  |bk σ' O'=>rw[g] at q;exact q
  |ct σ' O'=>rw[g] at q;exact q
  |exc c O'=>rw[g] at q;exact q
  |bad=>rw[g] at q;exact q
def qS(d:rM X Ex st t):tF X Ex [st] t:=⟨Pa d.out⟩
def pU(t:DE):DS:=λσ O=>(t σ O).bnS λd O1=>.rt d O1
def Zf(f:PD X Ex e te):rM X Ex (.Return (XV e) pos) (pU te):=
 w9 (Wz f.out) λg l m O E n H h i q=>rd.goS h i q λd o v j k s x c r p=>p v j k .refl c r
def qM(c:DT)(t u:DS):DS:=λσ O=>(c σ O).bnS λb O1=>if b=YP then t σ O1 else u σ O1
def Xe{c:aR}{x y:List er}{tc:DT}{t u:DS}(j:qZ X Ex c tc)(l:tF X Ex x t)(m:tF X Ex y u):rM X Ex (.If c x y pos) (qM tc t u):=
 w9 (Vg j.out l.out m.out) λd r f O E s H n o q=>xj.goS n o q λk g v h i x c p=>by
  cases k with
  |true=>rw[Y2 rfl];exact⟨d,h,f,g,i,c,p⟩
  |false=>rw[Z5 ci];exact⟨d,h,f,g,i,c,p⟩
def F1:DS:=λ_ _=>.bad
def Qe:tF X Ex st F1:=Jx zbQ λd f g O E h H i j q=>q
def uL(t:DE):DS:=λσ O=>(t σ O).bnS λ_ O1=>.nx σ O1
def Z3(f:PD X Ex e te)(g:swapsWith e X9 pos.line X.env=pure Y1:=by rfl):rM X Ex (.Expr e pos) (uL te):=
 w9 (OJ f.out g) λh o s O E i H j k q=>rd.goS j k q λd t v l m n x c r p=>p i l m .refl n c
def pZ(i:Nat)(t:DE):DS:=λσ O=>(t σ O).bnS λd O1=>.nx (σ.set i (XV d)) O1
def Jr(f:X.N.Nodup)(g:X.N[i]?=XV x)(h:Loc X.env.scope x)(j:PD X Ex e te)(k:swapsWith e (XV (.Name x pos')) pos.line X.env=pure Y1:=by rfl)
  (l:X.fn x=YP\/X.env.scope.names.lookup x=XV .local:=by first|exact .inl rfl|exact .inr rfl):rM X Ex (.Assign [.Name x pos'] e pos) (pZ i te):=
 w9 (N8 f g h j.out k l) λm y z O E n H o s q=>rd.goS o s q λd A v t u w x c r p=>p (n.set i (XV v)) t u .refl (w.set r i) c
def FI(i j:Nat)(t:DA):DS:=λσ O=>(t σ O).bnS λds O1=>match ds with
 |[x,y]=>.nx ((σ.set i (XV x)).set j (XV y)) O1
 |_=>.bad
inductive Tg where
 |one (i:Nat)
 |two (i j:Nat)
noncomputable def Tg.put:Tg->D->Sg->Option Sg
 |.one i,d,σ=>XV (σ.set i (XV d))
 | .two i j,d,σ=>match d with
  |.tup [x,y]=>XV ((σ.set i (XV x)).set j (XV y))
  |_=>X9
def Tg.rd(K:ah):Tg->TG
 |.one i=>u7 i
 |.two i j=>CL K 2 (yS (u7 i) (yS (u7 j) FJ))
def Tg.slots:Tg->List Nat
 |.one i=>[i]
 |.two i j=>[i,j]
def Tg.ok2(g:Tg)(n:oz K H X4 μ σ d_)(q:X6 K H X4 μ d v)(h:g.put d σ=XV σ')
  (k:∀f,oz K H X4 μ σ' f->(∀i,i∉g.slots->f[i]?=d_[i]?)->Q f H):g.rd K v d_ H Q:=by
 cases g with
 | one i=>
  cases h;exact k _ (n.set q i) λj p=>br (λe=>p (by simp[Tg.slots,e]))
 | two i j=>
  unfold Tg.put at h;dsimp only at h;split at h
  ·rename_i x y;cases h;unfold X6 at q;obtain⟨a,t,rfl,l,q⟩:=q;obtain⟨u,w,rfl,r,s⟩:=AA q;refine⟨a,[u,w],rfl,l.sq,rfl,u,[w],rfl,w,[],rfl,rfl,k _ ((n.set r i).set s j) λm o=>?_⟩;rw[br (λe=>o (by simp[Tg.slots,e])),br (λe=>o (by simp[Tg.slots,e]))]
  ·cases h
def Tg.ok{K:ah}{H:Hp}{X4 μ:List ab}{σ σ':Sg}{f:St}{d:D}{v:V}{Q:St->Hp->Prop}(g:Tg)(m:oz K H X4 μ σ f)(q:X6 K H X4 μ d v)(h:g.put d σ=XV σ')(k:∀n,oz K H X4 μ σ' n->Q n H):g.rd K v f H Q:=by
 cases g with
 |one i=>cases h;exact k _ (m.set q i)
 | two i j=>
  unfold Tg.put at h;dsimp only at h;split at h
  ·rename_i x y;cases h;unfold X6 at q;obtain⟨a,r,rfl,l,q⟩:=q;obtain⟨u,w,rfl,o,p⟩:=AA q;exact⟨a,[u,w],rfl,l.sq,rfl,u,[w],rfl,w,[],rfl,rfl,k _ ((m.set o i).set p j)⟩
  ·cases h
def WT(d:X.N.Nodup)(f:X.N[i]?=XV x)(g:Loc X.env.scope x)(h:X.fn x=YP\/X.env.scope.names.lookup x=XV .local:=by first|exact .inl rfl|exact .inr rfl|assumption):PG X (.Name x pos) ((Tg.one i).rd X.K):=B9 d f g h
noncomputable def vq(src:Src)(step:D->Sg->Ow->RS):Nat->Nat->Sg->Ow->RS
 | 0,i,σ,O=>match src.get O i with
  |none=>.nx σ O
  |some _=>.bad
 | f+1,i,σ,O=>match src.get O i with
  |none=>.nx σ O
  | some d=>match step d σ O with
   |.nx σ' O'=>vq src step f (i+1) σ' O'
   |.ct σ' O'=>vq src step f (i+1) σ' O'
   |.bk σ' O'=>.nx σ' O'
   |r=>r
def vM(it:DI)(g:Tg)(body:DS):DS:=λσ O=>(it σ O).bnS λsrc O1=>vq src (λd σ O=>match g.put d σ with|some σ'=>body σ' O|none=>.bad) (src.size O1) 0 σ O1
def XC{u:aR}{body:List er}{it:DI}{g:Tg}{tb:DS}(hp:kl (aw X.prog X.w) X.A X.env X.xe)(hc:X.calm=YP)(hi:sZ X Ex tg u it)(hg:PG X tg (g.rd X.K))(hb:tF X Ex body tb)
  (hs:∀x,bF u X.env x=pure x:=by intro _;rfl):rM X Ex (.For tg u body [] pos) (vM it g tb):=
 w9 (N6 hp hc hi.out hg hb.out hs) λk μ Q O E d_ H Y c1 q=>by
  refine⟨k,μ,Q,O,Y,c1,oB.bnS q λo O1 J Z S x1 c2 sa p=>?_⟩;generalize sU:(λ(d:D)(Q:Sg)(O:Ow)=>match g.put d Q with|some j=>tb j O|none=>RS.bad)=n at p;refine⟨λi m L t=>∃s j z,Ext Z S t s/\oz X.K t k s j L/\ou X.K t k s z/\oB Ex X.K t k s (vq o n m i j z) E,⟨_,S,Q,O1,.refl,Y.ext x1,c2,p⟩,?_⟩;rintro i m v8 M ⟨F,N,B,x2,T,U,C⟩;have R:=sa k M F B x2.mv U i;cases G:o.get B i with
  | none=>
   rw[G] at R;refine .inl ⟨R,?_⟩;cases m with
   | zero=>
    have l:oB Ex X.K M k F (match o.get B i with|none=>.nx N B|some _=>.bad) E:=C;rw[G] at l;exact l v8 M F .refl T U
   | succ f=>
    unfold vq at C;rw[G] at C;exact C v8 M F .refl T U
  | some d=>
   rw[G] at R;obtain⟨go,yl⟩:=R;cases m with
   | zero=>
    have l:oB Ex X.K M k F (match o.get B i with|none=>.nx N B|some _=>.bad) E:=C;rw[G] at l;exact ak l
   | succ f=>
    refine .inr ⟨go,λL t=>∃s j z,Ext Z S t s/\oz X.K t k s j L/\ou X.K t k s z/\oB Ex X.K t k s (vq o n f (i+1) j z) E,λj t h=>⟨f,cH f,h⟩,λv H3 y=>?_⟩;obtain⟨V,c4,r⟩:=yl v H3 y;unfold vq at C;rw[G] at C;have l:oB Ex X.K H3 k F (match n d N B with
     |.nx j z=>vq o n f (i+1) j z
     |.ct j z=>vq o n f (i+1) j z
     |.bk j z=>.nx j z
     |r=>r) E:=oB.ext C V
    cases W:g.put d N with
    | none=>
     rw[<- sU] at l;simp only[W] at l;exact ak l
    | some rD=>
     refine Tg.ok g (T.ext V) r W λTU e3=>⟨k,F,rD,B,e3,c4,?_⟩;have HM:n d N B=tb rD B:=by rw[<- sU];simp only[W]
     rw[HM] at l;have x4:=x2.trans V;cases I:tb rD B with
     |nx FF O4=>rw[I] at l;exact λL t s P a b=>⟨s,FF,O4,x4.trans P,a,b,l.ext P⟩
     |ct FF O4=>rw[I] at l;exact λL t s P a b=>⟨s,FF,O4,x4.trans P,a,b,l.ext P⟩
     |bk FF O4=>rw[I] at l;exact l
     |rt d4 O4=>rw[I] at l;exact l
     |exc c4 O4=>rw[I] at l;exact l
     |bad=>rw[I] at l;exact l
end
structure Cl where
 it:DI
 g:Tg
 ifs:List DT
def qm:List Cl->List Nat
 |[]=>[]
 |c::cs=>c.g.slots++qm cs
def qo{α:Type}(σ:List (Option α)):List Nat->List (Option α)
 |[]=>σ
 |i::r=>qo (σ.set i X9) r
def ux:List DT->DT
 |[]=>λ_ O=>.ok YP O
 |c::cs=>λσ O=>(c σ O).bnd λb O1=>if b=YP then ux cs σ O1 else .ok Y1 O1
noncomputable def qD(src:Src)(step:D->Ow->List D->R (List D)):Nat->Nat->Ow->List D->R (List D)
 | 0,i,O,X8=>match src.get O i with
  |none=>.ok X8 O
  |some _=>.bad
 | f+1,i,O,X8=>match src.get O i with
  |none=>.ok X8 O
  |some d=>(step d O X8).bnd λqp O'=>qD src step f (i+1) O' qp
def we:List Cl->DE->Sg->Ow->List D->R (List D)
 |[],elt,σ,O,X8=>(elt σ O).bnd λv O1=>if X8.length<4000000 then .ok (X8++[v]) O1 else .bad
 | c::cs,elt,σ,O,X8=>(c.it σ O).bnd λsrc O1=>qD src (λd O2 X8=>match c.g.put d (qo σ (qm (c::cs))) with
   |some qW=>(ux c.ifs qW O2).bnd λb O3=>if b=YP then we cs elt qW O3 X8 else .ok X8 O3
   |none=>.bad) (src.size O1) 0 O1 X8
def zS(c:Cl)(cs:List Cl)(elt:DE)(σ:Sg):D->Ow->List D->R (List D):=λd O2 X8=>match c.g.put d (qo σ (qm (c::cs))) with
   |some qW=>(ux c.ifs qW O2).bnd λb O3=>if b=YP then we cs elt qW O3 X8 else .ok X8 O3
   |none=>.bad
abbrev Em:=Sg->Ow->List D->R (List D)
def zG(te:DE):Em:=λσ O X8=>(te σ O).bnd λv O1=>if X8.length<4000000 then .ok (X8++[v]) O1 else .bad
def tQ:List Cl->Em->Sg->Ow->List D->R (List D)
 |[],em,σ,O,X8=>em σ O X8
 | c::cs,em,σ,O,X8=>(c.it σ O).bnd λsrc O1=>qD src (λd O2 X8=>match c.g.put d (qo σ (qm (c::cs))) with
   |some qW=>(ux c.ifs qW O2).bnd λb O3=>if b=YP then tQ cs em qW O3 X8 else .ok X8 O3
   |none=>.bad) (src.size O1) 0 O1 X8
def tX(c:Cl)(cs:List Cl)(em:Em)(σ:Sg):D->Ow->List D->R (List D):=λd O2 X8=>match c.g.put d (qo σ (qm (c::cs))) with
   |some qW=>(ux c.ifs qW O2).bnd λb O3=>if b=YP then tQ cs em qW O3 X8 else .ok X8 O3
   |none=>.bad
theorem OX(te:DE):∀a:List Cl,tQ a (zG te)=we a te
 |[]=>by funext σ O X8;unfold tQ we zG;rfl
 |c::cs=>by funext σ O X8;unfold tQ we;rw[OX te cs]
def Xs(c:Cl)(cs:List Cl)(te:DE):tX c cs (zG te)=zS c cs te:=by funext σ d O X8;unfold tX zS;rw[OX te cs]
theorem Dq{α:Type}:∀(l:List Nat)(σ:List (Option α)),(qo σ l).length=σ.length
 |[],_=>rfl
 |i::r,σ=>by unfold qo;rw[Dq r];simp
theorem Jo{α:Type}:∀(l:List Nat)(σ:List (Option α))(i:Nat),i∉l->(qo σ l)[i]?=σ[i]?
 |[],σ,i,h=>rfl
 | j::r,σ,i,h=>by
  unfold qo;rw[Jo r _ i λz=>h (ai _ z),br λz=>h (by simp[z])]
theorem GG{α:Type}:∀(l:List Nat)(σ:List (Option α))(i:Nat)(d:α),(qo σ l)[i]?=XV (XV d)->σ[i]?=XV (XV d)/\i∉l
 |[],σ,i,d,h=>⟨h,by simp⟩
 | j::r,σ,i,d,h=>by
  unfold qo at h;obtain⟨a,b⟩:=GG r _ i d h;by_cases e:j=i
  ·subst e;by_cases c:j<σ.length
   ·rw[bA c] at a;cases a
   ·rw[aT.mpr (by simp;lia)] at a;cases a
  ·rw[br e] at a;exact⟨a,by simp[b];exact λz=>e z.symm⟩
structure Ea(A:ab)(H:Hp)(μ:List ab)(H':Hp)(f_:List ab):Prop where
 pre:∃ν,f_=μ++ν
 kept:∀b o,H b=XV o->b∉μ->b≠A->BV o->H' b=XV o
 fresh:∀b∈f_,b∈μ\/H b=X9
 there:∀b,H b≠X9->H' b≠X9
 tab:∀P,oK H P->oK H' P
section
variable{K:ah}{A:ab}{H H' H1 H2:Hp}{X4 μ f_ g_ pW:List ab}
def Ext.ea(e:Ext H μ H' f_):Ea A H μ H' f_:=⟨e.pre,λb o h n _ a=>e.kept b o h n a,e.fresh,e.there,e.tab⟩
def Ea.refl:Ea A H μ H μ:=Ext.refl.ea
def Ea.trans(a:Ea A H μ H1 g_)(b:Ea A H1 g_ H2 pW):Ea A H μ H2 pW:=by
 have i:∀c,H1 c=X9->H c=X9:=λc h=>by
  cases e:H c with
  |none=>rfl
  |some o=>exact absurd h (a.there c (by rw[e];simp))
 refine⟨?_,λc o h d f g=>?_,λc h=>?_,λc h=>b.there c (a.there c h),λP t=>b.tab P (a.tab P t)⟩
 ·obtain⟨x,rfl⟩:=a.pre;obtain⟨y,rfl⟩:=b.pre;exact⟨x++y,by simp⟩
 ·refine b.kept c o (a.kept c o h d f g) (λm=>?_) f g;rcases a.fresh c m with z|z
  ·exact d z
  ·rw[z] at h;cases h
 ·rcases b.fresh c h with z|z
  ·exact a.fresh c z
  ·exact .inr (i c z)
def Ea.mv(e:Ea A H μ H' f_):Mv H (A::X4) μ H' (A::X4) f_:=⟨e.pre,λb o h a c d=>e.kept b o h a (λz=>c (by simp[z])) d,e.fresh,λ_ m=>.inl m,e.there,e.tab⟩
def Ea.putX(a:∀P,oK H P->oK (upd H A o) P):Ea A H μ (upd H A o) μ:=⟨⟨[],by simp⟩,λb u h _ n _=>by rw[qf n];exact h,λ_ m=>.inl m,xg,a⟩
def ou.putX(c:ou K H (A::X4) μ O)(b:∀P,oK H P->oK (upd H A o) P):ou K (upd H A o) (A::X4) μ O:=by refine⟨c.len,c.nd,c.nh,λa m=>xg a (c.ht a m),λk a e=>?_⟩;obtain⟨d,f,g,h,i⟩:=c.at_ k a e;have j:a≠A:=λz=>c.nh a (aN e) (by simp[z]);exact⟨d,f,g,by rw[qf j];exact h,i.mv (Ea.putX (A:=A) b).mv⟩
def Ea.put{o:HO}(a:∃vs,H A=XV (.lst vs)):Ea A H μ (upd H A o) μ:=.putX λ_ t=>t.upd (.inr a)
def ou.putA{o:HO}{O:Ow}(c:ou K H (A::X4) μ O)(a:∃vs,H A=XV (.lst vs)):ou K (upd H A o) (A::X4) μ O:=c.putX λ_ t=>t.upd (.inr a)
def ou.unhide(c:ou K H (A::X4) μ O):ou K H X4 μ O:=
 ⟨c.len,c.nd,λa m z=>c.nh a m (ai _ z),λa m=>c.ht a (ai _ m),λk a e=>
  let ⟨ds,vs,h1,h2,h3⟩:=c.at_ k a e
  ⟨ds,vs,h1,h2,h3.mv .unhide⟩⟩
end
abbrev qr:Nat->Hp->Prop:=λ_ _=>False
inductive oO(X:Cx):List bH->List Cl->Prop where
 |nil:oO X [] []
 | cons {tg iter:aR} {ifs:List aR} {gs:List bH} {c:Cl} {cs:List Cl} (hi:sZ X qr tg iter c.it) (hs:∀x,bF iter X.env x=pure x) (hg:PG X tg (c.g.rd X.K))
   (hf:bU (λe t=>qZ X qr e t) ifs c.ifs) (r:oO X gs cs):oO X (⟨tg,iter,ifs,0⟩::gs) (c::cs)
section
variable{X:Cx}
def yZ{α:Type}{M:iS}{A:a7}{t:Sem α}{Q c:α->af->Prop}{E:ae->af->Prop}{s:af}(d:X.xe=λ_ _=>False)(h:ao M A t Q X.xe s)(k:∀a b,Q a b->c a b):ao M A t c E s:=
 cw h k λe b z=>by rw[d] at z;exact z.elim
theorem RG{env:Env}{M:iS}{A:a7}{E:ae->af->Prop}{s:af}{Q:Bool->af->Prop}(h:Q Y1 s):∀(a:List aR),ao M A (forIn a Y1 λc r=>if r=YP then do let ok <- isTrue c env (eval c env);pure (fY ok) else pure (fY r)) Q E s
 |[]=>aj h
 | c::cs=>by
  simp only[iW,bJ,if_false];exact aa (aj (RG h cs))
theorem QL{E:ae->af->Prop}{X4:List ab}(j:X.xe=λ_ _=>False):∀{a:List aR}{ts:List DT},bU (λe t=>qZ X qr e t) a ts->∀(X5:List (ab×Obj))(s:af)(d_:St)(H:Hp)(μ:List ab)(σ:Sg)(O:Ow)(Q:Bool->af->Prop),
  L2.Inv X X5 d_ H s->oz X.K H X4 μ σ d_->ou X.K H X4 μ O->
  wX qr X.K H X4 μ (ux ts σ O) (λb H'=>∀h,L2.Inv X X5 d_ H' h->Q b h)->
  ao (aw X.prog X.w) X.A (forIn a YP λc r=>if r=YP then do let ok <- isTrue c X.env (eval c X.env);pure (fY ok) else pure (fY r)) Q E s
 |_,_,.nil,X5,s,d_,H,μ,σ,O,Q,I,e1,c1,q=>aj (post.here (v:=YP) q c1 rfl s I)
 | _::a,_::ts,.cons hc hr,X5,s,d_,H,μ,σ,O,Q,I,e1,c1,q=>by
  simp only[iW,if_true];refine aa (aa (yZ j (hc.out X5 s d_ H _ I (xj.go e1 c1 q (Q1:=λb g=>∃d f,oz X.K g X4 d σ d_/\ou X.K g X4 d f/\wX qr X.K g X4 d (if b=YP then ux ts σ f else .ok Y1 f) (λb H'=>∀h,L2.Inv X X5 d_ H' h->Q b h))
   λb f g d i x c p=>⟨d,f,i,c,p⟩)) λb k ⟨g,l,d,f,i,m,p⟩=>aj ?_))
  show ao _ _ (forIn a b _) _ _ _;cases b with
  |true=>rw[Y2 rfl] at p;exact QL j hr X5 k d_ g d σ f Q l i m p
  |false=>rw[Z5 ci] at p;exact RG (post.here (v:=Y1) p m rfl k l) a
structure vo where
 ex:List bH->cO->Pos->aR
 emit:ae->Env->Sem Unit
 new:Sem ae
 ho:aM->aV->ab->HO
 G:ah->aM->aV->ab->List ab->Hp->List ab->List D->Prop
structure Bs(X:Cx)(C:vo)(A:ab)(X4:List ab)(X5:List (ab×Obj))(s:af)(d_:St)(H:Hp)(μ:List ab)(σ:Sg)(O:Ow)(X8:List D):Prop where
 inv:L2.Inv X X5 d_ H s
 env:oz X.K H (A::X4) μ σ d_
 cells:ou X.K H (A::X4) μ O
 grown:C.G X.K X.prog X.w A X4 H μ X8
def NB(X:Cx)(C:vo)(A:ab)(X4:List ab)(X5:List (ab×Obj))(d_:St)(H:Hp)(μ:List ab)(sl:List Nat)(X8:List D)(O:Ow)(Q:af->Prop):Prop:=
 ∀s' pY H' f_,L2.Inv X X5 pY H' s'->Ea A H μ H' f_->ou X.K H' (A::X4) f_ O->C.G X.K X.prog X.w A X4 H' f_ X8->pY.length=d_.length->(∀i,i∉sl->pY[i]?=d_[i]?)->Q s'
def xE(X:Cx)(C:vo)(A:ab)(X4:List ab)(X5:List (ab×Obj))(d_:St)(H:Hp)(μ:List ab)(sl:List Nat)(r:R (List D))(Q:af->Prop):Prop:=match r with
 |.ok X8 O=>NB X C A X4 X5 d_ H μ sl X8 O Q
 |_=>False
noncomputable def yR(e:aR)(em:ae->Env->Sem Unit)(gens:List bH)(k:Nat)(X8:ae)(env:Env):Sem Unit:=match gens[k]? with
 | some g'=>do
  let x <- eval g'.iter env
  standAt g'.iter.pos
  let x <- if g'.is_async !=0 then foldedIterable g'.iter x else bF g'.iter env x
  let _ <- runOwn (.compStart e k (<- holding [x] (if g'.is_async !=0 then asyncIter x else pyIter x)) X8 env) env
 |none=>em X8 env
def V3(C:vo):Prop:=∀(gens:List bH)(scope:cO)(pos:Pos)(k:Nat)(it X8:ae)(env:Env){tg iter:aR}{ifs:List aR},gens[k]?=XV ⟨tg,iter,ifs,0⟩->
  (gens[k+1]?=X9 \/ ∃Ad sD uR,gens[k+1]?=XV ⟨Ad,sD,uR,0⟩)->
  compTurn (C.ex gens scope pos) k it X8 env=(do
   standAt iter.pos
   match <- pyNext it with
   |none=>pure (.done .next)
   | some v=>
    letOwnedTupleGo tg it v
    assign tg env v
    let mut ok:=YP
    for c in ifs do
     if ok then ok <- isTrue c env (eval c env)
    if ok then yR (C.ex gens scope pos) C.emit gens (k+1) X8 env
    again (.compLoop (C.ex gens scope pos) k it X8 env))
structure zU(C:vo):Prop where
 cl:∀gens scope pos,clausesOf (C.ex gens scope pos)=gens
 turn:V3 C
 keep:∀{K P w A X4 H μ X8 H' f_},C.G K P w A X4 H μ X8->A∉μ->Ext H μ H' f_->C.G K P w A X4 H' f_ X8
 new:∀{P:aM}{w:aV}{A:a7}{E:ae->af->Prop}{Q:ae->af->Prop}{s:af},(∀o:Obj,o.isFreed=Y1->(∀(H:Hp)(h:aX)(a:ab),sysModules<a->h.get? a=XV o->oN P w (upd H a (C.ho P w a)) h a (C.ho P w a))->Q (.ref s.heap.objs.size) { s with heap:=s.heap.push o })->ao (aw P w) A C.new Q E s
 g0:∀{K P w a X4 H μ},C.G K P w a X4 (upd H a (C.ho P w a)) μ []
 q1:∀gens scope pos k it X8 env,(lJ (C.ex gens scope pos) k it X8 env).quiet=YP
 u1:∀(A:a7)gens scope pos k it X8 env,A.under (lJ (C.ex gens scope pos) k it X8 env)=A
 d1:∀P w gens scope pos k it X8 env,(aw P w).den (lJ (C.ex gens scope pos) k it X8 env)=(compTurn (C.ex gens scope pos) k it X8 env).onRaise (λx=>do noteFrame x env;theTreesLotGoes x)
 u2:∀(A:a7)gens scope pos k it X8 env,A.under (nN (C.ex gens scope pos) k it X8 env)=A
 d2:∀P w gens scope pos k it X8 env,(aw P w).den (nN (C.ex gens scope pos) k it X8 env)=(compStart (C.ex gens scope pos) k it X8 env).onRaise (λx=>do noteFrame x env;standAt theWindowsPlace)
noncomputable def AG(elt:aR):vo where
 ex:=λgens scope pos=>.ListComp elt gens scope pos
 emit:=λX8 env=>do let _ <- call (.builtin "list.append") [X8,<- eval elt env]
 new:=newList []
 ho:=λ_ _ _=>.lst []
 G:=λK _ _ A X4 H μ X8=>∃vs,H A=XV (.lst vs)/\oy K H (A::X4) μ X8 vs
def JT(c:aR):zU (AG c) where
 cl:=λ_ _ _=>rfl
 turn:=λd b g k n i j t l o m f=>by
  show compTurn (.ListComp c d b g) k n i j=_;unfold compTurn yR;rcases f with f|⟨u,v,w,f⟩
  ·simp only[m,f];rfl
  ·simp only[m,f,bne_self_eq_false,bJ,if_false,bind_assoc,pure_bind]
   first|rfl|congr 1
 keep:=λ⟨p,q,r⟩ s x=>⟨p,x.keep _ _ q s,r.ext x⟩
 new:=λh=>cg (h _ rfl λH h a _ e=>⟨bX _,[],0,.nil,e⟩)
 g0:=⟨[],rA,.nil⟩
 q1:=λ_ _ _ _ _ _ _=>rfl
 u1:=λ_ _ _ _ _ _ _ _=>rfl
 d1:=λ_ _ _ _ _ _ _ _ _=>rfl
 u2:=λ_ _ _ _ _ _ _ _=>rfl
 d2:=λ_ _ _ _ _ _ _ _ _=>rfl
noncomputable def Sj(Z:St->Hp->List ab->Prop)(K:ah)(X4:List ab)(t:DE):TE:=λd_ H Q=>∃μ σ O,Z d_ H μ/\oz K H X4 μ σ d_/\ou K H X4 μ O/\q9 qr K H X4 μ (t σ O) Q
def PD.z{X:Cx}{Z:St->Hp->List ab->Prop}{X4:List ab}{e:aR}{t:DE}(h:PD X qr e t):PE X e (Sj Z X.K X4 t):=λa s b H Q I ⟨c,d,O,_,f,g,q⟩=>h.out a s b H Q I ⟨X4,c,d,O,f,g,q⟩
section
variable{C:vo}{Z:St->Hp->List ab->Prop}{A:ab}{X4:List ab}{elt:aR}{gens:List bH}{scope:cO}{pos:Pos}{te:DE}{em:Em}
def ym(X:Cx)(Z:St->Hp->List ab->Prop)(C:vo)(A:ab)(X4:List ab)(e:aR)(gens:List bH)(em:Em)(k:Nat)(cls:List Cl):Prop:=∀(X5:List (ab×Obj))(s:af)(d_:St)(H:Hp)(μ:List ab)(σ:Sg)(O:Ow)(X8:List D)(Q:af->Prop)(E:ae->af->Prop),
 Z d_ H μ->Bs X C A X4 X5 s d_ H μ σ O X8->xE X C A X4 X5 d_ H μ (qm cls) (tQ cls em σ O X8) Q->ao (aw X.prog X.w) X.A (yR e C.emit gens k (.ref A) X.env) (λ_ s'=>Q s') E s
def zfG{k:Nat}{e:aR}(t:X.xe=λ_ _=>False)(F:PE X elt (Sj Z X.K (A::X4) te))(G:gens[k]?=X9):ym X Z (AG elt) A X4 e gens (zG te) k []:=by
 intro a s h H i w O b Q E z B q;unfold yR;rw[G];show ao _ _ (do let _ <- call (.builtin "list.append") [.ref A,<- eval elt X.env]) _ _ s;obtain⟨o,I,J⟩:=B.grown;cases j:te w O with
 | ok d O1=>
  have l:xE X (AG elt) A X4 a h H i (qm []) (if b.length<4000000 then .ok (b++[d]) O1 else .bad) Q:=by
   have:=q;unfold tQ zG at this;rw[j] at this;exact this
  by_cases p:b.length<4000000
  ·rw[Y2 p] at l;refine aa (yZ t (F a s h H (λv f=>∃g,Ext H i f g/\ou X.K f (A::X4) g O1/\X6 X.K f (A::X4) g d v) B.inv ⟨i,w,O,z,B.env,B.cells,by rw[j];exact λv V L x c r=>⟨L,x,c,r⟩⟩)
    λu M ⟨v,f,N,P,g,x,c,r⟩=>?_)
   have R:A∉i:=λm=>B.cells.nh A m 'k';have n:f A=XV (.lst o):=x.keep A _ I R;have y:=J.ext x;refine aa (yZ t (QT a M h f (.ref A) [v] (.ref A) [u] (λ_ D=>D=upd f A (.lst (o++[v]))) N rfl (.cons P .nil)
    ⟨A,o,v,rfl,rfl,n,a9 (by rw[<- y.length];exact p) 'u',rfl⟩) λW S ⟨Y,D,T,r2,U⟩=>?_)
   subst U;refine aj (l S h _ g T (x.ea.trans (.put ⟨_,n⟩)) (c.putA ⟨_,n⟩) ⟨_,rA,?_⟩ rfl λ_ _=>rfl);exact(y.append (.cons r .nil)).mv (Ea.put ⟨_,n⟩).mv
  ·rw[Z5 p] at l;exact l.elim
 | exc c O1=>
  unfold tQ zG at q;rw[j] at q;exact q.elim
 | bad=>
  unfold tQ zG at q;rw[j] at q;exact q.elim
def Pq(co:zU C){k:Nat}{tg iter:aR}{ifs:List aR}{c:Cl}{cs:List Cl}(hx:X.xe=λ_ _=>False)(o_:X.calm=YP)(hk:gens[k]?=XV ⟨tg,iter,ifs,0⟩)(hg:PG X tg (c.g.rd X.K))(hf:bU (λe t=>qZ X qr e t) ifs c.ifs)
  (hZ:∀(qW rm:St)U I H2 pW,Z qW U I->(∀j,j∉qm (c::cs)->rm[j]?=qW[j]?)->Ea A U I H2 pW->Z rm H2 pW) (y:ym X Z C A X4 (C.ex gens scope pos) gens em (k+1) cs) (hn:gens[k+1]?=X9 \/ ∃Ad sD uR,gens[k+1]?=XV ⟨Ad,sD,uR,0⟩) {it:ab} {fp:List ab} {tn:Nat->aX->Prop} {J:It} {src:Src} (T:xt X.prog X.w X.K tg J fp it tn)
  (a:List (ab×Obj)) (s:af) (h:St) (H:Hp) (μ:List ab) (σ:Sg) (O:Ow) (X8:List D) (n:Nat) (Q:af->Prop) (st:tn 0 s.heap) (xX:∀b∈fp,si X a H b) (sa:oG X.K J src H (A::X4) μ)
  (z0:Z h H μ) (B:Bs X C A X4 a s h H μ σ O X8) (q:xE X C A X4 a h H μ (qm (c::cs)) (qD src (tX c cs em σ) n 0 O X8) Q):
  codeAny (aw X.prog X.w) X.A (.compLoop (C.ex gens scope pos) k (.ref it) (.ref A) X.env) (λr V=>∃f,r=.ok f/\Q V) s:=by
 have vy:∀{l:Hp},(∀b∈fp,l b=X9)->∀b∈fp,si X a l b:=λhn b y=>⟨hn b y,(xX b y).2⟩;let P:Nat->af->Prop:=λm V=>∃i M l N p E,L2.Inv X a M l V/\tn i V.heap/\(∀b∈fp,l b=X9)/\Ea A H μ l N/\ou X.K l (A::X4) N p/\C.G X.K X.prog X.w A X4 l N E/\
  M.length=h.length/\(∀i,i∉qm (c::cs)->M[i]?=h[i]?)/\xE X C A X4 a h H μ (qm (c::cs)) (qD src (tX c cs em σ) m i p E) Q
 refine codeAny_loop (co.q1 _ _ _ _ _ _ _) P (λm s1 hP=>?_) n ⟨0,h,H,μ,O,X8,B.inv,st,λb y=>(xX b y).1,.refl,B.cells,B.grown,rfl,λ_ _=>rfl,q⟩;rw[co.u1,co.d1];refine wpAny_noted ?_;rw[co.turn _ _ _ _ _ _ _ hk hn];obtain⟨i,v9,U,I,W,R,I1,qN,Th,x1,c1,g1,l1,k1,L⟩:=hP;have HB:=sa (A::X4) U I W x1.mv c1 i
 -- the names that Sf
 have Mn:oz X.K U (A::X4) I (qo σ (qm (c::cs))) v9:=by
  refine⟨by rw[Dq,B.env.len,l1],λj d hj=>?_⟩;obtain⟨h1,h2⟩:=GG _ _ _ _ hj;obtain⟨v,h3,h4⟩:=B.env.at_ j d h1;exact⟨v,by rw[k1 j h2];exact h3,h4.mv x1.mv⟩
 cases qV:src.get W i with
 | none=>
  rw[qV] at HB;have x:NB X C A X4 a h H μ (qm (c::cs)) R W Q:=by
   cases m with
   |zero=>unfold qD at L;rw[qV] at L;exact L
   |succ f=>unfold qD at L;rw[qV] at L;exact L
  refine aa (dM (aa (qc (T.done X rfl rfl rfl o_ i a s1 v9 U _ I1 (vy Th) qN HB) λr s2 ⟨hr,I2⟩=>?_)));subst hr;exact aj ⟨_,rfl,x s2 v9 U I I2 x1 c1 g1 l1 k1⟩
 | some d=>
  rw[qV] at HB;obtain⟨go,yl⟩:=HB;cases m with
  | zero=>
   unfold qD at L;rw[qV] at L;exact L.elim
  | succ f=>
   have x:xE X C A X4 a h H μ (qm (c::cs)) ((tX c cs em σ d W R).bnd λE p=>qD src (tX c cs em σ) f (i+1) p E) Q:=by
    have:=L;unfold qD at this;rw[qV] at this;exact this
   refine aa (dM (aa (qc (T.item X rfl rfl rfl o_ i a s1 v9 U _ I1 (vy Th) qN go) λr s2 ⟨u,hr,h2⟩=>?_)));subst hr;refine aa (qc h2 λ_ s3 ⟨v,H3,I3,r3,y3,qj,HY⟩=>?_);obtain⟨x3,c3,d3⟩:=yl v H3 y3;have I3':=I3.pinned (vy HY) (T.obj _ _ qj);cases vD:c.g.put d (qo σ (qm (c::cs))) with
   | none=>
    unfold tX at x;rw[vD] at x;exact x.elim
   | some rD=>
    have vU:tX c cs em σ d W R=((ux c.ifs rD W).bnd λb O3=>if b=YP then tQ cs em rD O3 R else .ok R O3):=by
     unfold tX;rw[vD]
    rw[vU] at x;refine aa (yZ hx (hg _ s3 v9 H3 v u (λY H4=>H4=H3/\oz X.K H3 (A::X4) I rD Y/\∀j,j∉c.g.slots->Y[j]?=v9[j]?) I3' r3 (Tg.ok2 c.g (Mn.ext x3) d3 vD λY e4 k4=>⟨rfl,e4,k4⟩)) λ_ s4 ⟨Y,H4,I4,e4,Fv,k4⟩=>?_);subst e4;have l4:Y.length=h.length:=by rw[I4.len,<- I3.len,l1]
    have Lb:∀j,j∉qm (c::cs)->Y[j]?=h[j]?:=λj hj=>by
     rw[k4 j λz=>hj (bB _ z)];exact k1 j hj
    have nA:A∉I:=λm=>c1.nh A m 'k';have x13:Ea A H μ H4 I:=x1.trans x3.ea;have g3:=co.keep g1 nA x3
    -- behind the step: the next turn
    have F:∀{V:af}{M:St}{l:Hp}{N:List ab}{p:Ow}{E:List D},L2.Inv X (a++Dd fp s3.heap) M l V->Ea A H μ l N->ou X.K l (A::X4) N p->C.G X.K X.prog X.w A X4 l N E->M.length=h.length->
      (∀i,i∉qm (c::cs)->M[i]?=h[i]?)->xE X C A X4 a h H μ (qm (c::cs)) (qD src (tX c cs em σ) f (i+1) p E) Q->∃m,m<f+1/\P m V:=by
     intro V M l N p E I' x' c' g' l' k' p';refine⟨f,cH f,i+1,M,l,N,p,E,I'.unpinned,T.keep _ _ _ qj λb y o e=>(I'.pin (b,o) (av _ (av _ (G6 y e)))).1,λb y=>?_,x',c',g',l',k',p'⟩;obtain⟨o,e,d⟩:=T.obj _ _ qj b y;exact(I'.pin (b,o) (av _ (av _ (G6 y e)))).2.1
    cases uZ:ux c.ifs rD W with
    |exc c' p=>rw[uZ] at x;exact x.elim
    |bad=>rw[uZ] at x;exact x.elim
    | ok b O3=>
     rw[uZ] at x;have S:xE X C A X4 a h H μ (qm (c::cs)) ((if b=YP then tQ cs em rD O3 R else .ok R O3).bnd λE p=>qD src (tX c cs em σ) f (i+1) p E) Q:=x;refine aa (QL (X4:=A::X4) hx hf _ s4 Y H4 I rD W _ I4 Fv c3 ?_);rw[uZ];intro b' H5 yd x5 c5 eb s5 I5;have eb:b=b':=eb;subst eb;have g5:=co.keep g3 nA x5;have KO:Ea A H μ H5 yd:=x13.trans x5.ea;cases b with
     | false=>
      rw[Z5 ci] at S;exact aj ⟨rfl,F I5 KO c5 g5 l4 Lb S⟩
     | true=>
      rw[Y2 rfl] at S;refine aa (y _ s5 Y H5 yd rD O3 R _ _ (hZ _ _ _ _ _ _ z0 Lb KO) ⟨I5,Fv.ext x5,c5,g5⟩ ?_);cases q8:tQ cs em rD O3 R with
      |exc c' p=>rw[q8] at S;exact S.elim
      |bad=>rw[q8] at S;exact S.elim
      | ok acc6 O6=>
       rw[q8] at S;intro s6 TR H6 FG I6 x6 c6 g6 l6 k6;refine aj ⟨rfl,F I6 (KO.trans x6) c6 g6 (l6.trans l4) (λj hj=>?_) S⟩;rw[k6 j λz=>hj (av _ z)];exact Lb j hj
end
end
section
variable{X:Cx}{Z:St->Hp->List ab->Prop}{C:vo}{A:ab}{X4:List ab}{gens:List bH}{scope:cO}{pos:Pos}{em:Em}
def QA(a:zU C)(b:gens[k]?=XV ⟨tg,iter,ifs,0⟩)(T:xt X.prog X.w X.K tg J fp it tn)(i:Nat)(st:tn i s.heap)
  (h:codeAny (aw X.prog X.w) X.A (.compLoop (C.ex gens scope pos) k (.ref it) X8 env) P s):
  codeAny (aw X.prog X.w) X.A (.compStart (C.ex gens scope pos) k (.ref it) X8 env) P s:=by
 refine codeAny_of_tree ?_;rw[a.u2,a.d2];refine wpAny_notedAt ?_;unfold compStart;have c:clausesOf (C.ex gens scope pos)=gens:=a.cl _ _ _;simp only[c,b,Option.elim,bne_self_eq_false,bJ,if_false];refine aa (eV (wpAny_ite ?_));split
 ·exact aj (fg (a.q1 _ _ _ _ _ _ _) h)
 ·refine aa (dG ?_);exact aa (dM (aa (T.self _ i s _ _ st (aj (fg (a.q1 _ _ _ _ _ _ _) h)))))
def O7(w:zU C)(y:X.xe=λ_ _=>False)(V:X.calm=YP){sl:List Nat}(M:∀(D F:St)d b o p,Z D d b->(∀j,j∉sl->F[j]?=D[j]?)->Ea A d b o p->Z F o p)(W:∀k,gens[k]?=X9->ym X Z C A X4 (C.ex gens scope pos) gens em k []):∀{i:List bH}{l:List Cl},oO X i l->(∀j∈qm l,j∈sl)->∀k,gens.drop k=i->ym X Z C A X4 (C.ex gens scope pos) gens em k l
 | _,_,.nil,_,k,hd=>W k (by
   have:=congrArg kB hd;simp at this;exact aT.mpr 'd')
 | ⟨tg,iter,ifs,_⟩::gs,c::cs,.cons hi hs hg hf r,HL,k,hd=>by
  have N:gens[k]?=XV ⟨tg,iter,ifs,0⟩:=by
   have:(gens.drop k)[0]?=XV ⟨tg,iter,ifs,0⟩:=by rw[hd];rfl
   simpa using this
  have Y:gens.drop (k+1)=gs:=by
   have:=congrArg (List.drop 1) hd;simpa [ei,ma] using this
  have hb:=O7 w y V M W r (λj m=>HL j (av _ m)) (k+1) Y;have hn:gens[k+1]?=X9 \/ ∃Ad sD uR,gens[k+1]?=XV ⟨Ad,sD,uR,0⟩:=by
   have e:gens[k+1]?=gs[0]?:=by rw[<- Y];simp
   cases r with
   |nil=>exact .inl (by rw[e];rfl)
   |cons _ _ _ _ _=>exact .inr ⟨_,_,_,by rw[e];rfl⟩
  intro a s P H G u O n Q E z B q;unfold yR;rw[N];simp only[bne_self_eq_false,bJ,if_false];cases g:c.it u O with
  |exc R O'=>unfold tQ at q;rw[g] at q;exact q.elim
  |bad=>unfold tQ at q;rw[g] at q;exact q.elim
  | ok src O1=>
   have t:xE X C A X4 a P H G (qm (c::cs)) (qD src (tX c cs em u) (src.size O1) 0 O1 n) Q:=by
    have:=q;unfold tQ at this;rw[g] at this;exact this
   refine aa (yZ y (hi.out a s P H (λJ d=>∃b,Ext H G d b/\ou X.K d (A::X4) b O1/\oG X.K J src d (A::X4) b) B.inv ⟨A::X4,G,u,O,B.env,B.cells,by rw[g];exact λJ d b x c S=>⟨b,x,c,S⟩⟩) λv s1 h1=>?_);refine aa (dM ?_);refine aa (jl (hs v) ?_);refine aa (bD (yZ y h1 λEE s2 h2=>?_));obtain⟨it,fp,tn,J,o,e,I2,T,qu,f2,p,I,c2,S⟩:=h2;subst e;refine aa (wpAny_runOwn (h:=X9) ?_);show codeAny _ X.A _ _ _;have nA:A∉G:=λm=>B.cells.nh A m 'k';refine QA w N T 0 qu ?_;refine gf (Pq w (A:=A) (X4:=X4) (em:=em) (c:=c) (cs:=cs) y V N hg hf (λD F d b o p z1 k1 x1=>M D F d b o p z1 (λj hj=>k1 j λm=>hj (HL j m)) x1) hb hn T a s2 P o p u O1 n (src.size O1) (λL=>Q L) qu f2 S (M _ _ _ _ _ _ z (λ_ _=>rfl) I.ea) ⟨I2,B.env.ext I,c2,w.keep B.grown nA I⟩ ?_) λr L hr=>?_
   ·cases U:qD src (tX c cs em u) (src.size O1) 0 O1 n with
    |exc R O'=>rw[U] at t;exact t.elim
    |bad=>rw[U] at t;exact t.elim
    | ok qp O'=>
     rw[U] at t;exact λL pY H' f_ I' x' R g' l' k'=>t L pY H' f_ I' (I.ea.trans x') R g' l' k'
   ·obtain⟨f,rfl,hq⟩:=hr;exact aj hq
end
noncomputable def ql(X:Cx)(N':List Str)(scope:cO)(cells:List (Str×ab))(C:ab)(s:af)(H:Hp)(fp:List ab):Cx:=
 { X with
  N:=N',s₀:=s,H₀:=H
  env:={ scope:=relabel scope X.env,locals:=C,globals:=X.env.globals,cells:=cells,qual:=X.env.qual,func:=X9,code:=X.env.code,frame:=X.env.frame,builtins:=X.env.builtins }
  outer:=X.stack,ex:=fp,fn:=λx=>scope.names.lookup x==XV .cell,pn:=[],xe:=λ_ _=>False }
structure vk(sc scope:cO)(N':List Str)(sl:List Nat):Prop where
 kind:scope.kind=.function
 nd:(scope.names.map (·.1)).Nodup
 frees:∀y∈scope.names,y.2=.free->sc.names.lookup y.1=XV .cell\/sc.names.lookup y.1=XV .free
 own:∀(i:Nat)x,N'[i]?=XV x->(x,NameKind.local)∈scope.names\/(x,dD)∈scope.names->i∈sl
theorem yp{a:Type}:∀{l:List (Str×a)}{x:Str}{b:a},(l.map (·.1)).Nodup->(x,b)∈l->l.lookup x=XV b
 |[],_,_,_,h=>by cases h
 | (y,c)::r,x,b,nd,h=>by
  obtain⟨d,f⟩:=bw.mp nd;rcases am.mp h with e|h
  ·cases e;simp[d9]
  ·have g:x≠y:=λe=>d (aB.mpr ⟨(x,b),h,e⟩);rw[d9];have:(x==y)=Y1:=by simpa using g
   rw[this];exact yp f h
theorem KC(env:Env)(x:Str):∀(names:List (Str×dg)),(names.map λ(n,k)=>if (k==c9&&env.scope.kind == .function&&env.kindOf n==XV .cell) then (n,dD) else (n,k)).lookup x =
  (names.lookup x).map λk=>if (k==c9&&env.scope.kind == .function&&env.kindOf x==XV .cell) then dD else k
 |[]=>rfl
 | (n,k)::r=>by
  show List.lookup x ((if (k==c9&&env.scope.kind == .function&&env.kindOf n==XV .cell)=YP then (n,dD) else (n,k))::_)=_;cases a:x==n with
  | true=>
   have e:x=n:=by simpa using a
   subst e;simp only[d9,a,kn];split
   ·rename_i h;simp[d9,h]
   ·rename_i h;simp[d9,h]
  | false=>
   have b:=KC env x r;simp only[d9,a];rw[<- b];split<;>simp only[d9,a]
def RI(h:u6 (relabel scope env) x):(x,NameKind.local)∈scope.names\/(x,dD)∈scope.names\/(x,c9)∈scope.names:=by
 unfold u6 relabel at h;simp only[KC] at h;cases e:scope.names.lookup x with
 |none=>rw[e] at h;simp at h
 | some k=>
  have m:=bL e;cases k with
  | «local»=>exact .inl m
  |cell=>exact .inr (.inl m)
  |free=>exact .inr (.inr m)
  |_=>rw[e] at h;simp at h
noncomputable def rN(cells:List (Str×ab)):List (Str×dg)->List (Str×ab)->List (Str×ab)
 |[],X8=>X8
 |(n,k)::r,X8=>if k == .free then rN cells r ((n,(cells.lookup n).getD 0)::X8) else rN cells r X8
def RX(h:∀y∈scope.names,y.2=.free->∃c,env.cells.lookup y.1=XV c):closureFor scope env=pure (rN env.cells scope.names []):=by
 have f:∀(b:List (Str×dg))(d:List (Str×ab)),(∀y∈b,y.2=.free->∃c,env.cells.lookup y.1=XV c)->
   (forIn b d λ(x:Str×dg)(e:List (Str×ab))=>(if x.2 == .free then (do let a <- cellOf env x.1;pure (fY ((x.1,a)::e))) else pure (fY e):Sem _))=pure (rN env.cells b d):=by
  intro b
  induction b with
  |nil=>intro d _;rfl
  | cons y r ih=>
   intro d g;obtain⟨n,k⟩:=y;rw[iW];unfold rN;by_cases i:(k==c9)=YP
   ·obtain⟨c,l⟩:=g (n,k) al (by simpa using i);have o:cellOf env n=pure c:=by unfold cellOf;rw[l]
    simp only[i,if_true,o,pure_bind,l,Option.getD_some];exact ih _ λy j=>g y (ai _ j)
   ·simp only[i,if_false,pure_bind,bJ];exact ih _ λy j=>g y (ai _ j)
 have:=f scope.names [] h;unfold closureFor;refine Eq.trans ?_ (congrArg (λm=>m >>= λe=>pure e) this);congr 1
theorem G7:∀(names:List (Str×dg))(X8:List (Str×ab)),(x,c)∈rN cells names X8->(x,c)∈X8\/((x,c9)∈names/\c=(cells.lookup x).getD 0)
 |[],X8,h=>.inl h
 | (n,k)::r,X8,h=>by
  unfold rN at h;by_cases a:(k==c9)=YP
  ·rw[Y2 a] at h;rcases G7 r _ h with m|⟨m,e⟩
   ·rcases am.mp m with m|m
    ·cases m;have:k=.free:=by simpa using a
     subst this;exact .inr ⟨al,rfl⟩
    ·exact .inl m
   ·exact .inr ⟨ai _ m,e⟩
  ·rw[Z5 a] at h;rcases G7 r _ h with m|⟨m,e⟩
   ·exact .inl m
   ·exact .inr ⟨ai _ m,e⟩
theorem Ks:∀(names:List (Str×dg))(X8:List (Str×ab)),p∈X8->p∈rN cells names X8
 |[],X8,h=>h
 | (n,k)::r,X8,h=>by
  unfold rN;split
  ·exact Ks r _ (ai _ h)
  ·exact Ks r _ h
theorem G_:∀(names:List (Str×dg))(X8:List (Str×ab)),(x,c9)∈names->(x,(cells.lookup x).getD 0)∈rN cells names X8
 | (n,k)::r,X8,h=>by
  unfold rN;rcases am.mp h with e|h
  ·cases e;rw[Y2 'u'];exact Ks r _ al
  ·split
   ·exact G_ r _ h
   ·exact G_ r _ h
theorem IY:∀(names:List (Str×dg))(n:Nat)(X8:List (Str×ab)),(x,c)∈cx n names X8->(x,c)∈X8\/((x,dD)∈names/\n<=c)
 |[],n,X8,h=>.inl h
 | (y,k)::r,n,X8,h=>by
  unfold cx at h;by_cases a:(k==dD)=YP
  ·rw[Y2 a] at h;rcases IY r _ _ h with m|⟨m,e⟩
   ·rcases am.mp m with m|m
    ·cases m;have:k=.cell:=by simpa using a
     subst this;exact .inr ⟨al,aD _⟩
    ·exact .inl m
   ·exact .inr ⟨ai _ m,mC e⟩
  ·rw[Z5 a] at h;rcases IY r _ _ h with m|⟨m,e⟩
   ·exact .inl m
   ·exact .inr ⟨ai _ m,e⟩
theorem I9:∀(names:List (Str×dg))(n:Nat)(X8:List (Str×ab)),p∈X8->p∈cx n names X8
 |[],_,_,h=>h
 | (y,k)::r,n,X8,h=>by
  unfold cx;split
  ·exact I9 r _ _ (ai _ h)
  ·exact I9 r _ _ h
theorem JS:∀(names:List (Str×dg))(n:Nat)(X8:List (Str×ab)),(X8.Pairwise λx y=>x.2≠y.2)->(∀p∈X8,p.2<n)->(cx n names X8).Pairwise λx y=>x.2≠y.2
 |[],_,_,h,_=>h
 | (y,k)::r,n,X8,h,hl=>by
  unfold cx;split
  ·refine JS r (n+1) _ (bK.mpr ⟨λp hp=>?_,h⟩) λp hp=>?_
   ·exact λe=>absurd (hl p hp) (by show ¬ p.2<n;rw[<- e];exact bz _)
   ·rcases am.mp hp with rfl|hp
    ·exact cH _
    ·exact cZ (hl p hp)
  ·exact JS r n X8 h hl
theorem J8:∀(names:List (Str×dg))(n:Nat)(X8:List (Str×ab)),((names.map (·.1)).Nodup)->(X8.map (·.1)).Nodup->(∀p∈X8,∀k,(p.1,k)∈names->k≠dD)->((cx n names X8).map (·.1)).Nodup
 |[],_,_,_,h,_=>h
 | (y,k)::r,n,X8,nd,h,hl=>by
  obtain⟨f,d⟩:=bw.mp nd;unfold cx;by_cases c:(k==dD)=YP
  ·rw[Y2 c];have g:k=.cell:=by simpa using c
   refine J8 r (n+1) _ d (bw.mpr ⟨λm=>?_,h⟩) λp hp a b=>?_
   ·obtain⟨p,hp,e⟩:=aB.mp m;exact hl p hp k (by rw[e];exact al) g
   ·rcases am.mp hp with rfl|hp
    ·exact absurd (aB.mpr ⟨(y,a),b,rfl⟩) f
    ·exact hl p hp a (ai _ b)
  ·rw[Z5 c];exact J8 r n X8 d h λp hp a b=>hl p hp a (ai _ b)
theorem He:∀(names:List (Str×dg))(X8:List (Str×ab)),((names.map (·.1)).Nodup)->(X8.map (·.1)).Nodup->(∀p∈X8,p.1∉names.map (·.1))->((rN cells names X8).map (·.1)).Nodup
 |[],_,_,h,_=>h
 | (y,k)::r,X8,nd,h,hl=>by
  obtain⟨b,a⟩:=bw.mp nd;unfold rN;split
  ·refine He r _ a (bw.mpr ⟨λm=>?_,h⟩) λp hp=>?_
   ·obtain⟨p,hp,e⟩:=aB.mp m;exact hl p hp (by rw[e];simp)
   ·rcases am.mp hp with rfl|hp
    ·exact b
    ·exact λm=>hl p hp (ai _ m)
  ·exact He r X8 a h λp hp m=>hl p hp (ai _ m)
theorem JE:∀(names:List (Str×dg))(h:aX)(X8:List (Str×ab)),(x,c)∈cx h.objs.size names X8->(x,c)∈X8\/(md h names).IsCell c X9
 |[],_,_,m=>.inl m
 | (y,k)::r,h,X8,m=>by
  unfold cx at m;unfold md;by_cases a:(k==dD)=YP
  ·rw[Y2 a] at m ⊢;have e:h.objs.size+1=(h.push { cls:=.type "cell",data:=.cell X9 }).objs.size:=(dh ..).symm;rw[e] at m;rcases JE r _ _ m with m|m
   ·rcases am.mp m with m|m
    ·cases m;exact .inr ⟨_,iX _ _ _ _ (aJ _ rfl),rfl⟩
    ·exact .inl m
   ·exact .inr m
  ·rw[Z5 a] at m ⊢;exact JE r _ _ m
def z8b{l:List (Str×ab)}(d:(l.map (·.1)).Nodup)(inj:∀p∈l,∀q∈l,p.2=q.2->p.1=q.1):l.Pairwise λx y=>x.2≠y.2:=by
 induction l with
 |nil=>exact .nil
 | cons p r ih=>
  obtain⟨f,g⟩:=bw.mp d;refine bK.mpr ⟨λq c e=>f ?_,ih g λa h b i=>inj a (ai _ h) b (ai _ i)⟩;exact aB.mpr ⟨q,c,(inj p al q (ai _ c) e).symm⟩
abbrev C7:Obj:={ cls:=.type "dict",data:=.dict #[] }
section
variable{X:Cx}{X5:List (ab×Obj)}{d_:St}{H:Hp}{s:af}
abbrev F8(ob:Obj)(h:aX)(names:List (Str×dg)):aX:=md ((h.push ob).push C7) names
def RN(ob:Obj)(h:aX)(a:List (Str×dg))(b:ab)(o:Obj)(e:h.get? b=XV o):(F8 ob h a).get? b=XV o:=iX _ _ _ _ (ag _ (ag _ e))
def Uq(ob:Obj)(h:aX):((h.push ob).push C7).objs.size=h.objs.size+2:=by rw[dh,dh]
def zcG{scope:cO}{ext:List Str}{sl:List Nat}{E:List ab}(I:L2.Inv X X5 d_ H s)(B:∀b∈E,si X X5 H b)(O:∀b∈E,b<s.heap.objs.size)(g:vk X.env.scope scope (X.N++ext) sl){ob:Obj}{u:HO}(Y:ob.isFreed=Y1)(Z:∀h:aX,h.get? s.heap.objs.size=XV ob->oN X.prog X.w (upd H s.heap.objs.size u) h s.heap.objs.size u):
  L2.Inv (ql X (X.N++ext) scope (cx (s.heap.objs.size+2) scope.names (rN X.env.cells scope.names [])) (s.heap.objs.size+1) s H E) [] (qo (d_++aP ext.length X9) sl)
   (upd H s.heap.objs.size u) { s with heap:=F8 ob s.heap scope.names }:=by
 have P:∀x c,X.env.cells.lookup x=XV c->c<s.heap.objs.size:=λx c e=>by
  obtain⟨v,z⟩:=I.cell x c e;exact z.lt
 -- a free name of the block has h_ cell around
 have Q:∀x,(x,c9)∈scope.names->∃c,X.env.cells.lookup x=XV c:=λx f=>I.ok.has x (g.frees _ f rfl);have t:∀x c,(x,c)∈rN X.env.cells scope.names []->(x,c9)∈scope.names/\X.env.cells.lookup x=XV c:=λx c hm=>by
  rcases G7 _ _ hm with m|⟨m,e⟩
  ·cases m
  ·obtain⟨c',R⟩:=Q x m;rw[R] at e;exact⟨m,by rw[e];exact R⟩
 have F:∀x,(x,c9)∈scope.names->∀c,X.env.cells.lookup x=XV c->(x,c)∈rN X.env.cells scope.names []:=λx f c e=>by
  have:=G_ (cells:=X.env.cells) scope.names [] f;rw[e] at this;exact this
 have S:((rN X.env.cells scope.names []).map (·.1)).Nodup:=He _ _ g.nd 'k' (by intro p l;cases l);have G:((cx (s.heap.objs.size+2) scope.names (rN X.env.cells scope.names [])).map (·.1)).Nodup:=J8 _ _ _ g.nd S λp l k hk e=>by
  subst e;have j:=(t p.1 p.2 l).1;have:=yp g.nd j;rw[yp g.nd hk] at this;cases this
 have r:(cx (s.heap.objs.size+2) scope.names (rN X.env.cells scope.names [])).Pairwise λx y=>x.2≠y.2:=by
  refine JS _ _ _ (z8b S λp l q hq e=>?_) λp l=>a9 (P _ _ (t p.1 p.2 l).2) (iD _ _);refine I.ok.inj p.1 q.1 p.2 (t p.1 p.2 l).2 ?_;rw[e];exact(t q.1 q.2 hq).2
 have J:∀x c,(cx (s.heap.objs.size+2) scope.names (rN X.env.cells scope.names [])).lookup x=XV c->((x,c9)∈scope.names/\X.env.cells.lookup x=XV c)\/((x,dD)∈scope.names/\s.heap.objs.size+2<=c):=λx c e=>by
  rcases IY _ _ _ (bL e) with m|m
  ·exact .inl (t x c m)
  ·exact .inr m
 have d:∀a,s.heap.objs.size<=a->H a=X9:=λa ha=>I.hok.fresh ha;have C:=RN ob s.heap scope.names;have T:∀x,(x,c9)∈scope.names->∀c,X.env.cells.lookup x=XV c->(cx (s.heap.objs.size+2) scope.names (rN X.env.cells scope.names [])).lookup x=XV c:=λx f c e=>
  yp G (I9 _ _ _ (F x f c e))
 refine⟨⟨I.ok.mod,g.kind,I.ok.glob,I.ok.blt,dZ _,λx y c j K=>name_of_addr r (bL j) (bL K),λx f=>?_,λx c f h=>?_,I.ok.hd,I.ok.frames,.inl rfl,λb n=>⟨?_,λx c e=>?_⟩,I.bs,?_,λb o e n=>?_,λb n z=>?_,I.stack,I.stkFree⟩,
  rfl,I.bare,Un.laid C (aD _) (d _ (aD _)),?_,λx c e=>?_,?_,λx c e=>?_,λp l=>absurd (show p∈([]:List (ab×Obj)) from l) 'k',I.hok.laid C (aD _) ?_,?_,I.tk⟩
 ·-- has
  have f:u6 (relabel scope X.env) x:=.inr f;rcases RI f with m|m|m
  ·exfalso;have e:=yp g.nd m;have U:(relabel scope X.env).names.lookup x=XV .local:=lookup_relabel_local e;rcases (show(relabel scope X.env).names.lookup x=XV .cell\/(relabel scope X.env).names.lookup x=XV .free by rename_i L;exact L) with q|q
   ·rw[U] at q;cases q
   ·rw[U] at q;cases q
  ·exact gP.mp (iq scope.names _ _ (.inl (yp g.nd m)))
  ·obtain⟨c,M⟩:=Q x m;exact⟨c,T x m c M⟩
 ·-- cab
  have f:(scope.names.lookup x==XV .cell)=YP:=f;rcases J x c h with⟨m,_⟩|⟨_,m⟩
  ·rw[yp g.nd m] at f;cases f
  ·exact aE (iD _ _) m
 ·exact bo (cZ (O b n))
 ·rcases J x c e with⟨_,m⟩|⟨_,m⟩
  ·exact(B b n).2.2.2.2.1 x c m
  ·have L:b<s.heap.objs.size:=O b n;exact λz=>by
    rw[z] at m;exact absurd (a9 L (aE (iD _ 2) m)) (bz _)
 ·exact aE I.ok.bsz I.sz
 ·rcases (B b n).2.2.2.1 with z|z
  ·exact I.ok.noex b o e z
  ·exact absurd (a9 (aK e) (aE I.ok.bsz z)) (bz _)
 ·rcases am.mp (I.stkSub b z) with q|q
  ·exact(B b n).2.1 q
  ·exact(B b n).2.2.1 q
 ·-- loc
  refine⟨λ_=>X9,?_,λi x v j K h3=>?_⟩
  ·have z:=(Heap.Ns.new (s.heap.push ob) (.type "dict")).keeps (iX scope.names _);rw[dh] at z;exact z
  ·obtain⟨A,V⟩:=GG _ _ _ _ K;have D:i<d_.length:=by
    by_cases D:i<d_.length
    ·exact D
    ·rw[bq 'd',fN] at A;split at A<;>cases A
   rw[aG D] at A;have zo:X.N[i]?=XV x:=by
    have j:(X.N++ext)[i]?=XV x:=j;rw[aG (by rw[<- I.len];exact D)] at j;exact j
   rcases RI h3 with m|m|m
   ·exact absurd (g.own i x j (.inl m)) V
   ·exact absurd (g.own i x j (.inr m)) V
   ·obtain⟨m0,hn,hl⟩:=I.loc;have W:=g.frees _ m rfl;obtain⟨u,ru,lk⟩:=hl i x v zo A (.inr W);refine⟨u,ru,?_⟩;rcases lk with⟨q,_⟩|⟨q,c,M,z⟩
    ·exfalso;have q:X.env.scope.names.lookup x=XV .local:=q;rcases W with k|k<;>(rw[q] at k;cases k)
    ·refine .inr ⟨?_,c,T x m c M,z.keeps C⟩;have e:=yp g.nd m;show(relabel scope X.env).names.lookup x=XV .cell\/(relabel scope X.env).names.lookup x=XV .free;unfold relabel;simp only[KC,e,kn];split
     ·exact .inl rfl
     ·exact .inr rfl
 ·-- cell
  rcases JE scope.names ((s.heap.push ob).push C7) (rN X.env.cells scope.names []) (x:=x) (c:=c) (by rw[Uq];exact bL e) with m|m
  ·obtain⟨v,z⟩:=I.cell x c (t x c m).2;exact⟨v,z.keeps C⟩
  ·exact⟨X9,m⟩
 ·show upd H s.heap.objs.size u (s.heap.objs.size+1)=X9;rw[qf (eB (cH _))];exact d _ (dZ _)
 ·rcases J x c e with⟨_,m⟩|⟨_,m⟩
  ·rw[qf (bo (P x c m))];exact I.freeC x c m
  ·have ne:c≠s.heap.objs.size:=λz=>by
    rw[z] at m;exact absurd m 'd'
   rw[qf ne];exact d c (aE (iD _ 2) m)
 ·exact Z _ (iX _ _ _ _ (ag _ (aJ _ Y)))
 ·show _=(X.N++ext).length;rw[Dq,az,kP,az,I.len]
end
def xM{α:Type}:R α->R α
 |.ok a O=>.ok a O
 |_=>.bad
def wo(ext:Nat)(it0:DI)(g:Tg)(ts:List DT)(cs:List Cl)(em:Em):Sg->Ow->R (List D):=λσ O=>(it0 σ O).bnd λsrc O1=>
 xM (qD src (tX ⟨it0,g,ts⟩ cs em (qo (σ++aP ext X9) (qm (⟨it0,g,ts⟩::cs)))) (src.size O1) 0 O1 [])
def AQ(ext:Nat)(it0:DI)(g:Tg)(ts:List DT)(cs:List Cl)(te:DE):Sg->Ow->R (List D):=λσ O=>(it0 σ O).bnd λsrc O1=>
 xM (qD src (zS ⟨it0,g,ts⟩ cs te (qo (σ++aP ext X9) (qm (⟨it0,g,ts⟩::cs)))) (src.size O1) 0 O1 [])
def Ku(ext:Nat)(it0:DI)(g:Tg)(ts:List DT)(cs:List Cl)(te:DE):wo ext it0 g ts cs (zG te)=AQ ext it0 g ts cs te:=by funext σ O;unfold wo AQ;rw[Xs]
def ZB(d_:St)(n:Nat)(sl:List Nat)(A:ab)(H0:Hp):St->Hp->List ab->Prop:=λσ H μ=>(∀j,j∉sl->σ[j]?=(d_++aP n X9)[j]?)/\H0 A=X9/\∃FH o,Ea A (upd H0 A o) FH H μ/\∀a∈FH,∃vs,H0 a=XV (.lst vs)
section
variable{C:vo}{em:Em}
variable{X:Cx}{M:iS}{A:a7}{E:ae->af->Prop}{s:af}
def z8B
  (h:Q { scope,locals:=s.heap.objs.size,globals,cells:=cx (s.heap.objs.size+1) scope.names cl,qual,func:=X9,code:=env.code,frame:=env.frame,builtins:=env.builtins } { s with heap:=md (s.heap.push C7) scope.names }):
  ao M A (newFunctionEnv scope globals cl [] qual X9 .none (XV env)) Q E s:=by simp only[newFunctionEnv,l8,if_true];refine aa (wpAny_alloc ?_);refine aa (wpAny_layCells _ (λc a cells=>by cases b:a==dD<;>simp[b]) _ _ _ _ ?_);rw[show({ s with heap:=s.heap.push C7 }:af).heap.objs.size=s.heap.objs.size+1 from dh ..];simp only[List.forIn_nil,pure_bind];exact aj h
structure NU(X:Cx)(C:vo)(X5:List (ab×Obj))(d_:St)(H:Hp)(X4 μ:List ab)(L Cn:ab)(X8:List D)(O:Ow)(s':af):Prop where
 inv:∃H' f_,L2.Inv X X5 d_ H' s'/\Ext H μ H' f_/\ou X.K H' (L::X4) f_ O/\H L=X9/\H' Cn=X9/\C.G X.K X.prog X.w L X4 H' f_ X8
 ns:∃m,s'.heap.Ns Cn m
 loc:Cn≠X.env.locals
 young:X.s₀.heap.objs.size<=Cn
 cel:∀x c,X.env.cells.lookup x=XV c->c≠Cn
 pns:∀p∈X.pn++X5,p.1≠Cn
def Inv.bare{a:List (ab×Obj)}{j:St}{H:Hp}{f:af}{C:ab}{h':aX}(I:L2.Inv X a j H f)(k:cG C f.heap h')(l:H C=X9)(g:C≠X.env.locals)(d:X.s₀.heap.objs.size<=C)(h:∀x c,X.env.cells.lookup x=XV c->c≠C)
  (i:∀p∈X.pn++a,p.1≠C):L2.Inv X a j H { f with heap:=h' }:=I.turned (t':=f.toks) (λb o m e=>(k.2 b m).trans e) l g (.inr d) h i
def zbn(Y:zU C)
  {it:ab} {B:List ab} {tn:Nat->aX->Prop} {J:It} {RR:ae->ab->Result->af->Prop}
  (o_:X.calm=YP) (Z:vk X.env.scope scope (X.N++ext) (qm (⟨it0,g,ts⟩::cs)))
  (rS:∀cells Cn,PG (ql X (X.N++ext) scope cells Cn s H B) tg (g.rd X.K)/\bU (λe t=>qZ (ql X (X.N++ext) scope cells Cn s H B) qr e t) ifs ts/\oO (ql X (X.N++ext) scope cells Cn s H B) gs cs/\∀A X4 k,(⟨tg,iter,ifs,0⟩::gs:List bH)[k]?=X9->ym (ql X (X.N++ext) scope cells Cn s H B) (ZB d_ ext.length (qm (⟨it0,g,ts⟩::cs)) A H) C A X4 (C.ex (⟨tg,iter,ifs,0⟩::gs) scope pos) (⟨tg,iter,ifs,0⟩::gs) em k [])
  (I:L2.Inv X X5 d_ H s) (e1:oz X.K H X4 μ σ d_) (R:ou X.K H X4 μ O) (T:xt X.prog X.w X.K tg J B it tn) (st:tn 0 s.heap) (xX:∀b∈B,si X X5 H b) (sa:oG X.K J src H X4 μ)
  (hw:qD src (tX ⟨it0,g,ts⟩ cs em (qo (σ++aP ext.length X9) (qm (⟨it0,g,ts⟩::cs)))) (src.size O) 0 O []=.ok X8 O2)
  (hRR:∀f D,NU X C X5 d_ H X4 μ s.heap.objs.size (s.heap.objs.size+1) X8 O2 D->RR (.ref s.heap.objs.size) (s.heap.objs.size+1) (.ok f) D):
  ao (aw X.prog X.w) X.A C.new (λac wx=>ao (aw X.prog X.w) X.A (newFunctionEnv scope X.env.globals (rN X.env.cells scope.names []) [] X.env.qual X9 .none (XV X.env)) (λFA KR=>
   codeAny (aw X.prog X.w) X.A (.compStart (C.ex (⟨tg,iter,ifs,0⟩::gs) scope pos) 0 (.ref it) ac { FA with scope:=relabel scope X.env }) (RR ac FA.locals) KR) E wx) E s:=by
 refine Y.new λG LU tU=>?_;refine z8B ?_;have hsz:(s.heap.push G).objs.size=s.heap.objs.size+1:=dh ..;have q0:∀b∈B,b<s.heap.objs.size:=λb Z=>by
  obtain⟨o,ho,_⟩:=T.obj 0 _ st b Z;exact aK ho
 have IB:=zcG (u:=C.ho X.prog X.w s.heap.objs.size) I xX q0 Z LU (λh=>tU H h _ I.big);have F:H s.heap.objs.size=X9:=I.hok.fresh (aD _);have qx:∀b∈B,b≠s.heap.objs.size:=λb Z=>bo (q0 b Z);obtain⟨b1,b2,b3,b4⟩:=rS (cx (s.heap.objs.size+2) scope.names (rN X.env.cells scope.names [])) (s.heap.objs.size+1);generalize l:ql X (X.N++ext) scope (cx (s.heap.objs.size+2) scope.names (rN X.env.cells scope.names [])) (s.heap.objs.size+1) s H B=y at IB b1 b2 b3 b4;have eP:y.prog=X.prog:=by rw[<- l];rfl
 have eW:y.w=X.w:=by rw[<- l];rfl
 have L:y.K=X.K:=by rw[<- l];rfl
 have eA:y.A=X.A:=by rw[<- l];rfl
 have ex:y.xe=λ_ _=>False:=by rw[<- l];rfl
 have ec:y.calm=YP:=by rw[<- l];exact o_
 have Bw:y.env={ scope:=relabel scope X.env,locals:=s.heap.objs.size+1,globals:=X.env.globals,cells:=cx (s.heap.objs.size+2) scope.names (rN X.env.cells scope.names []),qual:=X.env.qual,func:=X9,code:=X.env.code,frame:=X.env.frame,builtins:=X.env.builtins }:=by rw[<- l];rfl
 have Fw:({ ({ scope,locals:=(s.heap.push G).objs.size,globals:=X.env.globals,cells:=cx ((s.heap.push G).objs.size+1) scope.names (rN X.env.cells scope.names []),qual:=X.env.qual,func:=X9,code:=X.env.code,frame:=X.env.frame,builtins:=X.env.builtins }:Env) with scope:=relabel scope X.env }:Env)=y.env:=by
  rw[Bw,hsz]
 show codeAny _ _ (.compStart _ 0 _ _ ({ ({ scope,locals:=(s.heap.push G).objs.size,globals:=X.env.globals,cells:=cx ((s.heap.push G).objs.size+1) scope.names (rN X.env.cells scope.names []),qual:=X.env.qual,func:=X9,code:=X.env.code,frame:=X.env.frame,builtins:=X.env.builtins }:Env) with scope:=relabel scope X.env }:Env)) (RR _ (s.heap.push G).objs.size) _;rw[Fw,hsz];have K3:Mv H X4 μ (upd H s.heap.objs.size (C.ho X.prog X.w s.heap.objs.size)) (s.heap.objs.size::X4) μ:=(Mv.hide F).trans ⟨⟨[],by simp⟩,λb o h _ n2 _=>by rw[qf (λz=>n2 (by simp[z]))];exact h,λ_ m=>.inl m,λ_ m=>.inl m,xg,λ_ t=>t.upd (.inl F)⟩;have c2:ou X.K (upd H s.heap.objs.size (C.ho X.prog X.w s.heap.objs.size)) (s.heap.objs.size::X4) μ O:=by
  refine⟨R.len,R.nd,λa m z=>?_,λa m=>?_,λk a e=>?_⟩
  ·rcases am.mp z with rfl|z
   ·exact(R.not_in F).2 m
   ·exact R.nh a m z
  ·rcases am.mp m with rfl|m
   ·rw[rA];simp
   ·exact xg a (R.ht a m)
  ·obtain⟨ds,vs,U,V,h3⟩:=R.at_ k a e;exact⟨ds,vs,U,by rw[qf (sk V F)];exact V,h3.mv K3⟩
 have e2:oz X.K (upd H s.heap.objs.size (C.ho X.prog X.w s.heap.objs.size)) (s.heap.objs.size::X4) μ (qo (σ++aP ext.length X9) (qm (⟨it0,g,ts⟩::cs))) (qo (d_++aP ext.length X9) (qm (⟨it0,g,ts⟩::cs))):=by
  refine⟨by rw[Dq,Dq,az,az,e1.len];simp,λi d h=>?_⟩;obtain⟨g1,g2⟩:=GG _ _ _ _ h;have hi:i<σ.length:=by
   by_cases hi:i<σ.length
   ·exact hi
   ·rw[bq 'd',fN] at g1;split at g1<;>cases g1
  rw[aG hi] at g1;obtain⟨v,U,V⟩:=e1.at_ i d g1;exact⟨v,by rw[Jo _ _ _ g2,aG (by rw[<- e1.len];exact hi)];exact U,V.mv K3⟩
 have LV:∀b∈B,si y [] (upd H s.heap.objs.size (C.ho X.prog X.w s.heap.objs.size)) b:=λb Q=>by
  obtain⟨f0,f1,f2,f3,f4,f5⟩:=xX b Q;have U:=IB.ok.exf;refine⟨by rw[qf (qx b Q)];exact f0,?_,?_,.inl ?_,?_,?_⟩
  ·exact(U b (by rw[<- l];exact Q)).1
  ·rw[<- l];exact λz=>IB.ok.exfs b (by rw[<- l];exact Q) (by rw[<- l];exact z)
  ·rw[<- l];exact Q
  ·exact(U b (by rw[<- l];exact Q)).2
  ·rw[<- l];exact λp hp=>absurd (show p∈([]:List (ab×Obj)) from hp) 'k'
 have i_:tn 0 (F8 G s.heap scope.names):=T.keep _ _ _ st λb _ o e=>RN _ _ _ _ _ e;have T':xt y.prog y.w y.K tg J B it tn:=by rw[eP,eW,L];exact T
 have S9:∀(qW rm:St)H1 g_ H2 pW,ZB d_ ext.length (qm (⟨it0,g,ts⟩::cs)) s.heap.objs.size H qW H1 g_->(∀j,j∉qm (⟨it0,g,ts⟩::cs)->rm[j]?=qW[j]?)->Ea s.heap.objs.size H1 g_ H2 pW->ZB d_ ext.length (qm (⟨it0,g,ts⟩::cs)) s.heap.objs.size H rm H2 pW:=
  λqW rm H1 g_ H2 pW ⟨z1,z2,FH,o,z3,z4⟩ k1 x1=>⟨λj hj=>(k1 j hj).trans (z1 j hj),z2,FH,o,z3.trans x1,z4⟩
 have key:=Pq (X:=y) Y (A:=s.heap.objs.size) (X4:=X4) (gens:=⟨tg,iter,ifs,0⟩::gs) (scope:=scope) (pos:=pos) (em:=em) (k:=0) (c:=⟨it0,g,ts⟩) (cs:=cs) ex ec rfl (by rw[L];exact b1) b2 S9 (O7 Y ex ec (sl:=qm (⟨it0,g,ts⟩::cs)) S9 (b4 _ _) b3 (λj m=>av _ m) 1 rfl) (by
   cases b3 with
   |nil=>exact .inl rfl
   |cons _ _ _ _ _=>exact .inr ⟨_,_,_,rfl⟩) T' [] { s with heap:=F8 G s.heap scope.names } (qo (d_++aP ext.length X9) (qm (⟨it0,g,ts⟩::cs))) (upd H s.heap.objs.size (C.ho X.prog X.w s.heap.objs.size)) μ (qo (σ++aP ext.length X9) (qm (⟨it0,g,ts⟩::cs))) O [] (src.size O)
   (λD=>NU X C X5 d_ H X4 μ s.heap.objs.size (s.heap.objs.size+1) X8 O2 D) i_ LV (by rw[L];exact sa.mv K3) ⟨λj hj=>Jo _ _ _ hj,F,μ,_,.refl,λa m=>by
    obtain⟨k,e⟩:=List.getElem?_of_mem m;obtain⟨_,vs,_,V,_⟩:=R.at_ k a e;exact⟨vs,V⟩⟩ ⟨IB,by rw[L];exact e2,by rw[L];exact c2,by rw[L,eP,eW];exact Y.g0⟩ ?_
 ·have ED:=QA (X:=y) Y (gens:=⟨tg,iter,ifs,0⟩::gs) (scope:=scope) (pos:=pos) (env:=y.env) rfl T' 0 i_ key;rw[eP,eW,eA] at ED;exact gf ED λr D ⟨f,hr,q⟩=>by subst hr;exact hRR f D q
 ·rw[hw];intro D pY H' f_ W x' c' g' l' k';rw[L] at c';rw[L,eP,eW] at g';have xe:Ext H μ H' f_:=⟨x'.pre,λb o h n ht=>x'.kept b o (by rw[qf (sk h F)];exact h) n (sk h F) ht,λb m=>(x'.fresh b m).imp id λz=>by
   by_cases q:b=s.heap.objs.size
   ·rw[q];exact F
   ·rw[qf q] at z;exact z,λb h=>x'.there b (xg b h),λP t=>x'.tab P (t.upd (.inl F))⟩
  have un:Un (uH X.stack) B H H' s.heap D.heap:=by
   have:=W.base;rw[<- l] at this;exact this
  have os:D.os=s.os:=by
   have:=W.os;rw[<- l] at this;exact this
  have hok:HOk X.prog X.w H' D.heap:=by
   have:=W.hok;rw[eP,eW] at this;exact this
  have IX:L2.Inv X X5 d_ H' D:=I.call' os un hok W.bare λb Q=>by
   obtain⟨f0,f1,f2,f3,f4,f5⟩:=xX b Q;exact⟨f3,f1,f4,f5⟩
  have S:∀b,b<s.heap.objs.size->b≠s.heap.objs.size+1:=λb h=>bo (cZ h);refine⟨⟨H',f_,IX,xe,c',F,?_,g'⟩,?_,?_,?_,λx c e=>?_,λp hp=>?_⟩
  ·have:=W.free;rw[Bw] at this;exact this
  ·obtain⟨m,hn,_⟩:=W.loc;rw[Bw] at hn;exact⟨m,hn⟩
  ·exact(S _ I.lt).symm
  ·exact aE I.sz (dZ _)
  ·obtain⟨v,z⟩:=I.cell x c e;exact S _ z.lt
  ·exact S _ (aK (I.pin p hp).1)
end
section
variable{X:Cx}{Ex:Nat->Hp->Prop}
def Xo{α:Type}{r:R α}{a:α}{O:Ow}(h:xM r=.ok a O):r=.ok a O:=by
 cases r with
 |ok _ _=>exact h
 |exc _ _=>cases h
 |bad=>cases h
def XG{α:Type}{r:R α}{c:Nat}{O:Ow}(h:xM r=.exc c O):False:=by cases r<;>cases h
def CV(C:vo)(Ex:Nat->Hp->Prop)(K:ah)(P:aM)(w:aV)(H:Hp)(X4 μ:List ab)(r:R (List D))(Q:ab->Hp->Prop):Prop:=match r with
 |.ok X8 O'=>∀L H' f_,H L=X9->Ext H μ H' f_->ou K H' (L::X4) f_ O'->C.G K P w L X4 H' f_ X8->Q L H'
 |.exc c O'=>∀H' f_,Ext H μ H' f_->ou K H' X4 f_ O'->Ex c H'
 |.bad=>False
def Ext.none{H H':Hp}{μ a:List ab}(e:Ext H μ H' a){L:ab}(h:H' L=jk):H L=jk:=by
 cases q:H L with
 |none=>rfl
 |some o=>exact absurd h (e.there L (by rw[q];simp))
def Cf{C:vo}(co:zU C){em:Em}{o a:aR}{i:List aR}{gs:List bH}{scope:cO}{pos p_:Pos}{ext:List Str}{it0:DI}{g:Tg}{ts:List DT}{cs:List Cl}{d:List (ab×Obj)}{r:St}{H:Hp}{s:af}{X4 μ:List ab}{σ:Sg}{O:Ow}
  {use:Option (ae->Sem Unit)} {Q:ae->af->Prop} (o_:X.calm=YP) (hi:sZ X Ex o a it0) (F:vk X.env.scope scope (X.N++ext) (qm (⟨it0,g,ts⟩::cs)))
  (rS:∀cells h j H' u,L2.Inv X d r H' j->(∀b∈u,si X d H' b)->(∃P,Ext H μ H' P)->PG (ql X (X.N++ext) scope cells h j H' u) o (g.rd X.K)/\bU (λe t=>qZ (ql X (X.N++ext) scope cells h j H' u) qr e t) i ts/\oO (ql X (X.N++ext) scope cells h j H' u) gs cs/\∀A X4 k,(⟨o,a,i,0⟩::gs:List bH)[k]?=X9->ym (ql X (X.N++ext) scope cells h j H' u) (ZB r ext.length (qm (⟨it0,g,ts⟩::cs)) A H') C A X4 (C.ex (⟨o,a,i,0⟩::gs) scope pos) (⟨o,a,i,0⟩::gs) em k [])
  (hs:∀x,bF a X.env x=pure x) (I:L2.Inv X d r H s) (R:oz X.K H X4 μ σ r) (c1:ou X.K H X4 μ O)
  (q:CV C Ex X.K X.prog X.w H X4 μ (wo ext.length it0 g ts cs em σ O)
   (λ(L:ab)H'=>∀j h,L2.Inv X d r H' j->(∃m,j.heap.Ns h m)->H' h=X9->h≠X.env.locals->X.s₀.heap.objs.size<=h->(∀x c,X.env.cells.lookup x=XV c->c≠h)->(∀p∈X.pn++d,p.1≠h)->
    compPost (aw X.prog X.w) X.A X.xe use Q (.ref L) h (.ok .next) j)):
  ao (aw X.prog X.w) X.A (comprehension (C.ex (⟨o,a,i,0⟩::gs) scope pos) scope X.env p_ C.new Y1 (eval a X.env) use) Q X.xe s:=by
 have qH:∀y∈scope.names,y.2=.free->∃c,X.env.cells.lookup y.1=XV c:=λy hy hf=>by
  obtain⟨n,k⟩:=y;subst hf;exact I.ok.has n (F.frees _ hy rfl)
 refine wpAny_comprehension_free (g:=⟨o,a,i,0⟩) (gs:=gs) (co.cl _ _ _) hs (RX qH) F.kind (λx hx hl=>?_) ?_
 ·obtain⟨n,k⟩:=x;subst hl;exact yp F.nd hx
 unfold wo at q;cases l:it0 σ O with
 |bad=>rw[l] at q;exact ak q
 | exc S O'=>
  rw[l] at q;refine qc (hi.out d s r H (λJ D=>False) I ⟨X4,μ,σ,O,R,c1,by rw[l];exact q⟩) λv s1 U=>qc U λEE V W=>?_;obtain⟨it,u,tn,J,H2,e,Y,T,qu,Z,z⟩:=W;exact z.elim
 | ok src O2=>
  rw[l] at q;refine qc (hi.out d s r H (λJ D=>∃E,Ext H μ D E/\ou X.K D X4 E O2/\oG X.K J src D X4 E) I ⟨X4,μ,σ,O,R,c1,by rw[l];exact λJ D E x c sa=>⟨E,x,c,sa⟩⟩) λv s1 U=>qc U λEE V W=>?_;obtain⟨it,u,tn,J,H2,e,Y,T,qu,Z,pW,G,c2,sa⟩:=W;subst e;have p:CV C Ex X.K X.prog X.w H X4 μ (xM (qD src (tX ⟨it0,g,ts⟩ cs em (qo (σ++aP ext.length X9) (qm (⟨it0,g,ts⟩::cs)))) (src.size O2) 0 O2 [])) _:=q;cases M:xM (qD src (tX ⟨it0,g,ts⟩ cs em (qo (σ++aP ext.length X9) (qm (⟨it0,g,ts⟩::cs)))) (src.size O2) 0 O2 []) with
  |bad=>rw[M] at p;exact ak p
  |exc S O'=>exact(XG M).elim
  | ok X8 O3=>
   rw[M] at p;refine zbn co (RR:=λac h=>compPost (aw X.prog X.w) X.A X.xe use Q ac h) o_ F (λcells h=>rS cells h _ _ _ Y Z ⟨_,G⟩) Y (R.ext G) c2 T qu Z sa (Xo M) λf j B=>?_;obtain⟨H',P,I',x',S,nL,nC,gv⟩:=B.inv;have:=p (V.heap.objs.size) H' P (G.none nL) (G.trans x') S gv j (V.heap.objs.size+1) I' B.ns nC B.loc B.young B.cel B.pns;unfold compPost at this ⊢;cases use<;>exact this
def Ro(c:ou K H (L::X4) μ O)(a:L∉X4)(h:H L=XV (.lst vs))(q:oy K H (L::X4) μ ds vs):X6 K H X4 μ (.lst ds) (.ref L):=by unfold X6;exact⟨L,vs,rfl,.inl ⟨.inl h,a,λm=>c.nh L m 'k'⟩,q.mv .unhide⟩
mutual
theorem X6.swap:∀{d:D}{v:V},X6 K H (L::X4) μ d v->X6 K H X4 (μ++[L]) d v
 |.non,_,h=>h
 |.bl _,_,h=>h
 |.int _,_,h=>h
 |.str _,_,h=>h
 | .lst ds,v,h=>by
  unfold X6 at h ⊢;obtain⟨a,c,r,l,q⟩:=h;refine⟨a,c,r,l.imp (λz=>⟨z.1,λm=>z.2.1 (ai _ m),λm=>?_⟩) id,oy.swap q⟩;rcases aH.mp m with m|m
  ·exact z.2.2 m
  ·exact z.2.1 (by simp at m;simp[m])
 | .tup ds,v,h=>by
  unfold X6 at h ⊢;obtain⟨a,c,r,l,q⟩:=h;refine⟨a,c,r,l.imp (λz=>⟨z.1,λm=>z.2.1 (ai _ m),λm=>?_⟩) id,oy.swap q⟩;rcases aH.mp m with m|m
  ·exact z.2.2 m
  ·exact z.2.1 (by simp at m;simp[m])
 | .own k,v,h=>by
  unfold X6 at h ⊢;obtain⟨a,r,q⟩:=h;exact⟨a,r,by rw[aG (aq.mp q).1];exact q⟩
 | .dct,v,h=>by
  unfold X6 at h ⊢;obtain⟨a,r,q,b,e⟩:=h;refine⟨a,r,q,λm=>b (ai _ m),λm=>?_⟩;rcases aH.mp m with m|m
  ·exact e m
  ·exact b (by simp at m;simp[m])
 | .exn C,v,h=>by
  unfold X6 at h ⊢;obtain⟨a,f,r,g,q,b,e⟩:=h;refine⟨a,f,r,g,q,λm=>b (ai _ m),λm=>?_⟩;rcases aH.mp m with m|m
  ·exact e m
  ·exact b (by simp at m;simp[m])
 | .tab P,v,h=>by
  unfold X6 at h ⊢;exact h
 | .map ks ds,v,h=>by
  unfold X6 at h ⊢;obtain⟨a,c,r,q,b,e,i,d⟩:=h;refine⟨a,c,r,q,λm=>b (ai _ m),λm=>?_,i,oy.swap d⟩;rcases aH.mp m with m|m
  ·exact e m
  ·exact b (by simp at m;simp[m])
 |.adr _,_,h=>h
theorem oy.swap:∀{ds:List D}{vs:List V},oy K H (L::X4) μ ds vs->oy K H X4 (μ++[L]) ds vs
 |[],_,h=>h
 | d::ds,vs,h=>by
  unfold oy at h ⊢;obtain⟨v,r,a,b,c⟩:=h;exact⟨v,r,a,X6.swap b,oy.swap c⟩
end
def ou.swap(c:ou K H (L::X4) μ O)(f:L∉X4)(h:H L=XV (.lst vs))(q:oy K H (L::X4) μ ds vs):ou K H X4 (μ++[L]) (O++[ds]):=by
 have g:L∉μ:=λm=>c.nh L m 'k';refine⟨by simp[c.len],?_,λa m=>?_,λa m=>c.ht a (ai _ m),λk a e=>?_⟩
 ·rw[dF];refine⟨c.nd,by simp,λa i b j=>?_⟩;have:b=L:=by simpa using j
  subst this;rintro rfl;exact g i
 ·rcases aH.mp m with m|m
  ·exact λz=>c.nh a m (ai _ z)
  ·have:a=L:=by simpa using m
   subst this;exact f
 ·by_cases d:k<μ.length
  ·rw[aG d] at e;obtain⟨l,n,o,p,r⟩:=c.at_ k a e;exact⟨l,n,by rw[aG (by rw[<- c.len];exact d)];exact o,p,r.swap⟩
  ·rw[bq 'd'] at e;have s:k-μ.length=0:=by
    have:=(aq.mp e).1;simp at this;lia
   rw[s] at e;simp at e;subst e;refine⟨ds,vs,?_,h,q.swap⟩;have:k=O.length:=by have:=c.len;lia
   subst this;simp
def Ext.grow(e:Ext H μ H' f_)(h:H L=jk):Ext H μ H' (f_++[L]):=by
 obtain⟨a,rfl⟩:=e.pre;refine⟨⟨a++[L],by simp⟩,e.kept,λb m=>?_,e.there,e.tab⟩;rcases aH.mp m with m|m
 ·exact e.fresh b m
 ·have:b=L:=by simpa using m
  subst this;exact .inr h
def wW(o:Bool)(r:R (List D)):R D:=r.bnd λX8 O1=>if o=YP then .ok (.own O1.length) (O1++[X8]) else .ok (.lst X8) O1
def PM(f:ou K H X4 μ O)(q:q9 Ex K H X4 μ (wW o r) Q)(h:∀L H',Q (.ref L) H'->Q1 L H'):CV (AG elt) Ex K P w H X4 μ r Q1:=by
 cases r with
 |bad=>exact q
 |exc c' O'=>exact q
 | ok X8 O'=>
  intro L H' g a x c ⟨i,b,d⟩;have e:L∉X4:=λm=>f.ht L m a;cases o with
  |false=>exact h L H' (post.ok (show q9 Ex K H X4 μ (.ok (.lst X8) O') Q from q) x c.unhide (Ro c e b d))
  |true=>exact h L H' (post.ok (show q9 Ex K H X4 μ (.ok (.own O'.length) (O'++[X8])) Q from q) (x.grow a) (c.swap e b d) (Hc c.len))
def zcW(k:ou K H X4 μ O)(b:oz K H X4 μ σ d_)(q:oB Ex K H X4 μ ((wW o r).bnS λd O1=>.nx (σ.set i (XV d)) O1) E)(h:∀L H',E.nx (d_.set i (XV (.ref L))) H'->Q1 L H'):
  CV (AG elt) Ex K P w H X4 μ r Q1:=by
 cases r with
 |bad=>exact q
 |exc c' O'=>exact q
 | ok X8 O'=>
  intro L H' e a x c ⟨l,f,g⟩;have j:L∉X4:=λm=>k.ht L m a;cases o with
  | false=>
   have q:oB Ex K H X4 μ (.nx (σ.set i (XV (.lst X8))) O') E:=q;exact h L H' (q _ H' e x ((b.ext x).set (Ro c j f g) i) c.unhide)
  | true=>
   have q:oB Ex K H X4 μ (.nx (σ.set i (XV (.own O'.length))) (O'++[X8])) E:=q;exact h L H' (q _ H' (e++[L]) (x.grow a) ((b.ext (x.grow a)).set (Hc c.len) i) (c.swap j f g))
def Ir{d f a:aR}{b:List aR}{gs:List bH}{scope:cO}{pos:Pos}{ext:List Str}{g:Tg}{ts:List DT}{cs:List Cl}{te:DE}{Z:ab->Hp->St->Hp->List ab->Prop}
  (h:∀cells C s H c,PG (ql X (X.N++ext) scope cells C s H c) f (g.rd X.K)/\bU (λe t=>qZ (ql X (X.N++ext) scope cells C s H c) qr e t) b ts/\oO (ql X (X.N++ext) scope cells C s H c) gs cs/\PD (ql X (X.N++ext) scope cells C s H c) qr d te) (cells Cn s H c):
  PG (ql X (X.N++ext) scope cells Cn s H c) f (g.rd X.K)/\bU (λe t=>qZ (ql X (X.N++ext) scope cells Cn s H c) qr e t) b ts/\oO (ql X (X.N++ext) scope cells Cn s H c) gs cs/\∀A X4 k,(⟨f,a,b,0⟩::gs:List bH)[k]?=X9->ym (ql X (X.N++ext) scope cells Cn s H c) (Z A H) (AG d) A X4 ((AG d).ex (⟨f,a,b,0⟩::gs) scope pos) (⟨f,a,b,0⟩::gs) (zG te) k []:=
 let ⟨h1,h2,h3,h4⟩:=h cells Cn s H c
 ⟨h1,h2,h3,λ_ _ _ i=>zfG rfl h4.z i⟩
def pV(o:Bool)(ext:Nat)(it0:DI)(g:Tg)(ts:List DT)(cs:List Cl)(te:DE):DE:=λσ O=>wW o (AQ ext it0 g ts cs te σ O)
def WU(o:Bool)(ext:List Str)(d:X.calm=YP)(f:sZ X Ex tg iter it0)(h:vk X.env.scope scope (X.N++ext) (qm (⟨it0,g,ts⟩::cs)))
  (i:∀cells C s H a,PG (ql X (X.N++ext) scope cells C s H a) tg (g.rd X.K)/\bU (λe t=>qZ (ql X (X.N++ext) scope cells C s H a) qr e t) ifs ts/\oO (ql X (X.N++ext) scope cells C s H a) gs cs/\PD (ql X (X.N++ext) scope cells C s H a) qr elt te)
  (j:∀x,bF iter X.env x=pure x:=by intro _;rfl):PD X Ex (.ListComp elt (⟨tg,iter,ifs,0⟩::gs) scope pos) (pV o ext.length it0 g ts cs te):=by refine⟨?_⟩;rintro b s F H Q I ⟨k,G,J,O,l,c,q⟩;rw[eval_ListComp];unfold pV at q;rw[<- Ku] at q;refine Cf (JT elt) (use:=X9) d f h (λcells n s H a _ _ _=>Ir i cells n s H a) j I l c (PM c q λL p r M C u v w y z A B=>?_);obtain⟨m,D⟩:=v;exact⟨m,D,λP E=>⟨.ref L,p,Inv.bare u E w y z A B,rfl,r⟩⟩
def z9x(o:Bool)(ext:List Str)(u:X.calm=YP)(w:X.N.Nodup)(B:X.N[i]?=XV y)(j:X.env.scope.names.lookup y=XV .local)
  (D:sZ X Ex tg iter it0) (F:vk X.env.scope scope (X.N++ext) (qm (⟨it0,g,ts⟩::cs)))
  (G:∀cells C s H b,PG (ql X (X.N++ext) scope cells C s H b) tg (g.rd X.K)/\bU (λe t=>qZ (ql X (X.N++ext) scope cells C s H b) qr e t) ifs ts/\oO (ql X (X.N++ext) scope cells C s H b) gs cs/\PD (ql X (X.N++ext) scope cells C s H b) qr elt te)
  (J:swapsWith (.ListComp elt (⟨tg,iter,ifs,0⟩::gs) scope pos) (XV (.Name y py)) rP.line X.env=pure YP)
  (M:∀x,bF iter X.env x=pure x:=by intro _;rfl):rM X Ex (.Assign [.Name y py] (.ListComp elt (⟨tg,iter,ifs,0⟩::gs) scope pos) rP) (pZ i (pV o ext.length it0 g ts cs te)):=by
 refine⟨?_⟩;rintro c s d_ H E I ⟨h,P,k,O,l,n,q⟩;rw[iK _ _ _ _ J];refine aa (dM (aa ?_));show ao _ X.A (do let _ <- comprehension (.ListComp elt (⟨tg,iter,ifs,0⟩::gs) scope pos) scope X.env _ (newList []) Y1 (eval iter X.env) (XV (assign (.Name y py) X.env))) _ _ s;have q:oB Ex X.K H h P ((wW o (AQ ext.length it0 g ts cs te k O)).bnS λd R=>.nx (k.set i (XV d)) R) E:=q;rw[<- Ku] at q;refine aa (cw (Cf (JT elt) (use:=XV (assign (.Name y py) X.env)) (Q:=λ_ f=>SP X c E .next f) u D F (λcells S s H b _ _ _=>Ir G cells S s H b) M I l n (zcW n l q λL T U f C V W Y p Z r pn=>?_)) (λ_ f hq=>aj (aj hq)) λ_ _ e=>e);obtain⟨m,hn⟩:=W;show ao _ _ (assign (.Name y py) X.env (.ref L)) _ _ f;refine ij (GY (v:=.ref L) V w B (.inl j) rfl (λt5 FE uS=>?_) (.inr j));obtain⟨a,Bb,ha⟩:=uS;have Fl:C≠a:=by
  rcases ha with z|z
  ·rw[z];exact p
  ·exact λe=>r y a z e.symm
 refine⟨m,hn.sameBut Bb Fl,λh' xR=>?_⟩;exact⟨_,T,Inv.bare FE xR Y p Z r pn,U⟩
end
noncomputable def qh{α β:Type}(f:α->Option β):List α->Option (List β)
 |[]=>XV []
 | x::xs=>match f x,qh f xs with
  |some p,XV ps=>XV (p::ps)
  |_,_=>X9
def wR(cs:List Nat):Option dQ:=if cs.all (· < 1114112)=YP then XV (.str ⟨cs.toArray⟩) else X9
def qz(O:Ow):Nat->D->Option dQ
 | 0,d=>match d with
  |.non=>XV .none
  |.bl b=>XV (.bool b)
  |.int i=>XV (.int i)
  |.str cs=>wR cs
  |_=>X9
 | n+1,d=>match d with
  |.non=>XV .none
  |.bl b=>XV (.bool b)
  |.int i=>XV (.int i)
  |.str cs=>wR cs
  |.lst ds=>(qh (qz O n) ds).map .list
  |.tup ds=>(qh (qz O n) ds).map .tuple
  | .own k=>match O[k]? with
   |some ds=>(qh (qz O n) ds).map .list
   |none=>X9
  |.dct=>X9
  |.exn _=>X9
  |.tab _=>X9
  |.map _ _=>X9
  |.adr _=>X9
section
variable{X:Cx}{X5:List (ab×Obj)}{d_:St}{H:Hp}{s:af}{X4 μ:List ab}{O:Ow}
theorem Hi(I:L2.Inv X X5 d_ H s)(c:∀(d:D)(v:V)(u:ae)(p:dQ),X6 X.K H X4 μ d v->RelV v u->qz O n d=XV p->∃a,Reads s.heap u p a/\p.canLay0=YP/\p.depth<=n):
  ∀(ds:List D)(vs:List V)(b:List ae)(ps:List dQ),oy X.K H X4 μ ds vs->oA vs b->qh (qz O n) ds=XV ps->∃a,ReadsAll s.heap b ps a/\mD ps=YP/\nD ps<=n
 | [],vs,b,ps,h,r,e=>by
  unfold oy at h;subst h;cases r;cases e;exact⟨[],.nil,rfl,bX _⟩
 | d::ds,vs,b,ps,h,r,e=>by
  unfold oy at h;obtain⟨v,t,rfl,f,g⟩:=h;cases r with
  | cons r1 r2=>
   unfold qh at e;split at e
   ·rename_i p i j k;cases e;obtain⟨a,l,m,o⟩:=c d v _ p f r1 j;obtain⟨q,w,x,y⟩:=Hi I c ds t _ i g r2 k;refine⟨a++q,.cons l w,?_,?_⟩
    ·unfold mD;rw[m,x];rfl
    ·unfold nD;exact Nat.max_le.mpr ⟨o,y⟩
   ·cases e
def RB(e:wR cs=XV p):∃a,Reads s.heap (.str ⟨cs.toArray⟩ t) p a/\p.canLay0=YP/\p.depth<=n:=by
 unfold wR at e;split at e
 ·rename_i b;cases e;exact⟨[],.str _ _,by unfold jb PyData.strOk;simpa using b,bX _⟩
 ·cases e
def zZ(I:L2.Inv X X5 d_ H s)(c:ou X.K H X4 μ O):∀(n:Nat)(d:D)(v:V)(u:ae)(p:dQ),X6 X.K H X4 μ d v->RelV v u->qz O n d=XV p->∃B,Reads s.heap u p B/\p.canLay0=YP/\p.depth<=n:=by
 intro n
 induction n with
 | zero=>
  intro d v u p h r e;cases d with
  |non=>unfold X6 at h;subst h;cases r;cases e;exact⟨[],.none,rfl,bX _⟩
  |bl b=>unfold X6 at h;subst h;cases r;cases e;exact⟨[],.bool _,rfl,bX _⟩
  |int b=>unfold X6 at h;subst h;obtain⟨t,rfl⟩:=r;cases e;exact⟨[],.int _ _,rfl,bX _⟩
  | str cs=>
   unfold X6 at h;subst h;obtain⟨t,rfl⟩:=r;exact RB (show wR cs=XV p from e)
  |_=>cases e
 | succ n ih=>
  intro d v u p h r e;cases d with
  |non=>unfold X6 at h;subst h;cases r;cases e;exact⟨[],.none,rfl,bX _⟩
  |bl b=>unfold X6 at h;subst h;cases r;cases e;exact⟨[],.bool _,rfl,bX _⟩
  |int b=>unfold X6 at h;subst h;obtain⟨t,rfl⟩:=r;cases e;exact⟨[],.int _ _,rfl,bX _⟩
  | str cs=>
   unfold X6 at h;subst h;obtain⟨t,rfl⟩:=r;exact RB (show wR cs=XV p from e)
  | lst f=>
   unfold X6 at h;obtain⟨a,i,rfl,l,q⟩:=h;cases r;have e:(qh (qz O n) f).map ee=XV p:=e;cases g:qh (qz O n) f with
   |none=>rw[g] at e;cases e
   | some ps=>
    rw[g] at e;cases e;obtain⟨j,m,⟨o,k,w,x,F,y⟩,C⟩:=I.list l.sq;obtain⟨B,z,A,E⟩:=Hi I ih f i j ps q m g;exact⟨_,.list w x y (by simpa using z),by unfold jb;exact A,by unfold me;lia⟩
  | tup f=>
   unfold X6 at h;obtain⟨a,i,rfl,l,q⟩:=h;cases r;have e:(qh (qz O n) f).map gU=XV p:=e;cases g:qh (qz O n) f with
   |none=>rw[g] at e;cases e
   | some ps=>
    rw[g] at e;cases e;obtain⟨j,m,⟨o,w,x,k,y⟩,C⟩:=I.tuple l.sq;obtain⟨B,z,A,E⟩:=Hi I ih f i j ps q m g;exact⟨_,.tuple w x y (by simpa using z),by unfold jb;exact A,by unfold me;lia⟩
  | own k=>
   unfold X6 at h;obtain⟨a,rfl,G⟩:=h;cases r;obtain⟨f,i,J,L,M⟩:=c.at_ k a G;have e:(match O[k]? with|some f=>(qh (qz O n) f).map ee|none=>X9)=XV p:=e;rw[J] at e;cases g:qh (qz O n) f with
   |none=>simp only[g] at e;cases e
   | some ps=>
    simp only[g] at e;cases e;obtain⟨j,m,⟨o,N,w,x,F,y⟩,C⟩:=I.list (.of L);obtain⟨B,z,A,E⟩:=Hi I ih f i j ps M m g;exact⟨_,.list w x y (by simpa using z),by unfold jb;exact A,by unfold me;lia⟩
  |dct=>cases e
  |exn _=>cases e
  |tab _=>cases e
  |map _ _=>cases e
  |adr _=>cases e
end
def py(O:Ow)(d:D):Option dQ:=qz O 8 d
def zf(K:ah)(f:dQ->dQ->Option Bool):R2:=λv w H Q=>∃X4 μ O x y a b k,ou K H X4 μ O/\X6 K H X4 μ x v/\X6 K H X4 μ y w/\py O x=XV a/\py O y=XV b/\f a b=XV k/\Q (.bl k) H
def qe(f:dQ->dQ->Option Bool):Ow->D->D->R D:=λO x y=>match py O x,py O y with
 | some a,XV b=>match f a b with
  |some k=>.ok (.bl k) O
  |none=>.bad
 |_,_=>.bad
section
variable{X:Cx}{Ex:Nat->Hp->Prop}
def BY:rZ X Ex (zf X.K f) (qe f):=by
 intro H d e O x y v w Q c g h q;unfold qe at q;split at q
 ·rename_i a b i j;split at q
  ·rename_i k l;exact⟨d,e,O,x,y,a,b,k,c,g,h,i,j,l,post.here q c uA⟩
  ·exact ak q
 ·exact ak q
def rK:dQ->dQ->Option Bool:=λa b=>XV (bd a b)
def rH:dQ->dQ->Option Bool:=λa b=>XV (!PyData.eqv a b)
def zj:dQ->dQ->Option Bool:=λa b=>match b with
 |.list xs=>XV (xs.any λy=>bd y a)
 |.tuple xs=>XV (xs.any λy=>bd y a)
 |_=>X9
def BK:dQ->dQ->Option Bool:=λa b=>match b with
 |.list xs=>XV (!xs.any λy=>bd y a)
 |.tuple xs=>XV (!xs.any λy=>bd y a)
 |_=>X9
def GB(a:p.canLay0=YP)(b:p.depth<=8):n8 p=YP:=by unfold n8;rw[a,decide_eq_true (show p.depth<=64 by lia)];rfl
def Ph(e:X.A.units+64<cLine):qB X (cm .Eq) (zf X.K rK):=by intro d s E H x y v u Q I f g h;obtain⟨i,F,O,j,l,a,b,k,c,m,n,o,p,r,q⟩:=h;obtain⟨G,t,w,z⟩:=zZ I c 8 j x v a m f o;obtain⟨J,B,C,D⟩:=zZ I c 8 l y u b n g p;cases r;exact PyProof.Rows.eq_dataH t B (GB w z) (GB C D) e ⟨.bl _,H,I,rfl,q⟩
def Pu(e:X.A.units+64<cLine):qB X (cm .NotEq) (zf X.K rH):=by intro d s E H x y v u Q I f g h;obtain⟨i,F,O,j,l,a,b,k,c,m,n,o,p,r,q⟩:=h;obtain⟨G,t,w,z⟩:=zZ I c 8 j x v a m f o;obtain⟨J,B,C,D⟩:=zZ I c 8 l y u b n g p;cases r;exact PyProof.Rows.ne_dataH t B (GB w z) (GB C D) e ⟨.bl _,H,I,rfl,q⟩
def F2{A:a7}{n m:Nat}(h:m<=8)(a:A.units+64<cLine):A.units+1+min n m<cLine:=by have:=mY n m;lia
def Y0(e:X.A.units+64<cLine):qB X (cm .In) (zf X.K zj):=by
 intro f s D H x y v u Q I n o h;obtain⟨p,E,O,r,t,a,b,k,c,w,z,B,C,d,q⟩:=h;obtain⟨F,g,i,j⟩:=zZ I c 8 r x v a w n B;obtain⟨G,l,m,J⟩:=zZ I c 8 t y u b z o C;cases b with
 |list xs=>cases d;exact SeqAt.in_list_reads l g m i (F2 j e) ⟨.bl _,H,I,rfl,q⟩
 |tuple xs=>cases d;exact SeqAt.in_tuple_reads l g m i (F2 j e) ⟨.bl _,H,I,rfl,q⟩
 |_=>cases d
def zeU(e:X.A.units+64<cLine):qB X (cm .NotIn) (zf X.K BK):=by
 intro f s D H x y v u Q I n o h;obtain⟨p,E,O,r,t,a,b,k,c,w,z,B,C,d,q⟩:=h;obtain⟨F,g,i,j⟩:=zZ I c 8 r x v a w n B;obtain⟨G,l,m,J⟩:=zZ I c 8 t y u b z o C;cases b with
 |list xs=>cases d;exact SeqAt.notIn_list_reads l g m i (F2 j e) ⟨.bl _,H,I,rfl,q⟩
 |tuple xs=>cases d;exact SeqAt.notIn_tuple_reads l g m i (F2 j e) ⟨.bl _,H,I,rfl,q⟩
 |_=>cases d
end
end DL
namespace DL
open PySem L2
section
variable{e:aR}
noncomputable def tJ(O:Ow):D->Option (List D)
 |.lst ds=>XV ds
 |.own k=>O[k]?
 |_=>X9
def Ed:D->Option (List D)
 |.tup ds=>XV ds
 |_=>X9
def vt(a:ou K H X4 μ O)(h:X6 K H X4 μ d v)(e:tJ O d=XV ds):∃p vs,v=.ref p/\qJ K H p vs/\oy K H X4 μ ds vs:=by
 cases d with
 | lst xs=>
  unfold X6 at h;obtain⟨p,vs,rfl,l,q⟩:=h;cases e;exact⟨p,vs,rfl,l.sq,q⟩
 | own k=>
  unfold X6 at h;obtain⟨p,rfl,b⟩:=h;obtain⟨i,vs,c,f,g⟩:=a.at_ k p b;have e:O[k]?=XV ds:=e;rw[c] at e;cases e;exact⟨p,vs,rfl,.of f,g⟩
 |_=>cases e
def AN(h:X6 K H X4 μ d v)(e:Ed d=XV ds):∃p vs,v=.ref p/\rL K H p vs/\oy K H X4 μ ds vs:=by
 cases d with
 | tup xs=>
  unfold X6 at h;obtain⟨p,vs,rfl,l,q⟩:=h;cases e;exact⟨p,vs,rfl,l.sq,q⟩
 |_=>cases e
def znV:Ow->D->D->R D:=λO x y=>match x,y with
 |.str s,.str t=>if s.length+t.length<=4000000 then .ok (.str (s++t)) O else .bad
 |_,_=>.bad
end
def P7(h:oy K H X4 μ ds vs)(e:atI ds i=XV d):∃v,atI vs i=XV v/\X6 K H X4 μ d v:=by
 unfold atI at e ⊢;rw[<- h.length];cases q:ixN ds.length i with
 |none=>rw[q] at e;cases e
 |some j=>rw[q] at e;exact h.get e
def p9:Ow->D->D->R D:=λO x y=>match y with
 | .int i=>match tJ O x with
  | some ds=>match atI ds i with
   |some d=>.ok d O
   |none=>.bad
  | none=>match Ed x with
   | some ds=>match atI ds i with
    |some d=>.ok d O
    |none=>.bad
   | none=>match x with
    | .str cs=>if cs.length<=4000000 then match atI cs i with
      |some ch=>.ok (.str [ch]) O
      |none=>.bad
     else .bad
    |_=>.bad
 |_=>.bad
section
variable{X:Cx}{Ex:Nat->Hp->Prop}{pos:Pos}{a b c e:aR}{ta tb:DE}
def Xd:rZ X Ex (Sl X.K) p9:=by
 intro H o A O x y v w Q c g n q;unfold p9 at q;split at q
 ·rename_i i;unfold X6 at n;subst n;split at q
  ·rename_i r e;obtain⟨p,h,rfl,j,k⟩:=vt c g e;split at q
   ·rename_i d f;obtain⟨z,l,m⟩:=P7 k f;exact .inl ⟨p,h,i,z,rfl,rfl,j,l,post.here q c m⟩
   ·exact ak q
  ·split at q
   ·rename_i r e;obtain⟨p,h,rfl,j,k⟩:=AN g e;split at q
    ·rename_i d f;obtain⟨z,l,m⟩:=P7 k f;exact .inr (.inl ⟨p,h,i,z,rfl,rfl,j,l,post.here q c m⟩)
    ·exact ak q
   ·split at q
    ·rename_i s _ _;unfold X6 at g;subst g;obtain⟨t,q⟩:=post.ite q;split at q
     ·rename_i u f;refine .inr (.inr ⟨_,i,u,rfl,rfl,?_,?_,post.here q c JA⟩)
      ·show s.toArray.size<=_;rw[aF];exact yq t
      ·simpa using f
     ·exact ak q
    ·exact ak q
 ·exact ak q
def Vd(d:PD X Ex a ta)(f:PD X Ex b tb)(g:Ov b):PD X Ex (.Subscript a b pos) (e_ p9 ta tb):=r9 (Ux V1 d.out f.out g) (Gs Xd)
def l_(f:Ow->List D->R D)(t:DA):DE:=λσ O=>(t σ O).bnd λxs O1=>f O1 xs
def uy(X:Cx)(Ex:Nat->Hp->Prop)(r:List V->Hp->VK->Prop)(f:Ow->List D->R D):Prop:=∀(H:Hp)(X4 μ:List ab)(O:Ow)(xs:List D)(vs:List V)(Q:VK),ou X.K H X4 μ O->oy X.K H X4 μ xs vs->q9 Ex X.K H X4 μ (f O xs) Q->r vs H Q
def Od(h:uy X Ex r f)(X4 μ:List ab)(σ:Sg)(O:Ow)(g:St)(H:Hp)(Q:VK)(i:oz X.K H X4 μ σ g)(j:ou X.K H X4 μ O)(q:q9 Ex X.K H X4 μ (l_ f t σ O) Q):Hx r (uN Ex X.K t) g H Q:=
 uN.go i j q λk l m n o s x c d p=>h n X4 o l k m Q c d p
def xH{x:Str}{id:String}{p:Pos}{d:List aR}{r:List V->Hp->VK->Prop}{f:Ow->List D->R D}{t:DA}(g:oJ X (.builtin id) r)(h:uy X Ex r f)(i:Gl X x)(j:X.mg x=X9)(k:bC x=XV (.builtin id))(l:uc X Ex (e::d) t)
  (m:x ≠ "__name__":=by decide) (n:(x==("__debug__":Str))=Y1:=by decide) (o:aS (e::d) X.env=(Y1,eval e X.env)::aS d X.env:=by rfl) (q:(backTo pos (aS d X.env)).any (·.1)=Y1:=by rfl):
  PD X Ex (.Call (.Name x p) (e::d) [] pos) (l_ f t):=r9 (JZ g i j k l.out m n o q) (Od h)
def Kb(d:oJ X (.type T) r)(h:uy X Ex r f)(g:Gl X x)(i:X.mg x=X9)(j:bC x=XV (.type T))(k:uc X Ex (e::es) t)
  (l:x ≠ "__name__":=by decide) (m:(x==("__debug__":Str))=Y1:=by decide) (n:aS (e::es) X.env=(Y1,eval e X.env)::aS es X.env:=by rfl) (o:(backTo pos (aS es X.env)).any (·.1)=Y1:=by rfl):
  PD X Ex (.Call (.Name x p) (e::es) [] pos) (l_ f t):=r9 (Q4 d g i j k.out l m n o) (Od h)
def qt:Ow->List D->R D:=λO xs=>match xs with
 | [x]=>match tJ O x with
  |some ds=>.ok (.int ds.length) O
  | none=>match Ed x with
   |some ds=>.ok (.int ds.length) O
   | none=>match x with
    |.str cs=>if cs.length<=4000000 then .ok (.int cs.length) O else .bad
    |_=>.bad
 |_=>.bad
def Wa:uy X Ex (λxs H Q=>∃x n,xs=[x]/\MT X.K x H n/\Q (.int n) H) qt:=by
 intro H l o O xs r Q c d q;unfold qt at q;split at q
 ·rename_i x;obtain⟨v,rfl,f⟩:=tW d;split at q
  ·rename_i h e;obtain⟨p,i,rfl,j,k⟩:=vt c f e;exact⟨_,h.length,rfl,.inl ⟨i,j,k.length⟩,post.here q c sR⟩
  ·split at q
   ·rename_i h e;obtain⟨p,i,rfl,j,k⟩:=AN f e;exact⟨_,h.length,rfl,.inr ⟨i,j,k.length⟩,post.here q c sR⟩
   ·split at q
    ·rename_i g _ _;unfold X6 at f;subst f;obtain⟨m,q⟩:=post.ite q;refine⟨_,g.length,rfl,⟨?_,?_⟩,post.here q c sR⟩
     ·show g.toArray.size<=_;rw[aF];exact yq m
     ·show g.length=g.toArray.size;rw[aF]
    ·exact ak q
 ·exact ak q
noncomputable def Im:Ow->List D->R D:=λO xs=>match xs with
 |[.int i]=>.ok (.int i) O
 |[.bl k]=>.ok (.int (if k then 1 else 0)) O
 |_=>.bad
def WA:uy X Ex (λxs H Q=>(∃i,xs=[.int i]/\Q (.int i) H) \/ ∃k,xs=[.bl k]/\Q (.int (if k then 1 else 0)) H) Im:=by
 intro H g h O xs j Q c d q;unfold Im at q;split at q
 ·obtain⟨v,rfl,f⟩:=tW d;unfold X6 at f;subst f;exact .inl ⟨_,rfl,post.here q c sR⟩
 ·obtain⟨v,rfl,f⟩:=tW d;unfold X6 at f;subst f;exact .inr ⟨_,rfl,post.here q c sR⟩
 ·exact ak q
def tY:Ow->List D->R D:=λO xs=>match xs with
 | [x]=>match tJ O x with
  |some ds=>.ok (.tup ds) O
  | none=>match Ed x with
   |some ds=>.ok (.tup ds) O
   |none=>.bad
 |_=>.bad
def zf8:uy X Ex (λxs H Q=>∃p f,xs=[.ref p]/\((qJ X.K H p f/\∀l,H l=X9->Q (.ref l) (upd H l (.tup f)))\/(rL X.K H p f/\Q (.ref p) H))) tY:=by
 intro H m o O xs r Q c d q;unfold tY at q;split at q
 ·rename_i x;obtain⟨v,rfl,g⟩:=tW d;split at q
  ·rename_i n e;obtain⟨p,h,rfl,i,k⟩:=vt c g e;exact⟨p,h,rfl,.inl ⟨i,λl j=>post.ok q (.laid j) (c.laid j) (X6.newT c j k)⟩⟩
  ·split at q
   ·rename_i n e;obtain⟨p,h,rfl,i,k⟩:=AN g e;refine⟨p,h,rfl,.inr ⟨i,post.here q c ?_⟩⟩;cases x with
    |tup f=>cases e;exact g
    |_=>cases e
   ·exact ak q
 ·exact ak q
def AL:Ow->List D->R D:=λO xs=>match xs with
 |[.int i,.int j]=>.ok (.int (if j>i then j else i)) O
 |_=>.bad
def AJ:Ow->List D->R D:=λO xs=>match xs with
 |[.int i,.int j]=>.ok (.int (if j<i then j else i)) O
 |_=>.bad
def YC:uy X Ex (λxs H Q=>∃i j,xs=[.int i,.int j]/\Q (.int (if j>i then j else i)) H) AL:=by
 intro H h k O xs l Q c d q;unfold AL at q;split at q
 ·obtain⟨v,w,rfl,f,g⟩:=AA d;unfold X6 at f g;subst f;subst g;exact⟨_,_,rfl,post.here q c sR⟩
 ·exact ak q
def W0:uy X Ex (λxs H Q=>∃i j,xs=[.int i,.int j]/\Q (.int (if j<i then j else i)) H) AJ:=by
 intro H h k O xs l Q c d q;unfold AJ at q;split at q
 ·obtain⟨v,w,rfl,f,g⟩:=AA d;unfold X6 at f g;subst f;subst g;exact⟨_,_,rfl,post.here q c sR⟩
 ·exact ak q
end
noncomputable def Ih(K:ah)(Ec:XK->Nat->Hp->Prop)(n:Nat)(F:List D->Ow->R D):Sp:=λvs H Q E=>vs.length=n/\∃X4 μ ds O,oy K H X4 μ ds vs/\ou K H X4 μ O/\q9 (Ec E) K H X4 μ (F ds O) Q
abbrev yG:XK->Nat->Hp->Prop:=λ_ _ _=>False
section
variable{X:Cx}{CX:wO}{k:Nat}{f:ab}{fd:d8}{ps:List Str}{E:XK}{Ec:XK->Nat->Hp->Prop}{x:Str}{p pos:Pos}{e:aR}{es:List aR}{t:DA}{F:List D->Ow->R D}{n:Nat}
noncomputable def j_(n:Nat)(F:List D->Ow->R D)(t:DA):DE:=λσ O=>(t σ O).bnd λds O1=>if ds.length=n then F ds O1 else .bad
def UA(G:oP X.prog X.w X.K X.mg X.base CX k f fd ps (Ih X.K Ec n F))(d:oH k X.A)(g:Gl X x)(h:X.mg x=XV (.ref f))(i:cT X.K (.ref f)=YP)(j:Binds X.K fd ps [])(l:Gm CX X E)(m:uc X (Ec E) (e::es) t)
  (o:(x==("__debug__":Str))=Y1:=by decide) (r:aS (e::es) X.env=(Y1,eval e X.env)::aS es X.env:=by rfl) (s:(backTo pos (aS es X.env)).any (·.1)=Y1:=by rfl):
  PD X (Ec E) (.Call (.Name x p) (e::es) [] pos) (j_ n F t):=
 r9 (O9 (dvs:=[]) (ds:=[]) G d g h i j .nil l m.out o r s) λa I J O L H Q u v q=>uN.go u v q λds y M N z P S B c b=>by
  obtain⟨C,b⟩:=post.ite b;refine⟨by rw[bP,<- c.length];exact C,a,z,ds,y,?_,B,b⟩;rw[bP];exact c
end
noncomputable def fin(r:RS):R D:=match r with
 |.nx _ O=>.ok .non O
 |.rt d O=>.ok d O
 |.exc c O=>.exc c O
 |_=>.bad
def qT(n:Nat)(t:DS):List D->Ow->R D:=λds O=>fin (t (ds.map XV++aP (n-ds.length) X9) O)
def RE(h:oy K H X4 μ ds vs)(N:List Str):oz K H X4 μ (ds.map XV++aP (N.length-ds.length) X9) (L2.start N vs):=by
 unfold L2.start;have b:=h.length;refine⟨by simp[b],λi d e=>?_⟩;have a:i<ds.length:=by
  by_cases a:i<ds.length
  ·exact a
  ·rw[bq (by simpa using a),fN] at e;split at e<;>cases e
 rw[aG (by simpa using a),bG] at e;cases q:ds[i]? with
 |none=>rw[q] at e;cases e
 | some d'=>
  rw[q] at e;cases e;obtain⟨v,c,f⟩:=h.get q;exact⟨v,by rw[aG (by simp;lia),bG,c];rfl,f⟩
abbrev CH(P:aM)(w:aV)(K:ah)(mg:Str->Option ae)(base:aX)(N:List Str)(qual:Str)(scope:cO)(f:ab)(pP:ae)(A:a7)(outer:List Env)(s:af)(H:Hp)(E:XK):Cx:=
 (Ar (λ_ _ _ _ _ _=>False) P w K mg base N qual scope f pP A outer s H E).nox
def UO{P:aM}{w:aV}{K:ah}{mg:Str->Option ae}{base:aX}{k:Nat}{f:ab}{name a:Str}{g:iJ}{body:List er}{scope:cO}{p u i y j ct C:ae}{z D:Option ab}{F:Array (Option ae)}{N ps:List Str}{t:DS}
  (G:K.lookup f=XV ⟨C,D,.func (cy name a g body scope p u i y z j ct),F⟩) (I:eU K j a=YP) (S:qv N ps scope)
  (J:∀(A:a7)(b:List Env)(s:af)(H:Hp)(E:XK),oH k (A.deeper (eS a scope s.heap.objs.size f j))->tF (CH P w K mg base N a scope f j A b s H E) qr body t):
  oP P w K mg base (λ_ _ _ _ _ _=>False) (k+1) f (cy name a g body scope p u i y z j ct) ps (Ih K yG ps.length (qT N.length t)):=by
 refine qX G I S (λL H Q E h=>h.1) λA b s H L Q E M h=>?_;obtain⟨U,o,R,B,O,d,c,q⟩:=h;refine⟨_,(J A b s H E M).out.nox,o,R,_,O,RE d N,c,?_⟩;unfold qT at q;generalize t (B.map XV++aP (N.length-B.length) X9) O=r at q;cases r with
 |nx σ O'=>exact λV l m x e n=>q .non l m x n Gw
 |rt d' O'=>exact λv l m x n r=>q v l m x n r
 |bk σ O'=>exact ak q
 |ct σ O'=>exact ak q
 |exc n O'=>exact λl m x T=>q l m x T
 |bad=>exact ak q
noncomputable def BR:D->String
 |.non => "NoneType"
 |.bl _ => "bool"
 |.int _ => "int"
 |.str _ => "str"
 |.lst _ => "list"
 |.own _ => "list"
 |.tup _ => "tuple"
 |.dct => "dict"
 |.exn _ => "exception"
 |.tab _ => "bool"
 |.map _ _ => "dict"
 |.adr _ => "function"
def FR(t c:String):Bool:=t==c||(t == "bool" && c == "int")
section
variable{X:Cx}{Ex:Nat->Hp->Prop}{pos:Pos}{a b c e:aR}{ta te:DE}{X5:List (ab×Obj)}{d_:St}{H:Hp}{s:af}{X4 μ:List ab}{O:Ow}
def w8:List String:=["NoneType", "bool", "int", "str", "list", "tuple", "dict"]
def yn(K:ah){t c:String}(d:t∈w8)(f:c∈["int", "bool", "str", "list", "tuple", "dict"]):kS K (.type t) (.type c)=XV (FR t c):=by simp only[w8,am,ba,or_false] at d f;rcases d with rfl|rfl|rfl|rfl|rfl|rfl|rfl<;>rcases f with rfl|rfl|rfl|rfl|rfl|rfl<;>first|rfl|decide
def z8N(I:L2.Inv X X5 d_ H s)(E:ou X.K H X4 μ O)(h:X6 X.K H X4 μ d v)(r:RelV v u)(F:(BR d == "function")=Y1):∃(T:ae)(A:aX->Prop),PySem.W.KitX X.K u T A/\A s.heap/\u ≠ .builtin "__main__.__loader__#opaque"/\∀c∈(["int", "bool", "str", "list", "tuple", "dict"]:List String),kS X.K T (.type c)=XV (FR (BR d) c):=by
 cases d with
 |non=>unfold X6 at h;subst h;cases r;exact⟨.type "NoneType",_,PySem.W.kitx_none,fX,(λz=>nomatch z),λc f=>yn X.K (t := "NoneType") (by simp[w8]) f⟩
 |bl _=>unfold X6 at h;subst h;cases r;exact⟨.type "bool",_,mE,fX,(λz=>nomatch z),λc f=>yn X.K (t := "bool") (by simp[w8]) f⟩
 |int _=>unfold X6 at h;subst h;obtain⟨t,rfl⟩:=r;exact⟨.type "int",_,PySem.W.kitx_int,fX,(λz=>nomatch z),λc f=>yn X.K (t := "int") (by simp[w8]) f⟩
 |str _=>unfold X6 at h;subst h;obtain⟨t,rfl⟩:=r;exact⟨.type "str",_,PySem.W.kitx_str,fX,(λz=>nomatch z),λc f=>yn X.K (t := "str") (by simp[w8]) f⟩
 | lst x=>
  unfold X6 at h;obtain⟨p,m,rfl,l,q⟩:=h;cases r;obtain⟨B,D,⟨o,n,j,i,_⟩,_⟩:=I.list l.sq;exact⟨.type "list",_,mF,⟨o,j,i⟩,(λz=>nomatch z),λc f=>yn X.K (t := "list") (by simp[w8]) f⟩
 | own k=>
  unfold X6 at h;obtain⟨p,rfl,G⟩:=h;cases r;obtain⟨x,m,_,i,_⟩:=E.at_ k p G;obtain⟨B,D,⟨o,n,j,i,_⟩,_⟩:=I.list (.of i);exact⟨.type "list",_,mF,⟨o,j,i⟩,(λz=>nomatch z),λc f=>yn X.K (t := "list") (by simp[w8]) f⟩
 | tup x=>
  unfold X6 at h;obtain⟨p,m,rfl,l,q⟩:=h;cases r;obtain⟨B,D,⟨o,j,i,_⟩,_⟩:=I.tuple l.sq;exact⟨.type "tuple",_,PySem.W.kitx_tuple,⟨o,j,i⟩,(λz=>nomatch z),λc f=>yn X.K (t := "tuple") (by simp[w8]) f⟩
 | dct=>
  unfold X6 at h;obtain⟨p,rfl,w,_⟩:=h;cases r;obtain⟨_,_,m,_,o,J,L,j,i,_⟩:=Rd.ok w I.hok;exact⟨.type "dict",_,mG,⟨o,j,i.1⟩,(λz=>nomatch z),λc f=>yn X.K (t := "dict") (by simp[w8]) f⟩
 |tab _=>unfold X6 at h;obtain⟨rfl,_⟩:=h;cases r;exact⟨.type "bool",_,mE,fX,(λz=>nomatch z),λc f=>yn X.K (t := "bool") (by simp[w8]) f⟩
 | map ks x=>
  unfold X6 at h;obtain⟨p,m,rfl,w,_⟩:=h;cases r;obtain⟨_,_,m,_,o,J,L,j,i,_⟩:=Rd.ok (.inr w) I.hok;exact⟨.type "dict",_,mG,⟨o,j,i.1⟩,(λz=>nomatch z),λc f=>yn X.K (t := "dict") (by simp[w8]) f⟩
 |adr _=>cases F
 | exn C=>
  unfold X6 at h;obtain⟨p,M,rfl,⟨k,g⟩,w,_⟩:=h;cases r;obtain⟨y,_⟩:=Rd.ok w I.hok;refine⟨_,_,Vr k,g _ y,(λz=>nomatch z),λc f=>?_⟩;rw[k.kit c f];simp only[am,ba,or_false] at f;rcases f with rfl|rfl|rfl|rfl|rfl|rfl<;>rfl
def SF:List String:=["int", "bool", "str", "list", "tuple", "dict"]
def zbZ:oJ X (.builtin "isinstance") (λxs H Q=>∃x C X4 μ O d,xs=[x,.ty C]/\C∈SF/\ou X.K H X4 μ O/\X6 X.K H X4 μ d x/\(BR d == "function")=Y1/\Q (.bl (FR (BR d) C)) H):=by intro X5 s t H xs v Q I r h;obtain⟨x,C,X4,μ,O,d,rfl,f,g,i,j,q⟩:=h;obtain⟨u,w,rfl,k,l⟩:=Gg r;cases l;obtain⟨T,y,Z,p,m,n⟩:=z8N I g i k j;exact wT I (PySem.W.kia_one Z I.kIn p (n _ f) m λo z=>⟨.bl _,H,I.tok o,rfl,q⟩)
def yP(C:String)(t:DE):DE:=λσ O=>(t σ O).bnd λd O1=>if (BR d == "function")=YP then .bad else .ok (.bl (FR (BR d) C)) O1
def Jf(t:PD X Ex a ta)(u:n∈SF)(w:Gl X "isinstance")(y:X.mg "isinstance" = X9)(z:bC "isinstance" = XV (.builtin "isinstance"))(f:Gl X C)(g:X.mg C=X9)(h:bC C=XV (.type n))(i:C ≠ "__name__":=by decide)
  (j:(C==("__debug__":Str))=Y1:=by decide) (m:aS [a,.Name C p'] X.env=(Y1,eval a X.env)::aS [.Name C p'] X.env:=by rfl) (k:aS [.Name C p'] X.env=[(Y1,eval (.Name C p') X.env)]:=by rfl) (A:(backTo pos (aS [.Name C p'] X.env)).any (·.1)=Y1:=by rfl):
  PD X Ex (.Call (.Name "isinstance" p) [a,.Name C p'] [] pos) (yP n ta):=
 r9 (JZ (zbZ (X:=X)) w y z (Dj t.out (Dj (WW (v:=.ty n) f g h rfl i j) Gi k) m) 'u' 'u' m A) λX4 μ I O d_ H Q B D q=>rd.go B D q λd E v J F K x o r l=>by
  obtain⟨G,l⟩:=post.iteN l;exact⟨v,n,X4,F,E,d,rfl,u,o,r,G,post.here l o uA⟩
noncomputable def zQ(to:DE)(t:DA):DE:=λσ O=>(to σ O).bnd λx O1=>match x with
 | .own k=>(t σ O1).bnd λys O2=>match ys,O2[k]? with
  |[y],XV ds=>if ds.length<4000000 then .ok .non (O2.set k (ds++[y])) else .bad
  |_,_=>.bad
 |_=>.bad
def zbN(n:PD X Ex o to)(u:uc X Ex (e::es) t)(z:attributeBase o "append" X.env (eval o X.env)=eval o X.env:=by rfl)
  (B:((backTo p_ (aS (e::es) X.env)).all (λx=>!x.1)&&(backToKw p_ (keywordEach [] X.env)).all (λx=>x.1.isSome)&&decide ((e::es).length+([]:List fF).length+(if ([]:List fF).isEmpty then 0 else 1)<30))=YP:=by rfl)
  (C:(apos.endLine==p_.line)=YP:=by rfl) (D:aS (e::es) X.env=(Y1,eval e X.env)::aS es X.env:=by rfl) (E:(backTo p_ (aS es X.env)).any (·.1)=Y1:=by rfl):
  PD X Ex (.Call (.Attribute o "append" apos) (e::es) [] p_) (zQ to t):=
 r9 (F7 kg kR PySem.F.type_list_append QT n.out u.out z B C D E) λX4 μ σ O d_ H Q G I q=>rd.go G I q λd O1 v H1 g_ J x h r p=>by
  cases d with
  | own k=>
   have K:=r;unfold X6 at r;obtain⟨A,rfl,L⟩:=r;obtain⟨ds,M,h1,N,h3⟩:=h.at_ k A L;refine⟨.inl ⟨rfl,M,.of N⟩,uN.go J h p λys O2 ws H2 P e3 R i S f=>?_⟩;split at f
   ·rename_i y T U;obtain⟨V,f⟩:=post.ite f;obtain⟨w,rfl,W⟩:=tW S;have g:P[k]?=XV A:=by
     have:=K.ext R;unfold X6 at this;obtain⟨A',Y,Z⟩:=this;cases Y;exact Z
    obtain⟨Fx,zd,j,l,m⟩:=i.at_ k A g;rw[U] at j;cases j;refine⟨A,zd,w,rfl,rfl,l,a9 (by rw[<- m.length];exact V) 'u',?_⟩;exact post.ok f (.put (aN g) ⟨_,l⟩) (i.put g (m.append (.cons W .nil))) Gw
   ·exact ak f
  |_=>exact ak p
def xw(te to ti:DE):DS:=λσ O=>(te σ O).bnS λy O1=>(to σ O1).bnS λx O2=>(ti σ O2).bnS λi O3=>match x,i with
 | .own k,.int i=>match O3[k]? with
  | some ds=>match ixN ds.length i with
   |some j=>.nx σ (O3.set k (ds.set j y))
   |none=>.bad
  |none=>.bad
 |_,_=>.bad
def Yd(z:PD X Ex e te)(B:PD X Ex o to)(C:PD X Ex i ti)(D:∀v,assign (.Subscript o i pos) X.env v=(do
   let ov <- holding [v] (eval o X.env);let iv <- holding [v,ov] (eval i X.env)
   standAt pos
   holding [v,ov,iv] (setItem ov iv v)
   release [v,ov,iv] []):=by intro _;rfl)(F:fO [.Subscript o i pos] e rP.line X.env=pure Y1:=by rfl)(G:fP [.Subscript o i pos] e X.env=pure X9:=by rfl)
  (I:(fV [.Subscript o i pos] X.env).map (·.2)=[assign (.Subscript o i pos) X.env]:=by rfl):rM X Ex (.Assign [.Subscript o i pos] e rP) (xw te to ti):=
 w9 (IW z.out (Wb B.out C.out zeZ D) F G I) λX4 μ σ O E d_ H J K q=>rd.goS J K q λy O1 v H1 g_ L x1 M N P=>rd.goS L M P λx O2 u H2 pW Q R S T U=>rd.goS Q S U λii O3 w H3 V W h l n d=>by
  split at d
  ·rename_i k j;split at d
   ·rename_i ds Y;split at d
    ·rename_i m Z;have p:=T.ext h;unfold X6 at p n;obtain⟨A,rfl,f⟩:=p;subst n;obtain⟨Fx,zd,r,g,t⟩:=l.at_ k A f;rw[Y] at r;cases r;refine⟨A,zd,j,m,rfl,rfl,g,by rw[<- t.length];exact Z,?_⟩;exact d d_ _ V (.put (aN f) ⟨_,g⟩) (W.ext (.put (aN f) ⟨_,g⟩)) (l.put f (t.set ((N.ext R).ext h) m))
    ·exact ak d
   ·exact ak d
  ·exact ak d
def wM:List D->Option (List Bool)
 |[]=>XV []
 |.bl b::r=>(wM r).map (b :: ·)
 |_=>X9
theorem Jc:∀{ds:List D}{vs:List V}{f:List Bool},oy K H X4 μ ds vs->wM ds=XV f->vs=f.map V.bl
 |[],vs,f,h,e=>by unfold oy at h;subst h;cases e;rfl
 | d::ds,vs,f,h,e=>by
  unfold oy at h;obtain⟨v,r,rfl,g,i⟩:=h;cases d with
  | bl b=>
   unfold wM at e;cases q:wM ds with
   |none=>rw[q] at e;cases e
   | some cs=>
    rw[q] at e;cases e;unfold X6 at g;subst g;rw[Jc i q];rfl
  |_=>cases e
def yI:Ow->List D->R D:=λO xs=>match xs with
 | [x]=>match tJ O x with
  | some ds=>match wM ds with
   |some bs=>.ok (.bl (bs.all id)) O
   |none=>.bad
  |none=>.bad
 |_=>.bad
def wV:Ow->List D->R D:=λO xs=>match xs with
 | [x]=>match tJ O x with
  | some ds=>match wM ds with
   |some bs=>.ok (.bl (bs.any id)) O
   |none=>.bad
  |none=>.bad
 |_=>.bad
def V0:uy X Ex (λxs H Q=>∃(p:ab)(f:List Bool),xs=[.ref p]/\qJ X.K H p (f.map V.bl)/\Q (.bl (f.all id)) H) yI:=by
 intro H X4 μ O xs k Q c d q;unfold yI at q;split at q
 ·rename_i x;obtain⟨v,rfl,g⟩:=tW d;split at q
  ·rename_i l e;obtain⟨p,m,rfl,h,i⟩:=vt c g e;split at q
   ·rename_i f j;refine⟨p,f,rfl,?_,post.here q c uA⟩;rw[<- Jc i j];exact h
   ·exact ak q
  ·exact ak q
 ·exact ak q
def Wc:uy X Ex (λxs H Q=>∃(p:ab)(f:List Bool),xs=[.ref p]/\qJ X.K H p (f.map V.bl)/\Q (.bl (f.any id)) H) wV:=by
 intro H X4 μ O xs k Q c d q;unfold wV at q;split at q
 ·rename_i x;obtain⟨v,rfl,g⟩:=tW d;split at q
  ·rename_i l e;obtain⟨p,m,rfl,h,i⟩:=vt c g e;split at q
   ·rename_i f j;refine⟨p,f,rfl,?_,post.here q c uA⟩;rw[<- Jc i j];exact h
   ·exact ak q
  ·exact ak q
 ·exact ak q
def zcR(f:List Bool):(aL f.length).all (λi=>f.getD i YP)=f.all id:=by
 rw[dU,ar,ar];constructor
 ·intro h b g;obtain⟨i,d,e⟩:=dq.mp g;have:=h i (by simpa using d);rw[aY,ay d,e] at this;exact this
 ·intro h i d;have d:i<f.length:=by simpa using d
  rw[aY,ay d];exact h _ (cu d)
def zcY(f:List Bool):(aL f.length).any (λi=>f.getD i YP)=f.any id:=by
 rw[dU,cI,cI];constructor
 ·rintro⟨i,d,h⟩;have d:i<f.length:=by simpa using d
  rw[aY,ay d] at h;exact⟨_,cu d,h⟩
 ·rintro⟨b,g,h⟩;obtain⟨i,d,e⟩:=dq.mp g;exact⟨i,by simpa using d,by rw[aY,ay d,e];exact h⟩
def OW{d:List Bool}{f:List ae}(r:oA (d.map V.bl) f){i:Nat}{v:ae}(h:f.toArray[i]?=XV v):v=.bool (d.getD i YP):=by
 have h:f[i]?=XV v:=by simpa using h
 have g:i<d.length:=by
  have:=r.length;have:=(aq.mp h).1;simp at *;lia
 obtain⟨u,j,k⟩:=r.get (i:=i) (x:=.bl d[i]) (by rw[bG,ay g];rfl);rw[h] at j;cases j;cases k;rw[aY,ay g];rfl
def zee(k:X.calm=YP):oJ X (.builtin "all") (λxs H Q=>∃(p:ab)(d:List Bool),xs=[.ref p]/\qJ X.K H p (d.map V.bl)/\Q (.bl (d.all id)) H):=by
 intro X5 s C H xs D Q I r h;obtain⟨p,d,rfl,l,q⟩:=h;obtain⟨u,rfl,m⟩:=ue r;cases m;obtain⟨f,j,g,E⟩:=I.list l;have t:f.toArray.size=d.length:=by have:=j.length;simp at *;lia
 have w:p≠s.heap.objs.size:=by obtain⟨o,n,e,_⟩:=g;exact bo (aK e)
 refine wT I (call_all_walk (fw g.isList ?_));refine⟨s.heap.objs.size,_,_,f.toArray.size,_,_,λi=>d.getD i YP,rfl,jO (show X.A.in1.handled=X9 from I.ok.hd k) _ p w f.toArray,⟨⟨_,aJ _ rfl,rfl,rfl⟩,g.isList.push _⟩,λi v F G J x y=>?_,λL z B M=>?_⟩
 ·rw[OW j x];exact cM y
 ·rw[t,zcR];exact⟨.bl _,H,I.kept (t':=z) λb o e=>B b o (by simpa using bo (aK e)) (ag _ e),rfl,q⟩
def zcH(k:X.calm=YP):oJ X (.builtin "any") (λxs H Q=>∃(p:ab)(d:List Bool),xs=[.ref p]/\qJ X.K H p (d.map V.bl)/\Q (.bl (d.any id)) H):=by
 intro X5 s C H xs D Q I r h;obtain⟨p,d,rfl,l,q⟩:=h;obtain⟨u,rfl,m⟩:=ue r;cases m;obtain⟨f,j,g,E⟩:=I.list l;have t:f.toArray.size=d.length:=by have:=j.length;simp at *;lia
 have w:p≠s.heap.objs.size:=by obtain⟨o,n,e,_⟩:=g;exact bo (aK e)
 refine wT I (call_any_walk (fw g.isList ?_));refine⟨s.heap.objs.size,_,_,f.toArray.size,_,_,λi=>d.getD i YP,rfl,jO (show X.A.in1.handled=X9 from I.ok.hd k) _ p w f.toArray,⟨⟨_,aJ _ rfl,rfl,rfl⟩,g.isList.push _⟩,λi v F G J x y=>?_,λL z B M=>?_⟩
 ·rw[OW j x];exact cM y
 ·rw[t,zcY];exact⟨.bl _,H,I.kept (t':=z) λb o e=>B b o (by simpa using bo (aK e)) (ag _ e),rfl,q⟩
end
section
variable{X:Cx}{Ex:Nat->Hp->Prop}{pos:Pos}{a b c e o:aR}{ta tb te to:DE}{X5:List (ab×Obj)}{d_:St}{H:Hp}{s:af}{X4 μ:List ab}{O:Ow}
def MY(K:ah):R2:=λx y H Q=>∃l b xs zs,x=.ref l/\y=.ref b/\qJ K H l xs/\qJ K H b zs/\xs.length+zs.length<=KB/\∀p,H p=X9->Q (.ref p) (upd H p (.lst (xs++zs)))
def XZ:qB X (dS .Add) (MY X.K):=by
 intro X5 s P H x y v u Q I z A h;obtain⟨l,b,R,S,rfl,rfl,B,C,T,q⟩:=h;cases z;cases A;obtain⟨d,g,D,U⟩:=I.list B;obtain⟨f,i,E,V⟩:=I.list C;obtain⟨⟨W,Y,Z,G⟩,J,j,k,m,n⟩:=D;obtain⟨⟨c2,d2,t2,L⟩,M,p,r,t,w⟩:=E;simp only at k m n r t w;subst k m n r t w;have N:d.toArray++f.toArray=(d++f).toArray:=by simp
 have l1:=g.length;have l2:=i.length;refine jp ⟨_,j,rfl⟩ ⟨_,p,rfl⟩ PySem.noFill_list_add PySem.seq_list_add PySem.F.slot_list_add PySem.F.entry_list_add (PySem.F.args_list_add_2 _ _)
  (PyProof.Rows.list_addW l b d.toArray f.toArray J M X9 X9 G L (by simp only[aF];lia)) ⟨j,p,?_⟩
 rw[N];exact⟨.ref _,_,I.lnew (t':=s.toks) (g.append i) (by rw[az];lia),rfl,q _ I.fresh⟩
def sh:Ow->D->D->R D:=λO x y=>match x,y with
 |.int i,.int j=>.ok (.int (i+j)) O
 |.str p,.str q=>if p.length+q.length<=4000000 then .ok (.str (p++q)) O else .bad
 |.tup xs,.tup ys=>if xs≠[]/\xs.length+ys.length<=4000000 then .ok (.tup (xs++ys)) O else .bad
 | x,y=>match tJ O x,tJ O y with
  |some xs,XV ys=>if xs.length+ys.length<=4000000 then .ok (.lst (xs++ys)) O else .bad
  |_,_=>.bad
def IC(K:ah):R2:=λx y H Q=>(∃i j,x=.int i/\y=.int j/\Q (.int (i+j)) H)\/(∃i j,x=.str i/\y=.str j/\i.length+j.length<=KB/\Q (.str (i++j)) H)\/NH K x y H Q\/MY K x y H Q
def OR:qB X (dS .Add) (IC X.K):=qB.or Vv (qB.or zbe (qB.or XI XZ))
def Oq:rZ X Ex (IC X.K) sh:=by
 intro H X4 μ O x y v w Q c d f q;unfold sh at q;split at q
 ·unfold X6 at d f;subst d;subst f;exact .inl ⟨_,_,rfl,rfl,post.here q c sR⟩
 ·rename_i p j;unfold X6 at d f;subst d;subst f;obtain⟨k,q⟩:=post.ite q;refine .inr (.inl ⟨_,_,rfl,rfl,?_,?_⟩)
  ·show p.toArray.size+j.toArray.size<=_;simp only[aF];exact yq k
  ·have e:((⟨p.toArray⟩:Str)++(⟨j.toArray⟩:Str))=⟨(p++j).toArray⟩:=by
    show(⟨p.toArray++j.toArray⟩:Str)=_;simp
   rw[e];exact post.here q c JA
 ·rename_i D A;have m:=d;unfold X6 at d f;obtain⟨p,n,rfl,B,h⟩:=d;obtain⟨r,t,rfl,C,i⟩:=f;obtain⟨⟨E,k⟩,q⟩:=post.ite q;have u:=h.length;have z:=i.length;refine .inr (.inr (.inl ⟨p,r,n,t,rfl,rfl,B.sq,C.sq,?_,yq 'd',?_,?_⟩))
  ·rintro rfl;exact E (cj.mp u)
  ·rintro rfl;have:A=[]:=cj.mp z;subst this;rw[bP] at q;exact post.here q c m
  ·intro _ l g;exact post.ok q (.laid g) (c.laid g) (X6.newT c g (h.append i))
 ·split at q
  ·rename_i D A u z;obtain⟨p,n,rfl,F,h⟩:=vt c d u;obtain⟨r,t,rfl,G,i⟩:=vt c f z;obtain⟨k,q⟩:=post.ite q;have B:=h.length;have C:=i.length;exact .inr (.inr (.inr ⟨p,r,n,t,rfl,rfl,F,G,yq 'd',λl g=>post.ok q (.laid g) (c.laid g) (X6.newL c g (h.append i))⟩))
  ·exact ak q
def VW(d:PD X Ex a ta)(f:PD X Ex b tb):PD X Ex (.BinOp a .Add b pos) (e_ sh ta tb):=yj OR Oq d f
noncomputable def MV(i:Int):List Nat:=((toString i:Str)).cps.toList
def F6:Ow->List D->R D:=λO xs=>match xs with
 |[.int i]=>if i.natAbs<2 ^ 64 then .ok (.str (MV i)) O else .bad
 |_=>.bad
def zbk(h:n<2 ^ 64):n.log2<1920:=by
 by_cases d:n=0
 ·subst d;decide
 ·have:=(Nat.log2_lt d (k:=64)).mpr h;lia
def JG(x:Str):(⟨x.cps.toList.toArray⟩:Str)=x:=by cases x;simp
def Y5:uy X Ex (λxs H Q=>∃i,xs=[.int i]/\i.natAbs.log2<1920/\Q (.str (toString i)) H) F6:=by
 intro H X4 μ O xs h Q c d q;unfold F6 at q;split at q
 ·rename_i i;obtain⟨v,rfl,f⟩:=tW d;unfold X6 at f;subst f;obtain⟨g,q⟩:=post.ite q;refine⟨i,rfl,zbk g,post.here q c ?_⟩;unfold X6 MV;rw[JG]
 ·exact ak q
def Sk(g:Str->Str->Option V):V->List V->Hp->VK->Prop:=λx xs H Q=>∃i j v,x=.str i/\xs=[.str j]/\g i j=XV v/\Q v H
def MC(i j:Str):Option V:=XV (.int (bN i j 0 i.length (i.length+1)).length)
def ZS:Ib X "str.count" (Sk MC):=by intro X5 s k H x l v m Q I d f h;obtain⟨i,j,w,rfl,rfl,g,q⟩:=h;obtain⟨t,rfl⟩:=d;obtain⟨u,rfl,n,rfl⟩:=ue f;cases g;exact SC.count ⟨.int _,H,I.tok _,⟨_,rfl⟩,q⟩
def IA(i j:List Nat):Option D:=XV (.int (bN ⟨i.toArray⟩ ⟨j.toArray⟩ 0 i.length (i.length+1)).length)
noncomputable def Ms(g:List Nat->List Nat->Option D)(to:DE)(t:DA):DE:=λσ O=>(to σ O).bnd λx O1=>match x with
 | .str i=>(t σ O1).bnd λys O2=>match ys with
  | [.str j]=>match g i j with
   |some d=>.ok d O2
   |none=>.bad
  |_=>.bad
 |_=>.bad
def U0{t:DA}{h:List aR}{f k:Pos}{name:Str}{id:String}{u:Str->Str->Option V}{g:List Nat->List Nat->Option D}(l:Slot "str" name id)(z:typeOf (.builtin id)=pure (.type "method_descriptor"))(A:Ib X id (Sk u))
  (n:∀i j d,g i j=XV d->∃v,u ⟨i.toArray⟩ ⟨j.toArray⟩=XV v/\∀K H X4 μ,X6 K H X4 μ d v) (B:PD X Ex o to) (C:uc X Ex (e::h) t) (E:attributeBase o name X.env (eval o X.env)=eval o X.env:=by rfl)
  (F:((backTo k (aS (e::h) X.env)).all (λx=>!x.1)&&(backToKw k (keywordEach [] X.env)).all (λx=>x.1.isSome)&&decide ((e::h).length+([]:List fF).length+(if ([]:List fF).isEmpty then 0 else 1)<30))=YP:=by rfl)
  (G:(f.endLine==k.line)=YP:=by rfl) (I:aS (e::h) X.env=(Y1,eval e X.env)::aS h X.env:=by rfl) (J:(backTo k (aS h X.env)).any (·.1)=Y1:=by rfl):
  PD X Ex (.Call (.Attribute o name f) (e::h) [] k) (Ms g to t):=
 r9 (F7 kE l z A B.out C.out E F G I J) λX4 μ Y O d_ H Q L M q=>rd.go L M q λd Z v H1 g_ N x P r p=>by
  cases d with
  | str i=>
   unfold X6 at r;subst r;refine⟨rfl,uN.go N P p λys O2 ws H2 pW e3 x3 R S m=>?_⟩;split at m
   ·rename_i j;obtain⟨w,rfl,y⟩:=tW S;unfold X6 at y;subst y;split at m
    ·rename_i d T;obtain⟨v,U,W⟩:=n _ _ _ T;exact⟨_,_,v,rfl,rfl,U,post.here m R (W _ _ _ _)⟩
    ·exact ak m
   ·exact ak m
  |_=>exact ak p
def VA:∀i j d,IA i j=XV d->∃v,MC ⟨i.toArray⟩ ⟨j.toArray⟩=XV v/\∀K H X4 μ,X6 K H X4 μ d v:=λi j d h=>by
 cases h;have e:(⟨i.toArray⟩:Str).length=i.length:=by show i.toArray.size=_;simp
 exact⟨_,rfl,λ_ _ _ _=>by unfold X6;rw[e]⟩
def CW:List D->Option (List Str)
 |[]=>XV []
 |.str cs::r=>(CW r).map (⟨cs.toArray⟩ :: ·)
 |_=>X9
theorem Pj:∀{ds:List D}{vs:List V}{f:List Str},oy K H X4 μ ds vs->CW ds=XV f->vs=f.map V.str
 |[],vs,f,h,e=>by unfold oy at h;subst h;cases e;rfl
 | d::ds,vs,f,h,e=>by
  unfold oy at h;obtain⟨v,r,rfl,g,i⟩:=h;cases d with
  | str cs=>
   unfold CW at e;cases q:CW ds with
   |none=>rw[q] at e;cases e
   | some zs=>
    rw[q] at e;cases e;unfold X6 at g;subst g;rw[Pj i q];rfl
  |_=>cases e
def GX:∀{d:List Str}{f:List ae},oA (d.map V.str) f->eu f d:=by
 intro d
 induction d with
 |nil=>intro f r;rw[lY] at r;cases r;exact .nil
 | cons y d ih=>
  intro f r;rw[bh] at r;cases r with
  | cons r1 r2=>
   obtain⟨t,e⟩:=r1;subst e;exact .cons y t (ih r2)
noncomputable def UW(K:ah):V->List V->Hp->VK->Prop:=λx xs H Q=>∃i p ys,x=.str i/\xs=[.ref p]/\(qJ K H p (ys.map V.str)\/rL K H p (ys.map V.str))/\i.length<=16/\(ys.map (·.length)).sum+ys.length<=1048576/\Q (.str (Txt.join i ys)) H
def Yb:Ib X "str.join" (UW X.K):=by
 intro X5 s A H x B v C Q I l m h;obtain⟨i,p,D,rfl,rfl,sq,g,j,q⟩:=h;obtain⟨t,rfl⟩:=l;obtain⟨u,rfl,n⟩:=ue m;cases n;rcases sq with sq|sq
 ·obtain⟨r,d,f,w⟩:=I.list sq;exact wT I (PyProof.Rows.join_listW f.isList (GX d) g j λy k z=>⟨.str _,H,I.tok k,⟨_,rfl⟩,q⟩)
 ·obtain⟨r,d,f,w⟩:=I.tuple sq;exact wT I (PyProof.Rows.join_tupleW f (GX d) g j λy k z=>⟨.str _,H,I.tok k,⟨_,rfl⟩,q⟩)
def Gc(to:DE)(t:DA):DE:=λσ O=>(to σ O).bnd λx O1=>match x with
 | .str i=>(t σ O1).bnd λys O2=>match ys with
  | [z]=>match (match tJ O2 z with|some ds=>XV ds|none=>Ed z) with
   | some ds=>match CW ds with
    |some zs=>if i.length<=16/\(zs.map (·.length)).sum+zs.length<=1048576 then .ok (.str (Txt.join ⟨i.toArray⟩ zs).cps.toList) O2 else .bad
    |none=>.bad
   |none=>.bad
  |_=>.bad
 |_=>.bad
def Zc(C:PD X Ex o to)(D:uc X Ex (e::es) t)(E:attributeBase o "join" X.env (eval o X.env)=eval o X.env:=by rfl)
  (G:((backTo p_ (aS (e::es) X.env)).all (λx=>!x.1)&&(backToKw p_ (keywordEach [] X.env)).all (λx=>x.1.isSome)&&decide ((e::es).length+([]:List fF).length+(if ([]:List fF).isEmpty then 0 else 1)<30))=YP:=by rfl)
  (I:(apos.endLine==p_.line)=YP:=by rfl) (J:aS (e::es) X.env=(Y1,eval e X.env)::aS es X.env:=by rfl) (L:(backTo p_ (aS es X.env)).any (·.1)=Y1:=by rfl):
  PD X Ex (.Call (.Attribute o "join" apos) (e::es) [] p_) (Gc to t):=
 r9 (F7 kE PySem.F.slot_str_join PySem.F.type_str_join Yb C.out D.out E G I J L) λX4 μ σ O d_ H Q j M q=>rd.go j M q λd O1 v H1 g_ N x P r p=>by
  cases d with
  | str i=>
   unfold X6 at r;subst r;refine⟨rfl,uN.go N P p λys R f u S e3 x3 A T g=>?_⟩;split at g
   ·rename_i z;obtain⟨w,rfl,B⟩:=tW T;split at g
    ·rename_i U n;split at g
     ·rename_i V y;obtain⟨⟨k,W⟩,g⟩:=post.ite g;have h:∃p f,w=.ref p/\(qJ X.K u p f\/rL X.K u p f)/\oy X.K u X4 S U f:=by
       cases j:tJ R z with
       | some es=>
        rw[j] at n;cases n;obtain⟨p,f,k,l,m⟩:=vt A B j;exact⟨p,f,k,.inl l,m⟩
       | none=>
        rw[j] at n;obtain⟨p,f,k,l,m⟩:=AN B n;exact⟨p,f,k,.inr l,m⟩
      obtain⟨Y,f,rfl,l,m⟩:=h;have Z:=Pj m y;subst Z;refine⟨_,Y,V,rfl,rfl,l,?_,W,post.here g A ?_⟩
      ·show i.toArray.size<=16;simpa using k
      ·unfold X6;rw[JG]
     ·exact ak g
    ·exact ak g
   ·exact ak g
  |_=>exact ak p
abbrev DO:=Sg->Ow->R (Option Int)
noncomputable def Ef(Ex:Nat->Hp->Prop)(K:ah)(t:DO):TO:=λd_ H Q=>∃X4 μ σ O,oz K H X4 μ σ d_/\ou K H X4 μ O/\post Ex K (λ_ _(d v:Option Int)=>d=v) H X4 μ (t σ O) Q
structure BB(X:Cx)(Ex:Nat->Hp->Prop)(e:Option aR)(t:DO):Prop where
 out:PO X e (Ef Ex X.K t)
def Ge:DO:=λ_ O=>.ok X9 O
def IH(t:DE):DO:=λσ O=>(t σ O).bnd λd O1=>match d with
 |.int i=>.ok (XV i) O1
 |_=>.bad
def PO.imp{e:Option aR}{t t':TO}(h:PO X e t)(f:∀σ H Q,t' σ H Q->t σ H Q):PO X e t':=λX5 s σ H Q I q=>h X5 s σ H Q I (f σ H Q q)
def Zz:BB X Ex X9 Ge:=BB.mk <| PO.imp Zi λd_ H Q ⟨X4,μ,f,O,g,d,q⟩=>post.here (v:=X9) q d rfl
def Z8(h:PD X Ex e te):BB X Ex (XV e) (IH te):=BB.mk <| PO.imp (WZ h.out) λd_ H Q ⟨X4,μ,k,O,f,g,q⟩=>rd.go f g q λd l v m n t x j r p=>by
 cases d with
 |int i=>unfold X6 at r;subst r;exact⟨i,rfl,post.here (v:=XV i) p j rfl⟩
 |_=>exact ak p
def Ef.go{i j:Type}{l:Hp->List ab->i->j->Prop}{t:DO}{X4 μ:List ab}{σ:Sg}{O:Ow}{d_:St}{H:Hp}{Q1:Option Int->Hp->Prop}{k:Option Int->Ow->R i}{Q:j->Hp->Prop}(m:oz X.K H X4 μ σ d_)(n:ou X.K H X4 μ O)
  (q:post Ex X.K l H X4 μ ((t σ O).bnd k) Q)
  (f:∀v O1 g h,oz X.K g X4 h σ d_->Ext H μ g h->ou X.K g X4 h O1->post Ex X.K l g X4 h (k v O1) Q->Q1 v g):Ef Ex X.K t d_ H Q1:=
 ⟨X4,μ,σ,O,m,n,post.bnd q λd O1 v g h x c r p=>by
  have r:d=v:=r;subst r;exact f d O1 g h (m.ext x) x c p⟩
def MJ:V->Option Int->Option Int->Hp->VK->Prop:=λx lo hi H Q=>∃i,x=.str i/\i.length<=KB/\Q (.str (Txt.slice i lo hi)) H
def zb8{h:aX}{sl:ab}{m n:ae}{lo p:Option Int}(r:h.IsSliceOf sl m n .none)(pl:iV m lo)(q:iV n p):∃l u:Option (Int×Tok),h.IsSlice sl l u X9/\l.map (·.1)=lo/\u.map (·.1)=p:=by
 obtain⟨d,g,f,k⟩:=r;cases pl with
 | none=>
  cases q with
  |none=>exact⟨X9,X9,⟨d,g,f,k⟩,rfl,rfl⟩
  |int j t=>exact⟨X9,XV (j,t),⟨d,g,f,k⟩,rfl,rfl⟩
 | int i t=>
  cases q with
  |none=>exact⟨XV (i,t),X9,⟨d,g,f,k⟩,rfl,rfl⟩
  |int j t'=>exact⟨XV (i,t),XV (j,t'),⟨d,g,f,k⟩,rfl,rfl⟩
def V2:yF X MJ:=by intro X5 s p H x v r w y z A Q I d f g j h;obtain⟨i,rfl,m,q⟩:=h;obtain⟨t,rfl⟩:=d;obtain⟨l,u,n,rfl,rfl⟩:=zb8 f g j;refine⟨"str",_,PySem.F.slot_str_getitem.lookup,typeIs_str s i t,?_⟩;exact wT I (wpAny_getItem_str_slice (l:=l) (u:=u) (st:=X9) n rfl (post_val_or_str ⟨aE (Txt.slice_le i _ _) m,λB k C=>⟨.str _,H,I.tok k,⟨_,rfl⟩,q⟩⟩))
def FT(xs:List D)(lo hi:Option Int):List D:=(xs.drop (HT.sIx xs.length 0 lo)).take (HT.sIx xs.length xs.length hi-HT.sIx xs.length 0 lo)
def Tp(O:Ow)(x:D)(lo hi:Option Int):R D:=match x with
 |.str i=>if i.length<=4000000 then .ok (.str (Txt.slice ⟨i.toArray⟩ lo hi).cps.toList) O else .bad
 |.tup ds=>if HT.sIx ds.length 0 lo=0/\HT.sIx ds.length ds.length hi=ds.length then .bad else .ok (.tup (FT ds lo hi)) O
 | x=>match tJ O x with
  |some ds=>.ok (.lst (FT ds lo hi)) O
  |none=>.bad
def H8(te:DE)(tl th:DO):DE:=λσ O=>(te σ O).bnd λx O1=>(tl σ O1).bnd λlo O2=>(th σ O2).bnd λhi O3=>Tp O3 x lo hi
def T5(K:ah):V->Option Int->Option Int->Hp->VK->Prop:=λx lo hi H Q=>MJ x lo hi H Q\/MR K x lo hi H Q\/MM K x lo hi H Q
def Qw{K:ah}{ds:List D}{vs:List V}(h:oy K H X4 μ ds vs)(lo d:Option Int):oy K H X4 μ (FT ds lo d) (zK vs lo d):=by unfold FT zK;rw[h.length];exact oy.take _ (oy.drop _ h)
def U1{lo y:Option aR}{z A:DO}{B:Pos}(C:PD X Ex e te)(m:BB X Ex lo z)(D:BB X Ex y A):PD X Ex (.Subscript e (.Slice lo y X9 B) pos) (H8 te z A):=
 r9 (Zl (r:=T5 X.K) (yF.or V2 (yF.or WI YQ)) C.out m.out D.out) λX4 μ W O d_ H Q E F q=>rd.go E F q λd Y v Z g_ G x I r p=>Ef.go G I p λl O2 H2 pW J L M N=>Ef.go J M N λu O3 H3 Ij e4 P h f=>by
  have j:=(r.ext L).ext P;unfold Tp at f;split at f
  ·rename_i i;unfold X6 at j;subst j;obtain⟨m.out,f⟩:=post.ite f;refine .inl ⟨_,rfl,?_,post.here f h ?_⟩
   ·show i.toArray.size<=_;rw[aF];exact yq m.out
   ·unfold X6;rw[JG]
  ·rename_i R;unfold X6 at j;obtain⟨n,t,rfl,S,k⟩:=j;split at f
   ·exact ak f
   ·rename_i T;refine .inr (.inl ⟨n,t,rfl,S.sq,by rw[<- k.length];exact T,λU g=>post.ok f (.laid g) (h.laid g) (X6.newT h g (Qw k l u))⟩)
  ·split at f
   ·rename_i R w;obtain⟨n,t,rfl,V,k⟩:=vt h j w;exact .inr (.inr ⟨n,t,rfl,V,λU g=>post.ok f (.laid g) (h.laid g) (X6.newL h g (Qw k l u))⟩)
   ·exact ak f
def FP:Ow->D->D->R D:=λO x y=>match x,y with
 |.str i,.str j=>.ok (.bl (!(bN ⟨j.toArray⟩ ⟨i.toArray⟩ 0 j.length 1).isEmpty)) O
 |_,_=>.bad
def Zj:rZ X Ex (λx y H Q=>∃i j,x=.str i/\y=.str j/\Q (.bl (!(bN j i 0 j.length 1).isEmpty)) H) FP:=by
 intro H X4 μ O x y v w Q c d f q;unfold FP at q;split at q
 ·rename_i i j;unfold X6 at d f;subst d;subst f;refine⟨_,_,rfl,rfl,post.here q c ?_⟩;have e:(⟨j.toArray⟩:Str).length=j.length:=by show j.toArray.size=_;simp
  rw[e];exact uA
 ·exact ak q
def XB{i j:Nat}{x y:Str}{t:DA}{f g h:Pos}{kt k2 A3}(l:X.calm=YP)(m:X.N.Nodup)(n:X.N[i]?=XV x)(u:X.N[j]?=XV y)(z:i≠j)(A:X.env.scope.names.lookup x=XV .local)(B:X.env.scope.names.lookup y=XV .local)(C:uc X Ex [a,b] t)
  (D:fP [.Tuple [.Name x f,.Name y g] kt h] (.Tuple [a,b] k2 A3) X.env=pure (XV [x,y]))
  (F:fO [.Tuple [.Name x f,.Name y g] kt h] (.Tuple [a,b] k2 A3) pos.line X.env=pure Y1:=by rfl):
  rM X Ex (.Assign [.Tuple [.Name x f,.Name y g] kt h] (.Tuple [a,b] k2 A3) pos) (FI i j t):=
 w9 (Wt l m n u z A B C.out D F) λX4 μ G O E d_ H k I q=>⟨X4,μ,G,O,k,I,oB.bnS q λd R S J K L M r p=>by
  split at p
  ·obtain⟨v,w,rfl,P,Q⟩:=AA r;exact⟨v,w,rfl,p _ J K .refl (((k.ext L).set P i).set Q j) M⟩
  ·exact ak p⟩
end
def qK(K:ah)(mg:Str->Option ae)(x:Str)(st:er):Prop:=∃f fd,mg x=XV (.ref f)/\L2.Fun K x x st f fd
structure Callee(P:aM)(w:aV)(K:ah)(mg:Str->Option ae)(base:aX)(x:Str)(k n:Nat)(F:List D->Ow->R D):Prop where
 ex:∃f fd ps,mg x=XV (.ref f)/\cT K (.ref f)=YP/\Binds K fd ps []/\oP P w K mg base xo k f fd ps (Ih K yG n F)
def VE(c:Callee X.prog X.w X.K X.mg X.base x k n F)(a:oH j X.A)(b:k<=j)(d:Gl X x)(g:uc X qr (e::es) t)
  (h:(x==("__debug__":Str))=Y1:=by decide) (i:aS (e::es) X.env=(Y1,eval e X.env)::aS es X.env:=by rfl) (l:(backTo pos (aS es X.env)).any (·.1)=Y1:=by rfl):
  PD X qr (.Call (.Name x p) (e::es) [] pos) (j_ n F t):=by obtain⟨f,r,s,m,o,q,G⟩:=c.ex;exact UA (Ec:=yG) (E:=E0) (G.mono b) a d m o q Ni g h i l
def rj(h:qK K mg x st)(S:qv N ps (qg st))
  (l:∀(e c g:ae)(i:Option ab)(b j:ae)(d:List ae),d.length=ps.length->bindArgs (cy x x (xF st) (u_ st) (qg st) .none e c g i b j) ⟨d,[]⟩=pure (ps.zip d))
  (m:∀(f:ab)(b:ae)(A:a7)(a:List Env)(s:af)(H:Hp)(E:XK),oH k (A.deeper (eS x (qg st) s.heap.objs.size f b))->tF (CH P w K mg base N x (qg st) f b A a s H E) qr (u_ st) t):
  Callee P w K mg base x (k+1) ps.length (qT N.length t):=by obtain⟨f,n,o,F⟩:=h;refine⟨f,n,ps,o,F.kp,F.binds l,?_⟩;obtain⟨u,v,e,c,g,i,b,j,y,rfl,p,q⟩:=F.ex;exact UO p q S λA a s H E r=>m f b A a s H E r
def Callee.imp(c:Callee P w K mg base x k n F)
  (h:∀ds O H X4 μ Q,ou K H X4 μ O->q9 qr K H X4 μ (G ds O) Q->q9 qr K H X4 μ (F ds O) Q):Callee P w K mg base x k n G:=by obtain⟨f,b,e,g,i,j,l⟩:=c.ex;refine⟨f,b,e,g,i,j,l.imp λo H Q E ⟨m,X4,μ,ds,O,d,a,q⟩=>⟨m,X4,μ,ds,O,d,a,h ds O H X4 μ Q a q⟩⟩
def frz(O:Ow)(n:Nat):Nat->D->Option D
 | 0,d=>match d with
  |.own k=>if k<n then XV (.own k) else X9
  |.lst _=>X9
  |.tup _=>X9
  |.map _ _=>X9
  |d=>XV d
 | f+1,d=>match d with
  | .own k=>if k<n then XV (.own k) else match O[k]? with
   |some ds=>(qh (frz O n f) ds).map .lst
   |none=>X9
  |.lst ds=>(qh (frz O n f) ds).map .lst
  |.tup ds=>(qh (frz O n f) ds).map .tup
  |.map _ _=>X9
  |d=>XV d
def uK(n:Nat)(r:R D):R D:=match r with
 | .ok d O=>match frz O n 8 d,qh (qh (frz O n 8)) (O.take n) with
  |some d',XV O'=>.ok d' O'
  |_,_=>.bad
 |r=>r
section
variable{K:ah}{H:Hp}{X4 μ ν:List ab}{O:Ow}{n:Nat}
theorem DJ(b:∀d d' v,f d=XV d'->X6 K H X4 μ d v->X6 K H X4 f_ d' v):∀(ds a:List D)(vs:List V),qh f ds=XV a->oy K H X4 μ ds vs->oy K H X4 f_ a vs
 |[],a,vs,e,h=>by cases e;unfold oy at h ⊢;exact h
 | d::ds,a,vs,e,h=>by
  unfold qh at e;split at e
  ·rename_i p c g i;cases e;unfold oy at h;obtain⟨v,r,rfl,j,k⟩:=h;exact .cons (b d p v g j) (DJ b ds c r i k)
  ·cases e
def N3(c:ou K H X4 (μ++ν) O)(S:μ.length=n):∀(f:Nat)(d d':D)(v:V),frz O n f d=XV d'->X6 K H X4 (μ++ν) d v->X6 K H X4 μ d' v:=by
 have s:∀{a:ab},a∉μ++ν->a∉μ:=λh m=>h (bB _ m);have u:∀{k:Nat}{v:V},k<n->X6 K H X4 (μ++ν) (.own k) v->X6 K H X4 μ (.own k) v:=λ{k v}w h=>by
  unfold X6 at h ⊢;obtain⟨a,rfl,e⟩:=h;rw[aG 'd'] at e;exact⟨a,rfl,e⟩
 have B:∀{v:V},X6 K H X4 (μ++ν) .dct v->X6 K H X4 μ .dct v:=λ{v}h=>by
  unfold X6 at h ⊢;obtain⟨a,rfl,r,x,y⟩:=h;exact⟨a,rfl,r,x,s y⟩
 have E:∀{C:Nat}{v:V},X6 K H X4 (μ++ν) (.exn C) v->X6 K H X4 μ (.exn C) v:=λ{C v}h=>by
  unfold X6 at h ⊢;obtain⟨a,G,rfl,g,r,x,y⟩:=h;exact⟨a,G,rfl,g,r,x,s y⟩
 intro f
 induction f with
 | zero=>
  intro d d' v e h;cases d with
  | own k=>
   unfold frz at e;dsimp only at e;split at e
   ·rename_i w;cases e;exact u w h
   ·cases e
  |lst o=>cases e
  |tup o=>cases e
  |dct=>cases e;exact B h
  |map ks o=>cases e
  |adr _=>cases e;unfold X6 at h ⊢;exact h
  |exn C=>cases e;exact E h
  |tab P=>cases e;unfold X6 at h ⊢;exact h
  |non=>cases e;unfold X6 at h ⊢;exact h
  |bl b=>cases e;unfold X6 at h ⊢;exact h
  |int i=>cases e;unfold X6 at h ⊢;exact h
  |str i=>cases e;unfold X6 at h ⊢;exact h
 | succ f ih=>
  intro d d' v e h;cases d with
  | own k=>
   unfold frz at e;dsimp only at e;split at e
   ·rename_i w;cases e;exact u w h
   ·rename_i w;unfold X6 at h;obtain⟨a,rfl,A⟩:=h;obtain⟨o,t,I,J,L⟩:=c.at_ k a A;rw[I] at e;dsimp only at e;cases p:qh (frz O n f) o with
    |none=>rw[p] at e;cases e
    | some ps=>
     rw[p] at e;cases e;unfold X6;refine⟨a,t,rfl,.inl ⟨.inl J,c.nh a (aN A),λm=>?_⟩,DJ ih o ps t p L⟩;obtain⟨j,F,M⟩:=dq.mp m;have N:(μ++ν)[j]?=XV a:=by rw[aG F,ay F,M]
     obtain⟨T,Q⟩:=aq.mp N;obtain⟨U,R⟩:=aq.mp A;have:=(jS c.nd).mp (Q.trans R.symm);lia
  | lst o=>
   unfold frz at e;dsimp only at e;unfold X6 at h;obtain⟨a,t,rfl,l,q⟩:=h;cases p:qh (frz O n f) o with
   |none=>rw[p] at e;cases e
   | some ps=>
    rw[p] at e;cases e;unfold X6;exact⟨a,t,rfl,l.imp (λz=>⟨z.1,z.2.1,s z.2.2⟩) id,DJ ih o ps t p q⟩
  | tup o=>
   unfold frz at e;dsimp only at e;unfold X6 at h;obtain⟨a,t,rfl,l,q⟩:=h;cases p:qh (frz O n f) o with
   |none=>rw[p] at e;cases e
   | some ps=>
    rw[p] at e;cases e;unfold X6;exact⟨a,t,rfl,l.imp (λz=>⟨z.1,z.2.1,s z.2.2⟩) id,DJ ih o ps t p q⟩
  |dct=>cases e;exact B h
  |map ks o=>cases e
  |adr _=>cases e;unfold X6 at h ⊢;exact h
  |exn C=>cases e;exact E h
  |tab P=>cases e;unfold X6 at h ⊢;exact h
  |non=>cases e;unfold X6 at h ⊢;exact h
  |bl b=>cases e;unfold X6 at h ⊢;exact h
  |int i=>cases e;unfold X6 at h ⊢;exact h
  |str i=>cases e;unfold X6 at h ⊢;exact h
theorem JU{α a:Type}{f:α->Option a}:∀{l:List α}{r:List a},qh f l=XV r->r.length=l.length
 |[],r,e=>by cases e;rfl
 | x::l,r,e=>by
  unfold qh at e;split at e
  ·rename_i p c d b;cases e;simp[JU b]
  ·cases e
theorem PN{α a:Type}{f:α->Option a}:∀{l:List α}{r:List a}{k:Nat}{y:a},qh f l=XV r->r[k]?=XV y->∃x,l[k]?=XV x/\f x=XV y
 |[],r,k,y,e,h=>by cases e;simp at h
 | x::l,r,k,y,e,h=>by
  unfold qh at e;split at e
  ·rename_i p i b c;cases e;cases k with
   |zero=>simp at h;subst h;exact⟨x,by simp,b⟩
   |succ k=>obtain⟨z,d,g⟩:=PN (k:=k) c (by simpa using h);exact⟨z,by simpa using d,g⟩
  ·cases e
def Ka{j:Nat->Hp->Prop}{r:R D}{Q:VK}(g:μ.length=n)(q:q9 j K H X4 μ (uK n r) Q):q9 j K H X4 μ r Q:=by
 cases r with
 |bad=>exact q
 |exc c O'=>exact q
 | ok d O'=>
  intro v l G x c h;obtain⟨ν,rfl⟩:=x.pre;have b:q9 j K H X4 μ (match frz O' n 8 d,qh (qh (frz O' n 8)) (O'.take n) with|some d',XV O2=>.ok d' O2|_,_=>.bad) Q:=q;cases i:frz O' n 8 d with
  |none=>rw[i] at b;exact ak b
  | some d'=>
   cases f:qh (qh (frz O' n 8)) (O'.take n) with
   |none=>rw[i,f] at b;exact ak b
   | some O2=>
    rw[i,f] at b;have u:Ext H μ l μ:=⟨⟨[],by simp⟩,x.kept,λ_ m=>.inl m,x.there,x.tab⟩;have o:O'.length=(μ++ν).length:=c.len.symm;have w:ou K l X4 μ O2:=by
     refine⟨?_,(dF.mp c.nd).1,λa m=>c.nh a (bB _ m),c.ht,λk a e=>?_⟩
     ·rw[JU f,bZ,o,az,g];lia
     ·have y:k<μ.length:=(aq.mp e).1;obtain⟨z,p,A,B,C⟩:=c.at_ k a (by rw[aG y];exact e);have s:k<O2.length:=by rw[JU f,bZ,o,az,g];lia
      obtain⟨E,t,F⟩:=PN f (ay s);have:E=z:=by
       rw[jq,Y2 'd',A] at t;cases t;rfl
      subst this;exact⟨_,p,ay s,B,DJ (N3 c g 8) _ _ p F C⟩
    exact b v l μ u w (N3 c g 8 d d' v i h)
end
def zL(F:List D->Ow->R D):List D->Ow->R D:=λds O=>uK O.length (F ds O)
def Callee.frz(c:Callee P w K mg base x k n F):Callee P w K mg base x k n (zL F):=
 c.imp λd O H a e Q b q=>Ka b.len q
noncomputable def MP(sc scope:cO)(N':List Str)(sl:List Nat):Bool:=
 (match scope.kind with|.function=>YP|_=>Y1)&&decide ((scope.names.map (·.1)).Nodup)&&(scope.names.all λy=>!(y.2 == .free)||sc.names.lookup y.1==XV .cell||sc.names.lookup y.1==XV .free) &&
 (N'.zipIdx.all λp=>!((scope.names.any λy=>y.1==p.1&&y.2 == .local)||(scope.names.any λy=>y.1==p.1&&y.2 == .cell))||sl.contains p.2)
def uB(h:MP sc scope N' sl=YP):vk sc scope N' sl:=by
 unfold MP at h;simp only[aQ,decide_eq_true_eq,ar] at h;obtain⟨⟨⟨a,b⟩,c⟩,d⟩:=h;refine⟨?_,b,λy f g=>?_,λi x j k=>?_⟩
 ·cases e:scope.kind<;>rw[e] at a<;>first|rfl|cases a
 ·have:=c y f;rw[g] at this;simpa using this
 ·have l:(x,i)∈N'.zipIdx:=by
   rw[List.mem_zipIdx_iff_getElem?];exact j
  have h:=d _ l;have n:((scope.names.any λy=>y.1==x&&y.2 == .local)||(scope.names.any λy=>y.1==x&&y.2 == .cell))=YP:=by
   rw[dH];exact k.imp (λm=>cI.mpr ⟨_,m,by simp⟩) λm=>cI.mpr ⟨_,m,by simp⟩
  have h:(!((scope.names.any λy=>y.1==x&&y.2 == .local)||(scope.names.any λy=>y.1==x&&y.2 == .cell))||sl.contains i)=YP:=h;rw[n] at h;simpa using h
structure Io(mg:Str->Option ae)(x:Str)(cs:List Nat):Prop where
 ex:∃t,mg x=XV (.str ⟨cs.toArray⟩ t)
section
variable{X:Cx}{Ex:Nat->Hp->Prop}{pos:Pos}{b c e:aR}{H:Hp}{X4 μ:List ab}{O:Ow}
def Ym(h:Io X.mg x cs)(a:Gl X x:=by rfl)(d:(x==("__debug__":Str))=Y1:=by decide):PD X Ex (.Name x pos) (dC (.str cs)):=by obtain⟨t,h⟩:=h.ex;exact Z4 cs a h rfl d
def rT:Ow->D->D->R D:=λO x y=>match y with
 |.str _=>FP O x y
 |_=>qe zj O x y
def r8:Ow->D->D->R D:=λO x y=>match y with
 | .str _=>match FP O x y with
  |.ok (.bl b) O1=>.ok (.bl (!b)) O1
  |_=>.bad
 |_=>qe BK O x y
def NR(a:X.A.units+64<cLine):qB X (cm .In) (λx y H Q=>zf X.K zj x y H Q \/ ∃i j,x=.str i/\y=.str j/\Q (.bl (!(bN j i 0 j.length 1).isEmpty)) H):=qB.or (Y0 a) zco
def NP:rZ X Ex (λx y H Q=>zf X.K zj x y H Q \/ ∃i j,x=.str i/\y=.str j/\Q (.bl (!(bN j i 0 j.length 1).isEmpty)) H) rT:=by
 intro H X4 μ O x y v w Q c a d q;unfold rT at q;split at q
 ·exact .inr (Zj H X4 μ O _ _ v w Q c a d q)
 ·exact .inl (BY H X4 μ O x y v w Q c a d q)
def Pz(a:X.A.units+64<cLine):qB X (cm .NotIn) (λx y H Q=>zf X.K BK x y H Q \/ ∃i j,x=.str i/\y=.str j/\Q (.bl (!(!(bN j i 0 j.length 1).isEmpty))) H):=qB.or (zeU a) z7U
def Py:rZ X Ex (λx y H Q=>zf X.K BK x y H Q \/ ∃i j,x=.str i/\y=.str j/\Q (.bl (!(!(bN j i 0 j.length 1).isEmpty))) H) r8:=by
 intro H X4 μ O x y v w Q c f g q;unfold r8 at q;split at q
 ·rename_i a;cases x with
  | str i=>
   unfold X6 at f g;subst f;subst g;refine .inr ⟨_,_,rfl,rfl,post.here (d:=D.bl (!(!(bN ⟨a.toArray⟩ ⟨i.toArray⟩ 0 a.length 1).isEmpty))) q c ?_⟩;have e:(⟨a.toArray⟩:Str).length=a.length:=by show a.toArray.size=_;simp
   rw[e];exact uA
  |_=>exact ak q
 ·exact .inl (BY H X4 μ O x y v w Q c f g q)
end
section
variable{X:Cx}{X5:List (ab×Obj)}{d_:St}{H:Hp}{s:af}
def Inv.turns(ch:List ab)(I:L2.Inv X X5 d_ H s)(k:∀b o,b∉ch->s.heap.get? b=XV o->h'.get? b=XV o)(d:∀b∈ch,si X X5 H b)(j:0<t':=by first|assumption|exact Inv.tk ‹_›):L2.Inv X X5 d_ H { s with heap:=h',toks:=t' }:=by
 have f:∀b u,H b=XV u->b∉ch:=λb u e z=>by rw[(d b z).1] at e;cases e
 have g:Un (uH X.stack) ch H H s.heap h':=⟨λb o e _ _ n=>k b o n e,λb o e _ _ n=>⟨o.slots,k b o n e⟩,λ_ _ _ n _=>n,λb o e n=>⟨o,k b o n e⟩,λ_ _ e=>e,λ_ _ _ e=>e,λb l e=>⟨#[],by rw[e];simp⟩⟩;have a:HOk X.prog X.w H h':=λb u e=>(I.hok b u e).stay (λc v h q=>k c v (by
  rcases h with z|z
  ·rw[z];exact f b u e
  ·exact f c _ z) q) (λ_ q=>q) λ_ _ q=>q
 exact I.call (t':=t') (d':=s.drawn) g a I.bare λb i=>let ⟨_,f1,_,f3,f4,f5⟩:=d b i;⟨f3,f1,f4,f5⟩
end
def Itz(K:ah)(l m:ab):It:=
 ⟨λi H=>∃xs ys x y,qJ K H l xs/\qJ K H m ys/\xs[i]?=XV x/\ys[i]?=XV y,
   λi H v H'=>∃p x y,H p=X9/\v=.ref p/\(∀xs,qJ K H l xs->xs[i]?=XV x)/\(∀ys,qJ K H m ys->ys[i]?=XV y)/\H'=upd H p (.tup [x,y]),
   λi H=>∃xs ys,qJ K H l xs/\qJ K H m ys/\(xs.length<=i\/ys.length<=i)⟩
def o6(K:ah)(src:Src)(a:ab)(H:Hp)(X4 μ:List ab):Prop:=∀hid' H' f_ O',Mv H X4 μ H' hid' f_->ou K H' hid' f_ O'->∃ds vs,qJ K H' a vs/\oy K H' hid' f_ ds vs/\∀i,src.get O' i=ds[i]?
section
variable{K:ah}{H:Hp}{X4 μ:List ab}
def o6.val(l:LstAt K H X4 μ a vs)(q:oy K H X4 μ ds vs):o6 K (.val ds) a H X4 μ:=λb d e f m c=>⟨ds,vs,(l.mv m).sq,q.mv m,λ_=>rfl⟩
def o6.own(d:μ[k]?=XV a):o6 K (.own k) a H X4 μ:=by
 intro e p q f m c;obtain⟨g,rfl⟩:=m.pre;have h:(μ++g)[k]?=XV a:=by rw[aG (aq.mp d).1];exact d
 obtain⟨b,j,l,n,o⟩:=c.at_ k a h;exact⟨b,j,.of n,o,λi=>by show(match f[k]? with|some b=>b[i]?|none=>X9)=_;rw[l]⟩
def o6.mv(h:o6 K src a H X4 μ)(e:Mv H X4 μ H1 wH g_):o6 K src a H1 wH g_:=λb d f g m c=>h b d f g (e.trans m) c
def oG.zip(E:o6 K s1 a H X4 μ)(F:o6 K s2 b H X4 μ):oG K (Itz K a b) (.zip s1 s2) H X4 μ:=by
 intro e n o f m c i;obtain⟨G,g,h,q,I⟩:=E e n o f m c;obtain⟨J,j,k,r,L⟩:=F e n o f m c;show match (match s1.get f i,s2.get f i with|some x,XV y=>XV (D.tup [x,y])|_,_=>X9) with|some d=>_|none=>_
 rw[I,L];cases s:G[i]? with
 | none=>
  dsimp only;exact⟨g,j,h,k,.inl (by rw[<- q.length];exact aT.mp s)⟩
 | some x=>
  cases t:J[i]? with
  | none=>
   dsimp only;exact⟨g,j,h,k,.inr (by rw[<- r.length];exact aT.mp t)⟩
  | some y=>
   dsimp only;obtain⟨v,u,M⟩:=q.get s;obtain⟨w,A,N⟩:=r.get t;refine⟨⟨g,j,v,w,h,k,u,A⟩,λz R O=>?_⟩;obtain⟨p,S,T,l,rfl,P,Q,rfl⟩:=O;have B:=P g h;rw[u] at B;cases B;have C:=Q j k;rw[A] at C;cases C;exact⟨.laid l,c.laid l,X6.newT c l (.cons M (.cons N .nil))⟩
end
noncomputable def NG:D->Option Src
 |.lst ds=>XV (.val ds)
 |.own k=>XV (.own k)
 |_=>X9
def zou(t:DA):DI:=λσ O=>(t σ O).bnd λxs O1=>match xs with
 | [x,y]=>match NG x,NG y with
  |some p,XV q=>.ok (.zip p q) O1
  |_,_=>.bad
 |_=>.bad
section
variable{X:Cx}{Ex:Nat->Hp->Prop}{c e:aR}{X5:List (ab×Obj)}{H:Hp}{s:af}{X4 μ:List ab}{O:Ow}
def Wo{i j:Nat}{x y:Str}{b d f:Pos}{g:Nat}(h:X.calm=YP)(a:X.N.Nodup)(k:X.N[i]?=XV x)(l:X.N[j]?=XV y)(m:Loc X.env.scope x)(n:Loc X.env.scope y)
  (o:X.fn x=YP\/X.env.scope.names.lookup x=XV .local) (p:X.fn y=YP\/X.env.scope.names.lookup y=XV .local):PG X (.Tuple [.Name x b,.Name y d] g f) ((Tg.two i j).rd X.K):=
 Ob h (DC (B9 a k m o) (DC (B9 a l n p) Pd))
def xB:List D->Option (List Int)
 |[]=>XV []
 |.int i::r=>(xB r).map (i :: ·)
 |_=>X9
theorem JJ:∀{ds:List D}{vs:List V}{ns:List Int},oy K H X4 μ ds vs->xB ds=XV ns->vs=ns.map V.int
 |[],vs,ys,h,e=>by unfold oy at h;subst h;cases e;rfl
 | d::ds,vs,ys,h,e=>by
  unfold oy at h;obtain⟨v,r,rfl,a,b⟩:=h;cases d with
  | int i=>
   unfold xB at e;cases q:xB ds with
   |none=>rw[q] at e;cases e
   | some zs=>
    rw[q] at e;cases e;unfold X6 at a;subst a;rw[JJ b q];rfl
  |_=>cases e
def AK:Ow->List D->R D:=λO xs=>match xs with
 | [.str cs]=>match kU ⟨cs.toArray⟩ with
  |some n=>if cs.length<=640 then .ok (.int n) O else .bad
  |none=>.bad
 |xs=>Im O xs
def zef:oJ X (.type "int") (λxs H Q=>∃x n,xs=[.str x]/\kU x=XV n/\x.length<=640/\Q (.int n) H):=by intro X5 s d H xs f Q I r h;obtain⟨x,n,rfl,a,b,q⟩:=h;obtain⟨u,rfl,t,rfl⟩:=ue r;exact PySem.W.KIN.call_text a b ⟨.int _,H,I.tok _,⟨_,rfl⟩,q⟩
noncomputable def M3:List V->Hp->VK->Prop:=λxs H Q=>((∃i,xs=[.int i]/\Q (.int i) H) \/ ∃k,xs=[.bl k]/\Q (.int (if k then 1 else 0)) H) \/ ∃x n,xs=[.str x]/\kU x=XV n/\x.length<=640/\Q (.int n) H
def zcO:oJ X (.type "int") M3:=oJ.or zdv zef
def YB:uy X Ex M3 AK:=by
 intro H X4 μ O i b Q c d q;unfold AK at q;split at q
 ·rename_i f;obtain⟨v,rfl,a⟩:=tW d;unfold X6 at a;subst a;split at q
  ·rename_i n g;obtain⟨h,q⟩:=post.ite q;refine .inr ⟨_,n,rfl,g,?_,post.here q c sR⟩;show f.toArray.size<=640;simpa using h
  ·exact ak q
 ·exact .inl (WA H X4 μ O _ b Q c d q)
end
def Callee.self(c:Callee P w K mg base x k n F):Callee P w K mg base x k n F:=c
section
variable{X:Cx}{Ex:Nat->Hp->Prop}{pos:Pos}{e o i:aR}{ti:DE}{X5:List (ab×Obj)}{d_:St}{H:Hp}{s:af}{X4 μ:List ab}{O:Ow}
def ZQ:rM X Ex (.Pass pos) qQ:=w9 YT λX4 μ c O E d_ H a b q=>q d_ H μ .refl a b
noncomputable def uf(tab:List (Int×Int))(i:Int):Option Int:=(tab.find? λkv=>kv.1==i).map (·.2)
def Uw(at_:List (Int×Int)->Int->Option Int)(tab:List (Int×Int))(t:DE):DE:=λσ O=>(t σ O).bnd λx O1=>match x with
 | .int i=>match at_ tab i with
  |some v=>.ok (.int v) O1
  |none=>.bad
 |_=>.bad
def CO:List (Int×Int)->DE->DE:=Uw uf
noncomputable def FU:List DictEntry->List (Int×Int)->Bool
 |[],[]=>YP
 |e::es,(k,v)::r=>(match e.key with|.int i _=>i==k|_=>Y1)&&(e.hash==hashInt k)&&(match e.val with|.int i _=>i==v|_=>Y1)&&FU es r
 |_,_=>Y1
def FY(o:Obj)(tab:List (Int×Int)):Bool:=(match o.cls with|.type n=>n == "dict"|_=>Y1)&&o.dict.isNone&&o.slots.isEmpty&&decide ((tab.map (·.1)).Nodup)&&(match o.data with|.dict es _=>FU es.toList tab|_=>Y1)
structure Ay(K:ah)(mg:Str->Option ae)(x:Str)(tab:List (Int×Int)):Prop where
 ex:∃e o,mg x=XV (.ref e)/\K.lookup e=XV o/\FY o tab=YP/\(e==sysModules)=Y1
theorem Rq:∀{f:List DictEntry}{tab:List (Int×Int)},FU f tab=YP->∃a:List (Int×ae),Pairs (intKind P w) f a/\(∀e∈f,∃k,(intKind P w).is k e.key=YP/\e.hash=(intKind P w).hash k)/\a.map (·.1)=tab.map (·.1)/\
  ∀i,(valueAt a i).isSome=(uf tab i).isSome/\∀v,uf tab i=XV v->∃t,valueAt a i=XV (.int v t)
 |[],[],_=>⟨[],.nil,by simp,rfl,λi=>⟨rfl,λv h=>by cases h⟩⟩
 |[],_::_,h=>by cases h
 |_::_,[],h=>by cases h
 | e::f,(k,v)::r,h=>by
  obtain⟨b,key,x⟩:=e;unfold FU at h;simp only[aQ] at h;obtain⟨⟨⟨c,g⟩,d⟩,y⟩:=h;split at c
  ·rename_i i t;split at d
   ·rename_i j u;have c:i=k:=by simpa using c
    have g:b=hashInt k:=by simpa using g
    have d:j=v:=by simpa using d
    subst c d;obtain⟨a,p,z,A,l⟩:=Rq (P:=P) (w:=w) y;have n:(intKind P w).is i (.int i t)=YP:=by show io i (.int i t)=YP;simp[io]
    refine⟨(i,.int j u)::a,.cons n rfl p,λe he=>?_,by simp[A],λq=>?_⟩
    ·rcases am.mp he with rfl|he
     ·exact⟨i,n,g⟩
     ·exact z e he
    ·unfold valueAt uf;by_cases m:i=q
     ·subst m;simp
     ·have B:(decide ((i,lS j u).1=q))=Y1:=by simpa using m
      have C:((i,j).1==q)=Y1:=by simpa using m
      rw[eC,eC,B,C];exact l q
   ·cases d
  ·cases c
def zeJ{P:aM}{w:aV}{o:Obj}{a:List (Int×Int)}(h:FY o a=YP):∃f:Int->Option ae,(∀(c:aX)(e:ab),c.get? e=XV o->c.MapOf (intKind P w) e f)/\∀i,(f i).isSome=(uf a i).isSome/\∀v,uf a i=XV v->∃t,f i=XV (.int v t):=by
 obtain⟨q,l,m,d⟩:=o;unfold FY at h;simp only[aQ,decide_eq_true_eq] at h;obtain⟨⟨⟨⟨b,r⟩,u⟩,x⟩,g⟩:=h;split at b
 ·rename_i n;have b:n = "dict":=by simpa using b
  split at g
  ·rename_i y z;obtain⟨A,p,B,C,j⟩:=Rq (P:=P) (w:=w) g;refine⟨valueAt A,λc e k=>?_,j⟩;refine Heap.DictOf.mapOf (knd:=intKind P w) ⟨_,y,z,k,⟨?_,?_,?_⟩,rfl,?_,p,by rw[C];exact x⟩
   ·show e9 n=_;rw[b]
   ·simpa using r
   ·simpa using u
   ·intro e k;exact B e (by simpa using k)
  ·cases g
 ·cases b
def OS(h:Ay X.K X.mg x tab):∃e,X.mg x=XV (.ref e)/\(e==sysModules)=Y1/\∃f:Int->Option ae,(∀(X5:List (ab×Obj))(d_:St)(H:Hp)(s:af),L2.Inv X X5 d_ H s->s.heap.MapOf (intKind X.prog X.w) e f)/\
  ∀i,(f i).isSome=(uf tab i).isSome/\∀v,uf tab i=XV v->∃t,f i=XV (.int v t):=by obtain⟨e,o,b,c,d,g⟩:=h.ex;obtain⟨f,m,a⟩:=zeJ (P:=X.prog) (w:=X.w) d;exact⟨e,b,g,f,λX5 d_ H s I=>m _ e (I.kIn e o c),a⟩
def Kt(i:Int)(t:Tok):(intKind P w).is i (.int i t)=YP:=by show io i (.int i t)=YP;simp[io]
def YN(h:Ay X.K X.mg x tab)(B:Gl X x)(C:PD X Ex i ti)(D:FX i)(E:(x==("__debug__":Str))=Y1:=by decide):PD X Ex (.Subscript (.Name x p) i pos) (CO tab ti):=by
 obtain⟨e,F,W,f,G,k⟩:=OS h;refine⟨?_⟩;rintro X5 s d_ H Q I ⟨X4,μ,Y,O,J,L,q⟩;refine zev (T := "dict") jP.lookup D (Jv (v:=.ref e) B F rfl E X5 s d_ H (λv l=>v=.ref e/\l=H) I ⟨rfl,rfl⟩ |> λz=>qc z λu N ⟨v,l,P,m,R,S⟩=>?_);subst R S;cases m;refine qc (C.out X5 N d_ l _ P (rd.go J L q (Q1:=λy b=>∃X4 c g d,ou X.K b X4 c g/\X6 X.K b X4 c d y/\q9 Ex X.K b X4 c (match d with|.int i=>(match uf tab i with|some v=>.ok (.int v) g|none=>.bad)|_=>.bad) Q)
  λd g y b c Z x2 n r a=>⟨X4,c,g,d,n,r,a⟩)) λu U ⟨y,b,A,m,X4,c,g,d,n,r,a⟩=>?_
 have M:=G X5 d_ b U A;cases d with
 | int j=>
  unfold X6 at r;subst r;obtain⟨t,rfl⟩:=m;have a:q9 Ex X.K b X4 c (match uf tab j with|some v=>.ok (.int v) g|none=>.bad) Q:=a;cases w:uf tab j with
  |none=>rw[w] at a;exact ak a
  | some v=>
   rw[w] at a;obtain⟨t',V⟩:=(k j).2 v w;exact⟨M.typeIs,wpAny_getItem_of (Kt j t) M V ⟨.int v,b,A.tok _,⟨_,rfl⟩,post.here a n sR⟩⟩
 |_=>exact ak a
def yV(neg:Bool)(tab:List (Int×Int))(t:DE):DE:=λσ O=>(t σ O).bnd λx O1=>match x with
 |.int i=>.ok (.bl (if neg=YP then !(uf tab i).isSome else (uf tab i).isSome)) O1
 |_=>.bad
def QH(a:Bool)(h:Ay X.K X.mg x tab)(B:Gl X x)(C:PD X Ex i ti)(D:(x==("__debug__":Str))=Y1:=by decide):PC X (if a=YP then .NotIn else .In) i (.Name x p) (rd Ex X.K (yV a tab ti)):=by
 obtain⟨e,E,A,f,F,n⟩:=OS h;rintro X5 s d_ H Q I ⟨X4,μ,W,O,G,J,q⟩;refine qc (C.out X5 s d_ H _ I (rd.go G J q (Q1:=λy c=>∃X4 g k d,ou X.K c X4 g k/\X6 X.K c X4 g d y/\q9 Ex X.K c X4 g (match d with|.int i=>.ok (.bl (if a=YP then !(uf tab i).isSome else (uf tab i).isSome)) k|_=>.bad) Q)
  λd k y c g Y Z l r b=>⟨X4,g,k,d,l,r,b⟩)) λu L ⟨y,c,N,P,X4,g,k,d,l,r,b⟩=>?_
 refine qc (Jv (v:=.ref e) B E rfl D X5 L d_ c (λv R=>v=.ref e/\R=c) N ⟨rfl,rfl⟩) λw S ⟨v,m,z,T,U,V⟩=>?_;subst U V;cases T;have M:=F X5 d_ m S z;cases d with
 | int j=>
  unfold X6 at r;subst r;obtain⟨t,rfl⟩:=P;have b:q9 Ex X.K m X4 g (.ok (.bl (if a=YP then !(uf tab j).isSome else (uf tab j).isSome)) k) Q:=b;rw[<- (n j).1] at b;cases a with
  |false=>exact wpAny_in_of (Kt j t) A M ⟨.bl _,m,z.tok _,rfl,post.here b l uA⟩
  |true=>exact wpAny_notIn_of (Kt j t) A M ⟨.bl _,m,z.tok _,rfl,post.here b l uA⟩
 |_=>exact ak b
def zdH(h:Ay X.K X.mg x tab)(a:Gl X x)(b:PD X Ex i ti)(c:(x==("__debug__":Str))=Y1:=by decide)(d:behindInMarks .NotIn (.Name x p)=Y1:=by rfl):PD X Ex (.Compare i [.NotIn] [.Name x p] pos) (yV YP tab ti):=⟨VD (QH YP h a b c) d⟩
def U5(a:oz X.K H X4 μ σ d_)(b:ou X.K H X4 μ O)(q:wX Ex X.K H X4 μ (pQ td σ O) Q):tB (rd Ex X.K td) d_ H Q:=
 PV (X:=X) (t:=rd Ex X.K td) (td:=td) (λX4 μ σ O d_ H Q a b q=>⟨X4,μ,σ,O,a,b,q⟩) X4 μ σ O d_ H Q a b q
def zbd(h:Ay X.K X.mg x tab)(a:Gl X x)(b:PD X Ex i ti)(c:(x==("__debug__":Str))=Y1:=by decide)(d:behindInMarks .NotIn (.Name x p)=Y1:=by rfl):qZ X Ex (.Compare i [.NotIn] [.Name x p] pos) (pQ (yV YP tab ti)):=
 Gj (V5 (QH YP h a b c) d) λX4 μ j O d_ H Q f g q=>U5 f g q
end
end DL
namespace DL
open PySem L2 PyProof.Rows
noncomputable def uu:List D->Option (List (List Nat))
 |[]=>XV []
 |.str cs::r=>(uu r).map (cs :: ·)
 |_=>X9
section
variable{H:Hp}{X4 μ:List ab}
theorem GI{K:ah}:∀{ds:List D}{vs:List V}{ss:List (List Nat)},oy K H X4 μ ds vs->uu ds=XV ss->vs=ss.map λcs=>V.str ⟨cs.toArray⟩
 |[],vs,ys,h,e=>by unfold oy at h;subst h;cases e;rfl
 | d::ds,vs,ys,h,e=>by
  unfold oy at h;obtain⟨v,r,rfl,a,b⟩:=h;cases d with
  | str cs=>
   unfold uu at e;cases q:uu ds with
   |none=>rw[q] at e;cases e
   | some zs=>
    rw[q] at e;cases e;unfold X6 at a;subst a;rw[GI b q];rfl
  |_=>cases e
def Vt:bC "len" = XV (.builtin "len"):=by boot_by_name
def VY:bC "all" = XV (.builtin "all"):=by boot_by_name
def Wd:bC "any" = XV (.builtin "any"):=by boot_by_name
def N4:bC "int" = XV (.type "int"):=by boot_by_name
def Vj:bC "str" = XV (.type "str"):=by boot_by_name
def QJ:bC "tuple" = XV (.type "tuple"):=by boot_by_name
def V9:bC "max" = XV (.builtin "max"):=by boot_by_name
def Gn:bC "min" = XV (.builtin "min"):=by boot_by_name
def Cj:bC "sorted" = XV (.builtin "sorted"):=by boot_by_name
def Kz:bC "isinstance" = XV (.builtin "isinstance"):=by boot_by_name
def Y4:bC "bool" = XV (.type "bool"):=by boot_by_name
def XF:bC "dict" = XV (.type "dict"):=by boot_by_name
end
end DL
namespace DL
def X2{α:Type}(a ds:List α)(d:α):(a++d::ds)[a.length]?=XV d:=by simp
theorem QV:∀(ds b a:List D)(f:Nat),ds.length<=f->(∀d∈ds,∀a:List D,a.length<4000000->step d O a=.ok (a++g d) O)->a.length+(ds.flatMap g).length+ds.length<4000000->
  qD (.val (b++ds)) step f b.length O a=.ok (a++ds.flatMap g) O
 | [],b,a,f,_,_,_=>by
  cases f<;>(unfold qD;simp[Src.get])
 |d::ds,b,a,0,h,_,_=>by simp at h
 | d::ds,b,a,f+1,h,hs,hl=>by
  unfold qD;have e:Src.get (.val (b++d::ds)) O b.length=XV d:=X2 b ds d;rw[e];simp only[f8,az,aO] at hl;show((step d O a).bnd λc i=>qD (.val (b++d::ds)) step f (b.length+1) i c)=_;rw[hs d al a 'd'];show qD (.val (b++d::ds)) step f (b.length+1) O (a++g d)=_;have:=QV ds (b++[d]) (a++g d) f (by simpa using h) (λj k=>hs j (ai _ k)) (by rw[az];lia);rw[bg,List.singleton_append,az,ef] at this;rw[this];simp
def DR(q:it0 σ O=.ok (.val ds) O)(v:ds.length<1900000)
  (r:∀d∈ds,ux ts ((qo (qo (σ++aP ext X9) [i]) [i]).set i (XV d)) O=.ok (p d) O) (s:∀d∈ds,p d=YP->te ((qo (qo (σ++aP ext X9) [i]) [i]).set i (XV d)) O=.ok (e d) O) (o:Bool):
  pV o ext it0 (.one i) ts [] te σ O=wW o (.ok ((ds.filter p).map e) O):=by
 unfold pV AQ;rw[q];show wW o (xM (qD (.val ds) _ ds.length 0 O []))=_;have c:∀d∈ds,∀a:List D,a.length<4000000->zS ⟨it0,.one i,ts⟩ [] te (qo (σ++aP ext X9) (qm [⟨it0,.one i,ts⟩])) d O a=.ok (a++(if p d=YP then [e d] else [])) O:=by
  intro d k a t;show(match Tg.put (.one i) d (qo (qo (σ++aP ext X9) [i]) [i]) with|some qW=>(ux ts qW O).bnd λb m=>if b=YP then we [] te qW m a else .ok a m|none=>.bad)=_;show(ux ts ((qo (qo (σ++aP ext X9) [i]) [i]).set i (XV d)) O).bnd _=_;rw[r d k];show(if p d=YP then we [] te _ O a else .ok a O)=_;by_cases f:p d=YP
  ·rw[Y2 f,Y2 f];unfold we;rw[s d k f];show(if a.length<4000000 then _ else _)=_;rw[Y2 t]
  ·rw[Z5 f,Z5 f];simp
 have n:∀l:List D,(l.flatMap λd=>if p d=YP then [e d] else [])=(l.filter p).map e:=by
  intro l
  induction l with
  |nil=>rfl
  | cons x l ih=>
   rw[f8,ih,cY];by_cases j:p x=YP
   ·rw[Y2 j,Y2 j];rfl
   ·rw[Z5 j,Z5 j];rfl
 have h:((ds.filter p).map e).length<=ds.length:=by rw[au];exact aZ _ _
 have w:=QV (O:=O) (g:=λd=>if p d=YP then [e d] else []) ds [] [] ds.length (aD _) c (by rw[n];simp at h ⊢;lia);rw[gK,n,gK] at w;have u:qD (.val ds) (zS ⟨it0,.one i,ts⟩ [] te (qo (σ++aP ext X9) (qm [⟨it0,.one i,ts⟩]))) ds.length 0 O []=.ok ((ds.filter p).map e) O:=w;rw[u];rfl
theorem GW(I:Nat->Sg->Ow->Prop)(h:∀i σ O d,I i σ O->ds[i]?=XV d->∃σ' a,step d σ O=.nx σ' a/\I (i+1) σ' a):
  ∀(f i:Nat)(σ:Sg)(O:Ow),I i σ O->ds.length<=i+f->i<=ds.length->∃σ' a,vq (.val ds) step f i σ O=.nx σ' a/\I ds.length σ' a
 | 0,i,σ,O,hI,h1,h2=>by
  have:i=ds.length:=by lia
  subst this;refine⟨σ,O,?_,hI⟩;unfold vq;have e:Src.get (.val ds) O ds.length=X9:=by simp[Src.get]
  rw[e]
 | f+1,i,σ,O,hI,h1,h2=>by
  unfold vq;have b:Src.get (.val ds) O i=ds[i]?:=rfl;rw[b];cases e:ds[i]? with
  | none=>
   have:i=ds.length:=by have:=aT.mp e;lia
   subst this;exact⟨σ,O,rfl,hI⟩
  | some d=>
   obtain⟨σ',a,c,g⟩:=h i σ O d hI e;dsimp only;rw[c];exact GW I h f (i+1) σ' a g 'd' (by have:=(aq.mp e).1;lia)
theorem QS(I:Nat->Ow->List D->Prop)(h:∀i O a d,I i O a->ds[i]?=XV d->∃b c,step d O a=.ok b c/\I (i+1) c b):
  ∀(f i:Nat)(O:Ow)(a:List D),I i O a->ds.length<=i+f->i<=ds.length->∃b c,qD (.val ds) step f i O a=.ok b c/\I ds.length c b
 | 0,i,O,a,hI,h1,h2=>by
  have:i=ds.length:=by lia
  subst this;refine⟨a,O,?_,hI⟩;unfold qD;have e:Src.get (.val ds) O ds.length=X9:=by simp[Src.get]
  rw[e]
 | f+1,i,O,a,hI,h1,h2=>by
  unfold qD;have g:Src.get (.val ds) O i=ds[i]?:=rfl;rw[g];cases e:ds[i]? with
  | none=>
   have:i=ds.length:=by have:=aT.mp e;lia
   subst this;exact⟨a,O,rfl,hI⟩
  | some d=>
   obtain⟨b,c,j,k⟩:=h i O a d hI e;dsimp only;rw[j];exact QS I h f (i+1) c b k 'd' (by have:=(aq.mp e).1;lia)
def AF(n:Nat):D->Bool
 |.own k=>decide (k<n)
 |.lst _=>Y1
 |.tup _=>Y1
 |.map _ _=>Y1
 |_=>YP
def Av(O:Ow):Prop:=∀c∈O,∀d∈c,AF O.length d=YP
def DH(h:AF n d=YP):frz O n f d=XV d:=by
 cases d with
 | own k=>
  have h:k<n:=by simpa [AF] using h
  cases f<;>(unfold frz;dsimp only;rw[Y2 h])
 |lst ds=>cases h
 |tup ds=>cases h
 |map _ _=>cases h
 |_=>cases f<;>rfl
theorem wm{α:Type}{f:α->Option α}:∀{l:List α},(∀x∈l,f x=XV x)->qh f l=XV l
 |[],_=>rfl
 | x::l,h=>by
  unfold qh;rw[h x al,wm λy a=>h y (ai _ a)]
def zcj{a:Ow}{d:D}{cs:List D}(b:∀c∈a,∀d∈c,AF a.length d=YP)(X:Ow)(h:frz (a++X) a.length 8 d=XV (.lst cs)):uK a.length (.ok d (a++X))=.ok (.lst cs) a:=by
 unfold uK;dsimp only;rw[h];have:(a++X).take a.length=a:=by simp
 rw[this,wm λc e=>wm λd f=>DH (b c e d f)]
section
variable{σ σ':Sg}{O O1 O2:Ow}{t u ta tb:DE}{tA:DA}{x y:D}{b:Bool}{ds:List D}
def p8(h:t σ O=.ok x O1):b_ t c_ σ O=.ok [x] O1:=by show((t σ O).bnd _)=_;rw[h];rfl
def qL(a:t σ O=.ok x O1)(c:u σ O1=.ok y O2):b_ t (b_ u c_) σ O=.ok [x,y] O2:=by show((t σ O).bnd _)=_;rw[a];show((b_ u c_ σ O1).bnd _)=_;rw[p8 c];rfl
def Cd(a:t σ O=.ok x O1)(c:tA σ O1=.ok ds O2):b_ t tA σ O=.ok (x::ds) O2:=by show((t σ O).bnd _)=_;rw[a];show((tA σ O1).bnd _)=_;rw[c];rfl
def sI(h:tA σ O=.ok ds O1)(a:ds.length=n):j_ n F tA σ O=F ds O1:=by show((tA σ O).bnd _)=_;rw[h];show(if ds.length=n then _ else _)=_;rw[Y2 a]
def uM(h:tA σ O=.ok ds O1):l_ f tA σ O=f O1 ds:=by show((tA σ O).bnd _)=_;rw[h];rfl
def qC(a:ta σ O=.ok x O1)(c:tb σ O1=.ok y O2):e_ f ta tb σ O=f O2 x y:=by show((ta σ O).bnd _)=_;rw[a];show((tb σ O1).bnd _)=_;rw[c];rfl
def sj(h:t σ O=.ok (.bl b) O1):pQ t σ O=.ok b O1:=by show((t σ O).bnd _)=_;rw[h];rfl
def yo(h:t σ O=.ok (.bl b) O1):qP t σ O=.ok b O1:=by show((t σ O).bnd _)=_;rw[h];rfl
def xI(h:c σ O=.ok b O1):tG c σ O=.ok (!b) O1:=by show((c σ O).bnd _)=_;rw[h];rfl
def uD(h:t σ O=.ok (.lst ds) O1):pR t σ O=.ok (.val ds) O1:=by show((t σ O).bnd _)=_;rw[h];rfl
def AR(h:t σ O=.ok (.tup ds) O1):pR t σ O=.ok (.val ds) O1:=by show((t σ O).bnd _)=_;rw[h];rfl
def wk(h:t σ O=.ok x O1):pZ i t σ O=.nx (σ.set i (XV x)) O1:=by show((t σ O).bnS _)=_;rw[h];rfl
def sv(h:t σ O=.ok x O1):pU t σ O=.rt x O1:=by show((t σ O).bnS _)=_;rw[h];rfl
def J3(h:t σ O=.ok x O1):uL t σ O=.nx σ O1:=by show((t σ O).bnS _)=_;rw[h];rfl
def vO(h:c σ O=.ok b O1):qM c a d σ O=if b=YP then a σ O1 else d σ O1:=by show((c σ O).bnS _)=_;rw[h];rfl
def r_(h:a σ O=.nx σ' O1):m_ a d σ O=d σ' O1:=by show(match a σ O with|.nx σ' O'=>_|r=>r)=_;rw[h]
def Dk(h:a σ O=.rt x O1):m_ a d σ O=.rt x O1:=by show(match a σ O with|.nx σ' O'=>_|r=>r)=_;rw[h]
def Jz(h:it σ O=.ok src O1):vM it g body σ O=vq src (λd σ O=>match g.put d σ with|some σ'=>body σ' O|none=>.bad) (src.size O1) 0 σ O1:=by show((it σ O).bnS _)=_;rw[h];rfl
def yX(h:tA σ O=.ok [.int (n:Nat)] O1)(d:n<100000):rU tA σ O=.ok (.val ((aL n).map λ(i:Nat)=>D.int (i:Int))) O1:=by
 have a:-1000000<=((n:Nat):Int)/\((n:Nat):Int)<=1000000:=by constructor<;>lia
 unfold rU;rw[h];dsimp only[R.bnd];rw[Y2 a];unfold N2;have c:(((n:Nat):Int)-0).toNat=n:=by lia
 rw[c];congr 2;refine gF λi _=>?_;rw[Int.zero_add]
def GR(h:cs.length<=4000000):qt O [.str cs]=.ok (.int cs.length) O:=by show(if cs.length<=4000000 then R.ok (D.int cs.length) O else R.bad)=_;rw[Y2 h]
def Dt{cs:List Nat}{i:Nat}(h:cs.length<=4000000)(a:i<cs.length):p9 O (.str cs) (.int (i:Int))=.ok (.str [cs[i]]) O:=by show(if cs.length<=4000000 then (match L2.atI cs (i:Int) with|some ch=>R.ok (D.str [ch]) O|none=>R.bad) else R.bad)=_;rw[Y2 h,L2.atI_nat (ay a)]
def JC(a:i<ds.length):p9 O (.tup ds) (.int (i:Int))=.ok ds[i] O:=by show(match L2.atI ds (i:Int) with|some d=>R.ok d O|none=>R.bad)=_;rw[L2.atI_nat (ay a)]
def Dl(a:i<ds.length):p9 O (.lst ds) (.int (i:Int))=.ok ds[i] O:=by show(match L2.atI ds (i:Int) with|some d=>R.ok d O|none=>R.bad)=_;rw[L2.atI_nat (ay a)]
end
theorem J4(O:Ow)(n:Nat):∀l:List Int,qh (qz O n) (l.map D.int)=XV (l.map gR)
 |[]=>rfl
 | x::l=>by
  have e:qz O n (.int x)=XV (.int x):=by cases n<;>rfl
  show qh (qz O n) (D.int x::l.map D.int)=_;unfold qh;rw[e,J4 O n l];rfl
def VM(O:Ow)(l:List Int):qe rK O (.lst (l.map D.int)) (.lst [])=.ok (.bl l.isEmpty) O:=by
 unfold qe py;have e:qz O 8 (.lst (l.map D.int))=XV (.list (l.map gR)):=by
  show(qh (qz O 7) (l.map D.int)).map ee=_;rw[J4];rfl
 rw[e];cases l<;>rfl
theorem PQ{α:Type}{src:Src}{step:D->Ow->List D->R (List D)}{O:Ow}{inj:α->D}{g:α->List D}{all:List α}(j:∀i,src.get O i=(all.map inj)[i]?):∀(ds c:List α)(b:List D)(f:Nat),all=c++ds->ds.length<=f->
  (∀a∈ds,∀b:List D,b.length<4000000->step (inj a) O b=.ok (b++g a) O)->b.length+(ds.flatMap g).length+ds.length<4000000->qD src step f c.length O b=.ok (b++ds.flatMap g) O
 | [],c,b,f,ha,_,_,_=>by
  have e:src.get O c.length=X9:=by rw[j,ha];simp
  cases f<;>(unfold qD;rw[e];simp)
 |d::ds,c,b,0,_,h,_,_=>by simp at h
 | d::ds,c,b,f+1,ha,h,hs,hl=>by
  unfold qD;have e:src.get O c.length=XV (inj d):=by rw[j,ha];simp
  rw[e];simp only[f8,az,aO] at hl;show((step (inj d) O b).bnd λk l=>qD src step f (c.length+1) l k)=_;rw[hs d al b 'd'];show qD src step f (c.length+1) O (b++g d)=_;have:=PQ j ds (c++[d]) (b++g d) f (by rw[ha];simp) (by simpa using h) (λm n=>hs m (ai _ n)) (by rw[az];lia);rw[az,ef] at this;rw[this];simp
theorem Kv{α b:Type}(p:α->Bool)(e:α->b):∀l:List α,(l.flatMap λd=>if p d=YP then [e d] else [])=(l.filter p).map e
 |[]=>rfl
 | x::l=>by
  rw[f8,Kv p e l,cY];by_cases a:p x=YP
  ·rw[Y2 a,Y2 a];rfl
  ·rw[Z5 a,Z5 a];rfl
def Cg{α:Type}{ext:Nat}{it0:DI}{g:Tg}{ts:List DT}{te:DE}{σ:Sg}{O O0:Ow}{src:Src}{l:List α}{inj:α->D}{p:α->Bool}{e:α->D}{τ:α->Sg}{o:Bool}(n:it0 σ O0=.ok src O)(q:∀i,src.get O i=(l.map inj)[i]?)(hsz:src.size O=l.length)(x:l.length<1900000)
  (r:∀a∈l,g.put (inj a) (qo (qo (σ++aP ext X9) (g.slots++[])) (g.slots++[]))=XV (τ a)) (s:∀a∈l,ux ts (τ a) O=.ok (p a) O) (t:∀a∈l,p a=YP->te (τ a) O=.ok (e a) O):
  pV o ext it0 g ts [] te σ O0=wW o (.ok ((l.filter p).map e) O):=by
 unfold pV AQ;rw[n];show wW o (xM (qD src _ (src.size O) 0 O []))=_;have f:∀a∈l,∀c:List D,c.length<4000000->zS ⟨it0,g,ts⟩ [] te (qo (σ++aP ext X9) (qm [⟨it0,g,ts⟩])) (inj a) O c=.ok (c++(if p a=YP then [e a] else [])) O:=by
  intro a k c u;show(match g.put (inj a) (qo (qo (σ++aP ext X9) (g.slots++[])) (g.slots++[])) with|some qW=>(ux ts qW O).bnd λb m=>if b=YP then we [] te qW m c else .ok c m|none=>.bad)=_;rw[r a k];show(ux ts (τ a) O).bnd _=_;rw[s a k];show(if p a=YP then we [] te _ O c else .ok c O)=_;by_cases h:p a=YP
  ·rw[Y2 h,Y2 h];unfold we;rw[t a k h];show(if c.length<4000000 then _ else _)=_;rw[Y2 u]
  ·rw[Z5 h,Z5 h];simp
 have j:((l.filter p).map e).length<=l.length:=by rw[au];exact aZ _ _
 have w:=PQ (O:=O) (inj:=inj) (g:=λd=>if p d=YP then [e d] else []) q l [] [] l.length rfl (aD _) f (by rw[Kv];simp at j ⊢;lia);rw[Kv,gK] at w;have v:qD src (zS ⟨it0,g,ts⟩ [] te (qo (σ++aP ext X9) (qm [⟨it0,g,ts⟩]))) (src.size O) 0 O []=.ok ((l.filter p).map e) O:=by rw[hsz];exact w
 rw[v];rfl
section
variable{α:Type}{ext:Nat}{it0:DI}{i:Nat}{t:DT}{te:DE}{σ:Sg}{O O0:Ow}{l:List α}{inj:α->D}{p:α->Bool}{e:α->D}{τ:α->Sg}{o:Bool}
def GU{σ:Sg}{O:Ow}{b:Bool}(h:t σ O=.ok b O):ux [t] σ O=.ok b O:=by show((t σ O).bnd _)=_;rw[h];cases b<;>rfl
def w4(b:it0 σ O0=.ok (.val (l.map inj)) O)(c:l.length<1900000)(d:∀a,(qo (qo (σ++aP ext X9) [i]) [i]).set i (XV (inj a))=τ a)(f:∀a∈l,t (τ a) O=.ok (p a) O)(h:∀a∈l,p a=YP->te (τ a) O=.ok (e a) O):
  pV o ext it0 (.one i) [t] [] te σ O0=wW o (.ok ((l.filter p).map e) O):=
 Cg (g:=.one i) b (λ_=>rfl) (by show(l.map inj).length=_;simp) c (λa _=>congrArg XV (d a)) (λa j=>GU (f a j)) h
def wc(c:it0 σ O0=.ok (.val (l.map inj)) O)(d:l.length<1900000)(f:∀a,(qo (qo (σ++aP ext X9) [i]) [i]).set i (XV (inj a))=τ a)(h:∀a∈l,te (τ a) O=.ok (e a) O):
  pV o ext it0 (.one i) [] [] te σ O0=wW o (.ok (l.map e) O):=by have:=Cg (o:=o) (g:=.one i) (ts:=[]) (p:=λ_=>YP) (te:=te) c (λ_=>rfl) (by show(l.map inj).length=_;simp) d (λa _=>congrArg XV (f a)) (λa b=>rfl) λa b _=>h a b;rw[this,gG.mpr (λ_ _=>rfl)]
end
def Jk{α:Type}{it:DI}{i:Nat}{body:DS}{σ:Sg}{O0 O:Ow}{l:List α}{inj:α->D}(g:it σ O0=.ok (.val (l.map inj)) O)(I:Nat->Sg->Ow->Prop)(h:∀(k:Nat)a σ O,l[k]?=XV a->I k σ O->∃σ' b,body (σ.set i (XV (inj a))) O=.nx σ' b/\I (k+1) σ' b)(m:I 0 σ O):
  ∃σ' b,vM it (.one i) body σ O0=.nx σ' b/\I l.length σ' b:=by
 obtain⟨σ',b,n,f⟩:=GW (ds:=l.map inj) (step:=λd σ O=>match Tg.put (.one i) d σ with|some σ'=>body σ' O|none=>.bad) I (λj σ O d o c=>by
  rw[bG] at c;cases e:l[j]? with
  |none=>rw[e] at c;cases c
  | some a=>
   rw[e] at c;cases c;exact h j a σ O e o) (l.map inj).length 0 σ O m 'k' (bX _)
 rw[au] at f;exact⟨σ',b,(Jz g).trans n,f⟩
theorem JV:∀l:List Bool,wM (l.map D.bl)=XV l
 |[]=>rfl
 | x::l=>by
  show(wM (l.map D.bl)).map (x :: ·)=_;rw[JV l];rfl
def GQ{α:Type}(O:Ow)(l:List α)(p:α->Bool):wV O [.lst (l.map λa=>D.bl (p a))]=.ok (.bl (l.any p)) O:=by
 show(match wM (l.map λa=>D.bl (p a)) with|some bs=>R.ok (D.bl (bs.any id)) O|none=>R.bad)=_;have:(l.map λa=>D.bl (p a))=(l.map p).map D.bl:=by rw[bi];rfl
 rw[this,JV];show R.ok (D.bl _) O=_;rw[List.any_map];rfl
def QR{α:Type}(O:Ow)(l:List α)(p:α->Bool):yI O [.lst (l.map λa=>D.bl (p a))]=.ok (.bl (l.all p)) O:=by
 show(match wM (l.map λa=>D.bl (p a)) with|some bs=>R.ok (D.bl (bs.all id)) O|none=>R.bad)=_;have:(l.map λa=>D.bl (p a))=(l.map p).map D.bl:=by rw[bi];rfl
 rw[this,JV];show R.ok (D.bl _) O=_;rw[mh];rfl
end DL
namespace DL
open PySem L2
structure XAt(h0:aX)(H:Hp)(h:aX)(a:ab)(C:ae):Prop where
 ex:∃oe vs,h.get? a=XV oe/\(oe.cls=C/\oe.dict=X9)/\oe.data=.fields vs/\1<vs.size/\(vs[1]?=XV .none \/ ∃T oT ts,vs[1]?=XV (.ref T)/\T≠a/\h0.get? T=X9/\H T=X9/\h.get? T=XV oT/\oT.data=.fields ts/\ts[3]?=XV .none)
 new:h0.get? a=X9
 free:H a=X9
structure Kp(h0:aX)(H:Hp)(fs:List ab)(h h':aX):Prop where
 keep:∀b o,h.get? b=XV o->b∉fs->(H b≠X9\/h0.get? b≠X9)->h'.get? b=XV o
 slot:∀b o,h.get? b=XV o->b∈fs->∃sl,h'.get? b=XV { o with slots:=sl }
 there:∀b o,h.get? b=XV o->∃o',h'.get? b=XV o'
 size:h.objs.size<=h'.objs.size
open PyProof.Rows (AllBare)
def Mz(P:aM)(w:aV)(Cl:Nat->ae):wO:=λouter H s E e s'=>∃a c H',e=.ref a/\s'.os=s.os/\0<s'.toks/\hW s'.gens/\Un (uH outer) [] H H' s.heap s'.heap/\HOk P w H' s'.heap/\XAt s.heap H' s'.heap a (Cl c)/\E (Cl c) X9 H'
abbrev Xk(Cl:Nat->ae)(E:XK):Nat->Hp->Prop:=λc H=>E (Cl c) X9 H
def Kp.hok(k:Kp h0 H fs h h')(x:L2.HOk P w H h)(c:∀b∈fs,H b=X9):L2.HOk P w H h':=λa o e=>
 (x a o e).stay (λb u hb q=>k.keep b u q (λz=>by
  rcases hb with rfl|hb
  ·rw[c _ z] at e;cases e
  ·rw[c _ z] at hb;cases hb) (.inl (by
  rcases hb with rfl|hb
  ·rw[e];exact λz=>nomatch z
  ·rw[hb];exact λz=>nomatch z))) (λ_ q=>q) λ_ _ q=>q
section
end
structure oZ(Cl:Nat->ae)(P:aM)(w:aV)(K:ah)(mg:Str->Option ae)(base:aX)(x:Str)(k n:Nat)(F:List D->Ow->R D):Prop where
 ex:∃f fd ps,mg x=XV (.ref f)/\cT K (.ref f)=YP/\Binds K fd ps []/\oP P w K mg base (Mz P w Cl) k f fd ps (Ih K (Xk Cl) n F)
section
variable{Cl:Nat->ae}{P:aM}{w:aV}{K:ah}{mg:Str->Option ae}{base:aX}{k n:Nat}{x:Str}{F G:List D->Ow->R D}
def oZ.imp(c:oZ Cl P w K mg base x k n F)(h:∀ds O H X4 μ a Q,ou K H X4 μ O->q9 a K H X4 μ (G ds O) Q->q9 a K H X4 μ (F ds O) Q):oZ Cl P w K mg base x k n G:=by obtain⟨f,e,g,i,j,l,m⟩:=c.ex;refine⟨f,e,g,i,j,l,m.imp λp H Q E ⟨o,X4,μ,ds,O,d,b,q⟩=>⟨o,X4,μ,ds,O,d,b,h ds O H X4 μ _ Q b q⟩⟩
end
open PyProof.Rows (AllBare IntsAre)
section
variable{X:Cx}{X5:List (ab×Obj)}{σ:St}{H:Hp}{s:af}
def Inv.fake(I:L2.Inv X X5 σ H s)(e:X.N[i]?=XV x)(f:¬ u6 X.env.scope x):L2.Inv X X5 (σ.set i (XV v)) H s:=by
 obtain⟨m,g,h⟩:=I.loc;refine⟨I.ok,I.os,I.bare,I.base,⟨m,g,λj y w a b c=>?_⟩,I.cell,I.free,I.freeC,I.pin,I.hok,by rw[cb];exact I.len,I.tk⟩;by_cases d:j=i
 ·subst d;rw[e] at a;cases a;exact absurd c f
 ·rw[br (cS d)] at b;exact h j y w a b c
def sY.fake(a:X.N[i]?=XV x)(b:¬ u6 X.env.scope x)(h:sY X body t):sY X body λD σ H=>t D (σ.set i (XV v)) H:=
 λX5 s σ H D I q=>h X5 s _ H D (Inv.fake I a b) q
end
def oK.empty(h:H P=XV (.tbl #[])):oK H P:=⟨#[],h,trivial,λa b e=>by cases e⟩
noncomputable def yK(K:ah)(Ec:XK->Nat->Hp->Prop)(n:Nat)(P:ab)(F:List D->Ow->R D):Sp:=λvs H Q E=>vs.length=n/\∃X4 μ ds O,oy K H X4 μ ds vs/\ou K H X4 μ O/\oK H P/\q9 (Ec E) K H X4 μ (F ds O) Q
def xx(n i:Nat)(P:Nat)(t:DS):List D->Ow->R D:=λds O=>fin (t ((ds.map XV++aP (n-ds.length) X9).set i (XV (.tab P))) O)
structure vN(mg:Str->Option ae)(base:aX)(c Pt:ab):Prop where
 hd:nO base c Pt
 bl:base.BuiltinsAt mg Pt
def zcp
  (Q:K.In n_.heap) (Al:n_.heap.Ns bO mg) (g:n_.heap.Ns builtinsNs mb) (R:∀x:Str,x ≠ "__name__"->mb x=bC x) (Bg:n_.heap.NoLimit) (hg:n_.gens = #[]) (qE:0<n_.toks)
  (A:n_.heap.get? a=XV { cls:=.type "list",data:=.seq vs.toArray }) (hi:kQ vs ns) (hl:ns.length<=KB) (hr:oH k callerA)
  (hC:nO n_.heap c Pt) (j:n_.heap.get? Pt=XV (kW #[])) (hK:jc K=YP) (hB:n_.heap.BuiltinsAt mg Pt)
  (F:∀base:aX,K.In base->base.Ns bO mg->vN mg base c Pt->oP P w K mg base CX k fa fd [x] sp) (uX:∀(s:af)(u:ae),kO s fd ⟨[u],[]⟩ [(x,u)])
  (Aj:∀H:Hp,H Pt=XV (.tbl #[])->qJ K H a (ns.map V.int)->sp [.ref a] H (λv _=>v=.bl YP) λ_ _ _=>False)
  (S:∀H e i,CX [] H n_ (λ_ _ _=>False) e i->False):
  codeAny (aw P w) callerA (.call (.ref fa) ⟨[.ref a],[]⟩) (λr i=>r=.ok (.ret (.bool YP))/\OldK n_.heap i.heap/\i.os=n_.os/\hW i.gens) n_:=by
 have rv:=Q0 hi;have K7:=hi.length;have T:a≠Pt:=by rintro rfl;rw[A] at j;cases j
 have U:K.lookup Pt=X9:=by
  cases q:K.lookup Pt with
  |none=>rfl
  | some o=>
   have e:=Q Pt o q;rw[j] at e;cases e;have X:=ar.mp hK (Pt,_) (PySem.W.mem_of_lookupK q);exact absurd (show Y1=YP from X) ci
 -- H: the table, and the KS where it is X9 of the Ew objects
 have p:∀H:Hp,H Pt=XV (.tbl #[])->qJ K H a (ns.map V.int)->HOk P w H n_.heap->(∀b,H b≠X9->b=a\/b=Pt)->(H a=X9\/(K.lookup a=X9/\∃o xs,H a=XV (.frz o (.lst xs))))->
   codeAny (aw P w) callerA (.call (.ref fa) ⟨[.ref a],[]⟩) (λr i=>r=.ok (.ret (.bool YP))/\OldK n_.heap i.heap/\i.os=n_.os/\hW i.gens) n_:=by
  intro H hT hS E M Tc;have f:∀{b:ab}{o:Obj},n_.heap.get? b=XV o->H b=X9->(yg n_.heap H).get? b=XV o:=λe n=>zeS e n;have zh:∀{b:ab}{o:Obj}{B:Array DictEntry}{C:Nat},n_.heap.get? b=XV o->o.data=.dict B C->H b=X9:=λ{b o B C}e d=>by
   cases q:H b with
   |none=>rfl
   | some u=>
    rcases M b (by rw[q];simp) with e'|e'
    ·subst e';rw[A] at e;cases e;have Y:Data.seq vs.toArray _=Data.dict B C:=d;cases Y
    ·subst e';rw[j] at e;cases e;have Y:Data.fields #[]=Data.dict B C:=d;cases Y
  have N:∀{b:ab}{m:Str->Option ae},n_.heap.Ns b m->(yg n_.heap H).Ns b m:=λ{b m}⟨o,B,C,e,d,r⟩=>⟨o,B,C,f e (zh e d),d,r⟩;have Ta:K.In (yg n_.heap H):=λb o e=>f (Q b o e) (by
   cases q:H b with
   |none=>rfl
   | some u=>
    rcases M b (by rw[q];simp) with e'|e'
    ·subst e';rcases Tc with z|⟨z,_⟩
     ·rw[z] at q;cases q
     ·rw[z] at e;cases e
    ·subst e';rw[U] at e;cases e)
  have hM:Mod K mg (yg n_.heap H):=⟨Ta,N Al,⟨mb,N g,R⟩,let ⟨mc,h1,X⟩:=Bg;⟨mc,N h1,X⟩⟩;have e0:o9 P w K mg (yg n_.heap H) callerA [] n_ H:=⟨rfl,hM,λb o e=>YZ e,gW (zdP _ _),trivial,λb g=>absurd (show b∈([]:List ab) from g) 'k',E,.of_eq hg,qE⟩;have Sv:∀{b:ab}{o:Obj},n_.heap.get? b=XV o->o.cls ≠ .none->(o.cls ≠ .type "list")->H b=X9:=λ{b o}e d1 d2=>by
   cases q:H b with
   |none=>rfl
   | some u=>
    rcases M b (by rw[q];simp) with e'|e'
    ·subst e';rw[A] at e;cases e;exact absurd rfl d2
    ·subst e';rw[j] at e;cases e;exact absurd rfl d1
  have hL:vN mg (yg n_.heap H) c Pt:=by
   obtain⟨o,vs,G,tf,y,tg,zj,I,tt,J,Z,r⟩:=hC;obtain⟨bm,ob,b1,b2,b3,b4,b5,b6,b7,b8⟩:=hB;exact⟨⟨o,vs,G,tf,y,tg,zj,I,tt,f J (Sv J (by rw[Z];exact λz=>nomatch z) (by rw[Z];decide)),Z,r⟩,⟨bm,ob,b1,b2,b3,b4,f b5 (Sv b5 (by rw[b6];exact λz=>nomatch z) (by rw[b6];decide)),b6,b7,b8⟩⟩
  refine gf ((F _ Ta (N Al) hL).run callerA [] n_ H ⟨[.ref a],[]⟩ [.ref a] [.ref a] _ _ hr e0 (uX n_ (.ref a)) (.cons rfl .nil) (Aj H hT hS)) λr i h=>?_;cases r with
  |error e=>exact(S H e i h).elim
  | ok fl=>
   cases fl with
   |next=>exact ak h
   |brk=>exact ak h
   |cont=>exact ak h
   | ret u=>
    obtain⟨⟨v,H',os,L,O,ES,r',q⟩,_⟩:=h;have q':v=.bl YP:=q;subst q';obtain rfl:u=ny YP:=r';obtain⟨t,hT'⟩:=O.tbls Pt #[] hT;have yD:i.heap.get? Pt=XV { cls:=.none,data:=.fields (#[]++t) }:=ES Pt _ hT';refine⟨rfl,⟨λb o e=>?_,λb o e=>?_⟩,os,L⟩
    ·by_cases xk:b=Pt
     ·subst xk;rw[j] at e;cases e;exact .inr (.inl ⟨(hC.tab j).isCodeTable,rfl,#[],t,rfl,yD⟩)
     ·cases q:H b with
      |none=>exact .inl (O.keep b o e q (by intro z;exact absurd (show b∈([]:List ab) from z) 'k') 'k')
      | some u=>
       rcases M b (by rw[q];simp) with e'|e'
       ·subst e';rcases Tc with z|⟨_,ob,xs,z⟩
        ·rw[q] at z;cases z
        ·have z2:=O.frzs b ob _ z;obtain⟨J,_⟩:=E b _ z;obtain⟨e2,_⟩:=ES b _ z2;rw[e] at J;cases J;exact .inl e2
       ·exact absurd e' xk
    ·exact O.there b o e 'k'
 cases hk:K.lookup a with
 | some o=>
  have e:=Q a o hk;rw[A] at e;cases e;refine p (λb=>if b=Pt then XV (.tbl #[]) else X9) (Y2 rfl) (.inr ⟨_,vs.toArray,_,hk,rfl,rfl,rfl,by rw[aF,K7];exact hl,by simpa using rv⟩) (λb u z=>?_) (λb z=>?_) (.inl (Z5 T))
  ·by_cases g:b=Pt
   ·have l:=(Y2 g).symm.trans z;cases l;subst g;exact j
   ·have l:=(Z5 g).symm.trans z;cases l
  ·by_cases g:b=Pt
   ·exact .inr g
   ·exact absurd (Z5 g) z
 | none=>
  refine p (λb=>if b=Pt then XV (.tbl #[]) else if b=a then XV (.frz { cls:=.type "list",data:=.seq vs.toArray } (.lst (ns.map V.int))) else X9) (Y2 rfl) (.inl (.inr ⟨{ cls:=.type "list",data:=.seq vs.toArray },(Z5 T).trans (Y2 rfl)⟩)) (λb u z=>?_) (λb z=>?_) (.inr ⟨hk,_,_,(Z5 T).trans (Y2 rfl)⟩)
  ·by_cases g:b=Pt
   ·have l:=(Y2 g).symm.trans z;cases l;subst g;exact j
   ·by_cases D:b=a
    ·have l:=((Z5 g).trans (Y2 D)).symm.trans z;cases l;subst D;exact⟨A,by rw[au];exact hl,vs,_,rv,A⟩
    ·have l:=((Z5 g).trans (Z5 D)).symm.trans z;cases l
  ·by_cases g:b=Pt
   ·exact .inr g
   ·by_cases D:b=a
    ·exact .inl D
    ·exact absurd ((Z5 g).trans (Z5 D)) z
def z7v{pos d:Pos}{c f:ae}(l:List ae)(h:TriplesOk l)(e:codeAmong d (l++[bS pos.line,bS pos.col,c])=XV f):codeAmong d l=XV f\/f=c:=by
 fun_induction TriplesOk l with
 | case1=>
  simp only[gK,codeAmong,bS] at e;split at e
  ·cases e;exact .inr rfl
  ·cases e
 | case2 a t b u x rest ih=>
  simp only[jU,codeAmong] at e ⊢;split at e
  ·rename_i g;rw[Y2 g];exact .inl e
  ·rename_i g;rw[Z5 g];exact ih h e
 |case3 l h1 h2=>exact h.elim
def zed{q:Str}{H:Hp}{P c:ab}{pos:Pos}{ps:Array ae}(g:H P=XV (.tbl ps))(u:H c=X9)(i:ab)(v:oK H i):
  oK (upd (upd H P (.tbl (ps ++ #[bS pos.line,bS pos.col,.ref c]))) c (.ext λh=>h.CodeRec (.ref c) q)) i:=by
 have j:∀{b:ab}{o:HO},H b=XV o->b≠c:=λe=>sk e u;obtain⟨w,f,k,s⟩:=v;have a:∀{b:ab}{d:aX->Prop},H b=XV (.ext d)->upd (upd H P (.tbl (ps ++ #[bS pos.line,bS pos.col,.ref c]))) c (.ext λh=>h.CodeRec (.ref c) q) b=XV (.ext d):=λ{b d}e=>by
  rw[qf (j e),qf (U4 e g (λz=>nomatch z))];exact e
 by_cases t:i=P
 ·subst t;rw[g] at f;cases f;refine⟨_,by rw[qf (j g),rA],?_,λp l e=>?_⟩
  ·rw[bR];exact TriplesOk_snoc _ _ _ _ k
  ·rw[bR] at e;rcases z7v _ k e with e|e
   ·obtain⟨m,d,rfl,n,r⟩:=s p l e;exact⟨m,d,rfl,a n,r⟩
   ·exact⟨c,_,e,rA,λh z=>⟨q,z⟩⟩
 ·refine⟨w,by rw[qf (j f),qf t];exact f,k,λp l e=>?_⟩;obtain⟨m,d,rfl,n,r⟩:=s p l e;exact⟨m,d,rfl,a n,r⟩
section
variable{X:Cx}{X5:List (ab×Obj)}{d_:St}{H:Hp}{s:af}{E:ae->af->Prop}
abbrev AE(H:Hp)(P c:ab)(ps:Array ae)(pos:Pos)(q:Str):Hp:=upd (upd H P (.tbl (ps ++ #[bS pos.line,bS pos.col,.ref c]))) c (.ext λh=>h.CodeRec (.ref c) q)
def Ck(a:H P=XV (.tbl ps))(d:H c=X9)(e:H b=XV o)(f:BV o):AE H P c ps pos q b=XV o:=by
 have g:b≠P:=by rintro rfl;rw[a] at e;cases e;exact f _ rfl
 show upd (upd H P _) c _ b=XV o;rw[qf (sk e d),qf g];exact e
def Q_(a:H P=XV (.tbl ps))(d:H c=X9)(μ:List ab):Ext H μ (AE H P c ps pos q) μ:=
 ⟨⟨[],by simp⟩,λb o e _ f=>Ck a d e f,λ_ m=>.inl m,λb h=>xg b (xg b h),λg i=>zed a d g i⟩
def z9D(d:H P=XV (.tbl ps))(f:H c=X9)(b:ou K H X4 μ O):ou K (AE H P c ps pos q) X4 μ O:=by refine⟨b.len,b.nd,b.nh,λa m=>xg a (xg a (b.ht a m)),λk a e=>?_⟩;obtain⟨g,h,i,j,l⟩:=b.at_ k a e;exact⟨g,h,i,Ck d f j (by intro ps z;cases z),l.ext (Q_ d f μ)⟩
def RO{h h':aX}{c:ab}{q:Str}(x:h.CodeRec (.ref c) q)(k:∀o,h.get? c=XV o->h'.get? c=XV o):h'.CodeRec (.ref c) q:=by obtain⟨d,o,a,t,e,b,r⟩:=x;cases e;exact⟨c,o,a,t,rfl,k o b,r⟩
def Xf{c P:ab}{a:iJ}{body:aR}{scope:cO}{pos:Pos}{v:List (Str×ab)}{Q:ae->af->Prop}(I:L2.Inv X X5 d_ H s)(L:vN X.mg X.base c P)(V:X.env.code=.ref c)(ti:oK H P)
  (Y:closureFor scope X.env=pure v) (xZ:defaultsOf a X.env=([],[]))
  (h:∀(i:ab)(Z j:ae)(h':aX)(tk:Tok)(H':Hp),L2.Inv X X5 d_ H' { s with heap:=h',toks:=tk }->(∀μ,Ext H μ H' μ)->(∀X4 μ O,ou X.K H X4 μ O->ou X.K H' X4 μ O)->H' i=X9->s.heap.objs.size<=i->
   h'.get? i=XV { cls:=.type "function",data:=.func (dO "<lambda>" (X.env.qual ++ "<lambda>") a body scope v ((X.mg "__name__").getD .none) Z j) }->(∃c C,Z=.ref c/\H' c=XV (.ext C)/\∀h:aX,C h->∃q,h.CodeRec (.ref c) q)->Q (.ref i) { s with heap:=h',toks:=tk }):
  ao (aw X.prog X.w) X.A (eval (.Lambda a body scope pos) X.env) Q E s:=by
 obtain⟨f,g,h2,h3⟩:=id ti;have J:s.heap.get? P=XV (kW f):=I.hok P _ g;have M:s.heap.Ns bO X.mg:=I.mod.glob.keeps I.bk;have N:bO≠P:=λz=>by
  obtain⟨o,es,ep,e,D,_⟩:=M;rw[z,J] at e;cases e;cases D
 have F:s.heap.BuiltinsAt X.mg P:=by
  obtain⟨bm,ob,b1,x,b3,b4,b5,r⟩:=L.bl;exact⟨bm,ob,b1,x,b3,b4,I.bk _ _ b5,r⟩
 have D:=L.hd.keeps I.bk;refine PySem.W.kla_eval xZ ?_;cases R:codeAmong pos f.toList with
 | some cv=>
  obtain⟨d,C,rfl,k1,k2⟩:=h3 pos cv R;obtain⟨q,k3⟩:=k2 _ (I.hok d _ k1).1;refine wT I (PySem.W.kla_makeFunctionHit (mg:=X.mg) Y I.ok.glob M V D J h2 R F λj h' tk hk y qE=>?_);have p:∀b u,s.heap.get? b=XV u->(h'.push { cls:=.type "function",data:=.func (dO "<lambda>" (X.env.qual ++ "<lambda>") a body scope v ((X.mg "__name__").getD .none) (.ref d) j) }).get? b=XV u:=λb u e=>ag _ (hk b u e);exact h h'.objs.size (.ref d) j _ tk H (I.kept (t':=tk) p) (λμ=>.refl) (λ_ _ _ z=>z) (I.hok.fresh y) y (aJ _ rfl) ⟨d,C,rfl,k1,k2⟩
 | none=>
  refine wT I (PySem.W.kla_makeFunction (mg:=X.mg) Y I.ok.glob M V D J h2 R N F λd j h' tk hx G S uU T qE=>?_);have l:H d=X9:=I.hok.fresh G;have B:∀{b:ab},H b=X9->b≠P:=λe=>cS (sk g e);have p:∀b u,b≠P->s.heap.get? b=XV u->(h'.push (ko "<lambda>" (X.env.qual ++ "<lambda>") a body scope v ((X.mg "__name__").getD .none) d j)).get? b=XV u:=λb u n e=>ag _ (hx b u n e);have yD:(h'.push (ko "<lambda>" (X.env.qual ++ "<lambda>") a body scope v ((X.mg "__name__").getD .none) d j)).get? P=XV (kW (f ++ #[bS pos.line,bS pos.col,.ref d])):=ag _ T;have Ak:(h'.push (ko "<lambda>" (X.env.qual ++ "<lambda>") a body scope v ((X.mg "__name__").getD .none) d j)).CodeRec (.ref d) (X.env.qual ++ "<lambda>"):=RO uU λo e=>ag _ e;have Be:∀{b:ab},s.heap.objs.size<=b->b≠d->AE H P d f pos (X.env.qual ++ "<lambda>") b=X9:=λ{b}F n=>by
   have e:=I.hok.fresh F;show upd (upd H P _) d _ b=X9;rw[qf n,qf (B e)];exact e
  refine h h'.objs.size (.ref d) j _ tk (AE H P d f pos (X.env.qual ++ "<lambda>")) ?_ (Q_ g l) (λ_ _ _ z=>z9D g l z) (Be (fJ (gX G S)) (eB S)) (fJ (gX G S)) (aJ _ rfl) ⟨d,_,rfl,rA,λh z=>⟨_,z⟩⟩;have qH:∀b o,s.heap.get? b=XV o->H b=X9->AE H P d f pos (X.env.qual ++ "<lambda>") b=X9:=λb o e n=>by
   show upd (upd H P _) d _ b=X9;rw[qf (bo (a9 (aK e) G)),qf (B n)];exact n
  refine I.step (g':=s.gens) (d':=s.drawn) (ch:=[]) (λ_ z=>nomatch z) (λb o _ _ _ e n=>p b o (B n) e) (λb o _ _ _ e n=>⟨o.slots,p b o (B n) e⟩) (λb o _ e n=>qH b o e n) (λb o _ e=>?_)
   (λb xs e=>Ck g l e (by intro f z;cases z)) (λb o u e=>Ck g l e (by intro f z;cases z)) (λb Sn e=>?_) (λm hm=>?_) ?_ I.bare qE
  ·by_cases k:b=P
   ·subst k;exact⟨_,yD⟩
   ·exact⟨o,p b o k e⟩
  ·by_cases k:b=P
   ·subst k;rw[g] at e;cases e;exact⟨_,by show upd (upd H b _) d _ b=_;rw[qf (sk g l),rA]⟩
   ·exact⟨#[],by show upd (upd H P _) d _ b=_;rw[qf (sk e l),qf k,e];simp⟩
  ·obtain⟨o,es,ep,e,r⟩:=hm;exact⟨o,es,ep,p _ o (B I.free) e,r⟩
  ·intro b u e;by_cases S6:b=d
   ·subst S6;have e':AE H P b f pos (X.env.qual ++ "<lambda>") b=_:=rA;rw[e'] at e;cases e;refine⟨Ak,?_,λha vf za zk=>RO za zk⟩;obtain⟨c2,o,vs,t,z,ho,_⟩:=Ak;cases z;exact⟨o,ho⟩
   ·have U:upd H P (.tbl (f ++ #[bS pos.line,bS pos.col,.ref d])) b=XV u:=(qf S6).symm.trans e;by_cases k:b=P
    ·subst k;rw[rA] at U;cases U;exact yD
    ·have e2:H b=XV u:=(qf k).symm.trans U;refine(I.hok b u e2).stay (λx u2 x_ z=>p x u2 (λzz=>?_) z) (λx z=>Ck g l z (by intro f z;cases z)) λx xs z=>Ck g l z (by intro f z;cases z);rcases x_ with rfl|x_
     ·exact k zz
     ·rw[zz,g] at x_;cases x_
end
abbrev wU(q:Str)(scope:cO)(L f:ab)(cd:ae)(cl:List (Str×ab)):Env:={ scope,locals:=L,globals:=bO,cells:=cl,qual:=q ++ ".<locals>.",func:=XV f,code:=cd,frame:=XV L,builtins:=builtinsNs }
section
end
noncomputable def cxL(CX:wO)(P:aM)(w:aV)(K:ah)(mg:Str->Option ae)(base:aX)(N:List Str)(env:Env)(A:a7)(outer:List Env)(s:af)(H:Hp)(E:XK):Cx where
 prog:=P
 w:=w
 K:=K
 mg:=mg
 base:=base
 A:=A.deeper env
 N:=N
 s₀:=s
 H₀:=H
 env:=env
 outer:=outer
 stack:=env::outer
 ex:=[]
 calm:=YP
 fn:=λ_=>Y1
 pn:=[]
 xe:=λe s'=>ao (aw P w) (A.deeper env) (leaving env e) (λ_ t5=>CX outer H s E e t5) (λe' t5=>CX outer H s E e' t5) s'
section
variable{h0:aX}{H:Hp}
def Kp.refl:Kp h0 H fs h h:=⟨λ_ _ e _ _=>e,λb o e _=>⟨o.slots,e⟩,λ_ o e=>⟨o,e⟩,aD _⟩
def Kp.trans(x:Kp h0 H fs h h1)(y:Kp h0 H fs h1 h2):Kp h0 H fs h h2:=
 ⟨λb o e n k=>y.keep b o (x.keep b o e n k) n k,λb o e n=>by
  obtain⟨g,a⟩:=x.slot b o e n;obtain⟨c,d⟩:=y.slot b _ a n;exact⟨c,d⟩,λb o e=>by
  obtain⟨f,a⟩:=x.there b o e;exact y.there b f a,aE x.size y.size⟩
end
section
variable{X:Cx}{X5:List (ab×Obj)}{σ:St}{H:Hp}{s:af}
abbrev Cx.mk'(X:Cx)(a:ab):Cx:={ X with A:=X.A.mark (XV (.ref a)),calm:=Y1,xe:=λ_ _=>False }
def Inv.mk'(I:L2.Inv X X5 σ H s)(a:ab):L2.Inv (Cx.mk' X a) X5 σ H s:=
 ⟨⟨I.ok.mod,I.ok.kind,I.ok.glob,I.ok.blt,I.ok.above,I.ok.inj,I.ok.has,I.ok.cab,λz=>absurd (show Y1=YP from z) 'u',I.ok.frames,I.ok.stk,I.ok.exf,I.ok.bs,I.ok.bsz,I.ok.noex,I.ok.exfs,I.ok.funs,I.ok.frf⟩,I.os,I.bare,I.base,I.loc,I.cell,I.free,I.freeC,I.pin,I.hok,I.len,I.tk⟩
end
section
end
section
end
section
end
structure zoq(nf n y xT:Str)(p0 p1 p2 p3 p5 p6 p7 pq pc:Pos)(kc):Prop where
 hfd:(nf==("__debug__":Str))=Y1:=by decide
 hfcd:(nf==("__classdict__":Str))=Y1:=by decide
 hnd:(n==("__debug__":Str))=Y1:=by decide
 hncd:(n==("__classdict__":Str))=Y1:=by decide
 hTd:(xT==("__debug__":Str))=Y1:=by decide
 hs0:∀env:Env,swapsWith (.Call (.Name nf p1) [] [] p2) X9 p3.line env=pure Y1:=by intro _;rfl
 hsA:∀env:Env,swapsWith (.Constant .none kc pc) (XV (.Name y pq)) p0.line env=pure Y1:=by intro _;rfl
 hs:∀env:Env,fO [.Name y p5] (.Name n p6) p7.line env=pure Y1:=by intro _;rfl
 hw:∀env:Env,fP [.Name y p5] (.Name n p6) env=pure X9:=by intro _;rfl
section
end
section
end
section
end
section
variable{X:Cx}{X5:List (ab×Obj)}{σ:St}{H:Hp}{s s2:af}
def OP(a:Un fs [] H H h h')(z:h.IsCell c v)(n:H c=X9):h'.IsCell c v:=by obtain⟨o,b,d⟩:=z;obtain⟨f,e⟩:=a.any b n 'k';exact⟨_,e,d⟩
def zb9{b:List (Str×ab)}(I:L2.Inv X X5 σ H s)(d:Un (uH X.stack) [] H H s.heap s2.heap)(a:∀x c,b.lookup x=XV c->X.env.cells.lookup x=XV c):∀x c,b.lookup x=XV c->(∃v,s2.heap.IsCell c v)/\H c=X9:=λx c e=>by
 obtain⟨v,z⟩:=I.cell x c (a x c e);exact⟨⟨v,OP d z (I.freeC x c (a x c e))⟩,I.freeC x c (a x c e)⟩
def zeL{a:List (Str×ab)}(I:L2.Inv X X5 σ H s)(b:∀x c,a.lookup x=XV c->X.env.cells.lookup x=XV c):∀x y c,a.lookup x=XV c->a.lookup y=XV c->x=y:=λx y c d e=>I.ok.inj x y c (b x c d) (b y c e)
def zbI{a:List (Str×ab)}{scope:cO}(I:L2.Inv X X5 σ H s)(h:Un (uH X.stack) [] H H s.heap s2.heap)(j:∀x c,a.lookup x=XV c->X.env.cells.lookup x=XV c)(b:∀x,scope.names.lookup x=XV .free->∃c,a.lookup x=XV c)
  (e:∀x,scope.names.lookup x=XV .free->X.env.scope.names.lookup x=XV .cell\/X.env.scope.names.lookup x=XV .free):
  ∀(i:Nat)x v,X.N[i]?=XV x->σ[i]?=XV (XV v)->scope.names.lookup x=XV .free->∃u c,RelV v u/\a.lookup x=XV c/\s2.heap.IsCell c (XV u):=λi x v k n d=>by
 obtain⟨m,w,o⟩:=I.loc;obtain⟨u,r,l⟩:=o i x v k n (.inr (e x d));obtain⟨c,f⟩:=b x d;refine⟨u,c,r,f,?_⟩;rcases l with⟨z,_⟩|⟨_,y,g,p⟩
 ·have t:X.env.scope.names.lookup x=XV .local:=z;rcases e x d with q|q<;>(rw[t] at q;cases q)
 ·have:=j x c f;rw[g] at this;cases this;exact OP h p (I.freeC x _ g)
end
structure zf9(out sc:cO):Prop where
 kind:sc.kind=.function
 co:sc.isCoroutine=Y1
 gen:sc.isGenerator=Y1
 nd:(sc.names.map (·.1)).Nodup
 cell:∀x∈sc.names,x.2 ≠ .cell
 loc:∀x∈sc.names,x.2 ≠ .local
 frees:∀y∈sc.names,y.2=.free->out.names.lookup y.1=XV .cell\/out.names.lookup y.1=XV .free
section
end
def UY{K:ah}{Ec:XK->Nat->Hp->Prop}{Pt:ab}{F:List D->Ow->R D}{H:Hp}{a:ab}{ns:List Int}(h:∃O,F [.lst (ns.map .int)] []=.ok (.bl YP) O)(b:H Pt=XV (.tbl #[]))(c:qJ K H a (ns.map V.int)):yK K Ec 1 Pt F [.ref a] H (λv _=>v=.bl YP) λ_ _ _=>False:=by
 obtain⟨O,h⟩:=h;have d:∀(l:List Int),oy K H [] [] (l.map D.int) (l.map V.int):=λl=>by
  induction l with
  |nil=>exact .nil
  |cons x r ih=>exact .cons sR ih
 refine⟨rfl,[],[],[.lst (ns.map .int)],[],.cons ?_ .nil,⟨rfl,by simp,by simp,by simp,λk a e=>by simp at e⟩,oK.empty b,?_⟩
 ·unfold X6;exact⟨a,_,rfl,c.imp (λz=>⟨z,by simp,by simp⟩) id,d ns⟩
 ·rw[h];intro v f g _ _ r;unfold X6 at r;exact r
def oZ.frz{a:Nat->ae}{P:aM}{w:aV}{K:ah}{mg:Str->Option ae}{base:aX}{k n:Nat}{x:Str}{F:List D->Ow->R D}(c:oZ a P w K mg base x k n F):oZ a P w K mg base x k n (zL F):=
 c.imp λe O H b f g Q d q=>Ka d.len q
def BM(h:sc.names.lookup z=X9):¬ u6 sc z:=by intro v;rcases v with v|v|v<;>(rw[h] at v;cases v)
def Vq{K:ah}{x name d:Str}{f c Pt:ab}{b:iJ}{body:List er}{scope:cO}{i j e k l m g:ae}{n o h:Option ab}{p q:Array (Option ae)}{vs:Array ae}(a:gY K bO x=XV (XV (.ref f)))
  (r:K.lookup f=XV ⟨m,o,.func (cy name d b body scope i j e k n (.ref c) l),p⟩) (s:K.lookup c=XV ⟨g,h,.fields vs,q⟩) (t:vs[11]?=XV (.ref Pt)):jz K x=XV (c,Pt):=by unfold jz;rw[a];simp only[r];show(match K.lookup c with|some ⟨_,_,.fields vs,_⟩=>_|_=>X9)=_;simp only[s,t]
structure o7(P:aM)(w:aV)(ia:ab)(fp:List ab)(n:Nat)(Pv:Nat->ae->Prop)(Sx:Nat->aX->Prop):Prop where
 stab:∀i h h',Sx i h->(∀b∈ia::fp,∀o,h.get? b=XV o->h'.get? b=XV o)->Sx i h'
 item:∀(A:a7)(i:Nat)(s:af)(Q:ae->af->Prop)(E:ae->af->Prop),i<n->Sx i s.heap->(∀v h' tk,Pv i v->Sx (i+1) h'->cG ia s.heap h'->Q v { s with heap:=h',toks:=tk })->ao (aw P w) A (dI (.ref ia)) Q E s
 done:∀(A:a7)(i:Nat)(s:af)(Q:ae->af->Prop)(E:ae->af->Prop),A.handled=X9->n<=i->Sx i s.heap->(∀h' e,jm ia s.heap h'->(∃o,h'.get? e=XV o/\o.cls=.type "StopIteration")->E (.ref e) { s with heap:=h' })->ao (aw P w) A (dI (.ref ia)) Q E s
section
variable{P:aM}{w:aV}{A:a7}{E:ae->af->Prop}{s:af}
def Qs{α:Type}{Q:α->af->Prop}(c:A.handled=X9)(h:∀h' e,(∀b o,s.heap.get? b=XV o->h'.get? b=XV o)->(∃o,h'.get? e=XV o/\o.cls=.type "StopIteration")->E (.ref e) { s with heap:=h' }):
  ao (aw P w) A (newExc (.type "StopIteration") [] >>= λe=>(raiseNew e:Sem α)) Q E s:=by refine aa ?_;simp only[newExc,newTuple];refine aa (cg (?_) (by size_fits));refine aa (m:=firstArgMember _ _) (jl (a:=.none) (by first|rfl|(simp only[firstArgMember];rfl)) (cg ?_ (by size_fits)));simp only[raiseNew];refine aa (wpAny_handled ?_);rw[c];refine aa (aj (wpAny_throw (h _ _ (λb o e=>ag _ (ag _ e)) ⟨_,aJ _ rfl,rfl⟩)))
def zdk(j f:ab)(items:Array ae)(I:f≠j):o7 P w j [f] items.size (λi v=>items[i]?=XV v) (λi h=>h.IsTupleIter j f i/\h.IsTuple f items) where
 stab:=by
  rintro i h y ⟨⟨o,e,c,d⟩,⟨B,J,r⟩⟩ k;exact⟨⟨o,k j 'k' o e,c,d⟩,⟨B,k f 'k' B J,r⟩⟩
 item:=by
  rintro A i s Q E q ⟨a,t⟩ u;obtain⟨K,l,C,g⟩:=id a;obtain⟨D,m,F,G,n⟩:=id t;have p:items[i]?=XV items[i]:=aU q;unfold dI;refine aa (cP (name := "__next__") a.typeIs fu (b9 fu a.typeIs jr ?_ (jd _)));show ao _ _ (field (.ref j) 0 >>= _) _ _ s;refine aa (cC l g (x:=.ref f) rfl ?_);show ao _ _ (if (fU f==gk)=YP then _ else _) _ _ s;rw[Z5 (by exact ci)];show ao _ _ (field (.ref j) 1 >>= _) _ _ s;refine aa (cC l g (x:=.int i 0) rfl ?_);show ao _ _ (seqItems? (.ref f) >>= _) _ _ s;refine aa (el m n ?_);simp only[f9,p];refine aa (je l g 'k' (aj ⟨_,rfl,aj (u _ _ s.toks p ⟨?_,?_⟩ (cK ..))⟩))
  ·exact⟨_,bI _ l (kX (gZ g _)),(mH ..).trans C,by rw[gZ g];simp[bS]⟩
  ·exact⟨D,(cK ..).extBut _ _ I m,F,G,n⟩
 done:=by
  rintro A i s Q E H q ⟨a,t⟩ u;obtain⟨K,l,C,g⟩:=id a;obtain⟨D,m,F,G,n⟩:=id t;have p:items[i]?=X9:=by simp[q]
  unfold dI;refine aa (cP (name := "__next__") a.typeIs fu (b9 fu a.typeIs jr ?_ (jd _)));show ao _ _ (field (.ref j) 0 >>= _) _ _ s;refine aa (cC l g (x:=.ref f) rfl ?_);show ao _ _ (if (fU f==gk)=YP then _ else _) _ _ s;rw[Z5 (by exact ci)];show ao _ _ (field (.ref j) 1 >>= _) _ _ s;refine aa (cC l g (x:=.int i 0) rfl ?_);show ao _ _ (seqItems? (.ref f) >>= _) _ _ s;refine aa (el m n ?_);simp only[f9,p];refine aa (dG (aa (je l g 'k' ?_)));refine Qs (by first|exact H|(show A.in1.handled=X9;exact H)) λy e k L=>u y e (λb o M z=>k b o ((cK ..).extBut _ _ M z)) L
def zeu(j:ab)(x:Str)(t:Tok):o7 P w j [] x.cps.size (λi v=>∃c tk,x.cps[i]?=XV c/\v=.str ⟨#[c]⟩ tk) (λi h=>h.IsStrIter j "str_ascii_iterator" x t i) where
 stab:=by
  rintro i h p ⟨o,e,c,d⟩ k;exact⟨o,k j 'k' o e,c,d⟩
 item:=by
  rintro A i s Q E m a n;obtain⟨u,g,q,f⟩:=id a;have l:x.cps[i]?=XV x.cps[i]:=aU m;unfold dI;refine aa (cP (name := "__next__") a.typeIs eE (b9 eE a.typeIs iP ?_ (iE _)));show ao _ _ (field (.ref j) 0 >>= _) _ _ s;refine aa (cC g f (x:=.str x t) rfl ?_);show ao _ _ (field (.ref j) 1 >>= _) _ _ s;refine aa (cC g f (x:=.int i 0) rfl ?_);simp only[f9,l];refine aa (je g f 'k' (aa (wpAny_mkStr (aj ⟨_,rfl,aj (n _ _ _ ⟨_,_,l,rfl⟩ ?_ (cK ..))⟩) (by show 1<=KB;decide))));exact⟨_,bI _ g (kX (gZ f _)),(mH ..).trans q,by rw[gZ f];simp[bS]⟩
 done:=by
  rintro A i s Q E r m a n;obtain⟨u,g,q,f⟩:=id a;have l:x.cps[i]?=X9:=by simp[m]
  unfold dI;refine aa (cP (name := "__next__") a.typeIs eE (b9 eE a.typeIs iP ?_ (iE _)));show ao _ _ (field (.ref j) 0 >>= _) _ _ s;refine aa (cC g f (x:=.str x t) rfl ?_);show ao _ _ (field (.ref j) 1 >>= _) _ _ s;refine aa (cC g f (x:=.int i 0) rfl ?_);simp only[f9,l];refine aa (dG (aa (je g f 'k' (aa (fb ?_)))));refine Qs (by first|exact r|(show A.in1.handled=X9;exact r)) λp e k y=>n p e (λb o B z=>k b o ((cK ..).extBut _ _ B z)) y
end
structure ZAp(z ti to:ab)(i1 i2:ab)(Tj Ti:List ab):Prop where
 a1:ti≠z
 a2:to≠z
 a3:ti≠to
 b1:∀b∈i1::Tj,b≠z/\b≠to
 b2:∀b∈i2::Ti,b≠z/\b≠to
 c1:i1∉i2::Ti
 c2:i2∉i1::Tj
 d1:ti≠i1
 d2:ti≠i2
section
variable{P:aM}{w:aV}{z:ab}{b:ae}
def o7.but(J:o7 P w ia fp n Pv Sx)(x:Sx i h)(e:jm c h h')(a:∀b∈ia::fp,b≠c):Sx i h':=J.stab i h h' x λb d o z=>e b o (a b d) z
end
inductive ZK where
 |tup (t:ab) (items:Array ae)
 |str (x:Str) (t:Tok)
 |lst (l:ab) (items:Array ae)
def ZK.val:ZK->ae
 |.tup t _=>.ref t
 |.str x t=>.str x t
 |.lst l _=>.ref l
noncomputable def ZK.obj:ZK->Obj
 |.tup t _=>{ cls:=.type "tuple_iterator",data:=.fields #[.ref t,.int 0 0] }
 |.str x t=>{ cls:=.type "str_ascii_iterator",data:=.fields #[.str x t,.int 0 0] }
 |.lst l _=>{ cls:=.type "list_iterator",data:=.fields #[.ref l,.int 0 0] }
def ZK.pre(h:aX):ZK->Prop
 |.tup t items=>h.IsTuple t items
 |.str x _=>x.cps.all (· < 128)=YP
 |.lst l items=>h.IsList l items
def ZK.keep(k:∀b o,h.get? b=XV o->h'.get? b=XV o):∀(q:ZK),q.pre h->q.pre h'
 |.tup t items,⟨o,e,r⟩=>⟨o,k _ _ e,r⟩
 |.str x t,e=>e
 |.lst l items,⟨o,e,r⟩=>⟨o,k _ _ e,r⟩
def Held(X:Cx)(H:Hp)(h:aX)(b:ab):Prop:=H b≠X9 \/ ∃o,X.base.get? b=XV o
def Held.far{X:Cx}{a:List (ab×Obj)}{σ:St}{H:Hp}{s:af}{b q:ab}(I:L2.Inv X a σ H s)(x:Held X H s.heap b)(f:si X a H q):b≠q:=by
 rintro rfl;rcases x with x|⟨o,e⟩
 ·exact x f.1
 ·rcases f.2.2.2.1 with z|z
  ·exact I.ok.noex b o e z
  ·exact absurd (a9 (aK e) I.ok.bsz) (lu.mpr z)
structure Iy(P:aM)(w:aV)(K:ah)(J:It)(ia:ab)(S:Nat->aX->Prop):Prop where
 obj:∀i h,S i h->∃o,h.get? ia=XV o/\∀v,o.data ≠ .cell v
 keep:∀i h h',S i h->(∀o,h.get? ia=XV o->h'.get? ia=XV o)->S i h'
 got:∀(X:Cx),X.prog=P->X.w=w->X.K=K->∀(i:Nat)(X5:List (ab×Obj))(s:af)(σ:St)(H:Hp),L2.Inv X X5 σ H s->si X X5 H ia->S i s.heap->(J.go i H\/J.stop i H)->
  ∃fp n Pv Sx,o7 P w ia fp n Pv Sx/\Sx i s.heap/\(∀j h,Sx j h->S j h)/\(J.go i H->i<n)/\(J.stop i H->n<=i)/\(∀v,Pv i v->∃x,RelV x v/\J.yld i H x H)/\∀b∈fp,Held X H s.heap b
section
variable{P:aM}{w:aV}{K:ah}
def Oh{X:Cx}{b:List (ab×Obj)}{σ:St}{H:Hp}{s:af}{a:ab}{xs:List V}(I:L2.Inv X b σ H s)(h:rL X.K H a xs):Held X H s.heap a:=by
 rcases h with h|⟨o,d,n,c,_⟩
 ·exact .inl (by rcases h with h|⟨_,h⟩<;>(rw[h];simp))
 ·exact .inr ⟨o,I.ok.mod.kin a o c⟩
def Ki{xs:List V}{a:List ae}{i:Nat}{v:ae}(r:oA xs a)(e:a[i]?=XV v):∃x,xs[i]?=XV x/\RelV x v:=by
 have f:=r.length;have b:i<xs.length:=by have:=(aq.mp e).1;lia
 obtain⟨u,c,d⟩:=r.get (ay b);rw[e] at c;cases c;exact⟨_,ay b,d⟩
def WL(a l:ab):Iy P w K (Mw K a) l (λi h=>h.IsTupleIter l a i) where
 obj:=λi h ⟨o,e,c,d⟩=>⟨o,e,λv z=>by rw[d] at z;cases z⟩
 keep:=λi h R ⟨o,e,c,d⟩ k=>⟨o,k o e,c,d⟩
 got:=by
  intro X B C D i q s S H I E F G;subst B C D;have J:∃g,rL X.K H a g:=by
   rcases G with⟨g,x,h,_⟩|⟨g,h,_⟩<;>exact⟨g,h⟩
  obtain⟨g,f⟩:=J;obtain⟨r,t,p,T⟩:=I.tuple f;have U:=t.length;refine⟨[a],_,_,_,zdk l a r.toArray ((Oh I f).far I E),⟨F,p⟩,λj h z=>z.1,λ⟨u,y,m,A⟩=>?_,λ⟨u,m,A⟩=>?_,λv L=>?_,λb M=>?_⟩
  ·have e:=I.tuple_inj m f;subst e;have:=(aq.mp A).1;simp;lia
  ·have e:=I.tuple_inj m f;subst e;simp;lia
  ·have n:r[i]?=XV v:=by simpa using L
   obtain⟨x,N,O⟩:=Ki t n;exact⟨x,O,rfl,λu Q=>by rw[I.tuple_inj Q f];exact N⟩
  ·have:b=a:=by simpa using M
   subst this;exact Oh I f
def in_str(x:Str)(t:Tok)(a:ab):Iy P w K (Ie x) a (λi h=>h.IsStrIter a "str_ascii_iterator" x t i) where
 obj:=λi h ⟨o,e,c,d⟩=>⟨o,e,λv z=>by rw[d] at z;cases z⟩
 keep:=λi h r ⟨o,e,c,d⟩ k=>⟨o,k o e,c,d⟩
 got:=by intro X g l m i f s u H I y n A;subst g l m;refine⟨[],_,_,_,zeu a x t,n,λj h z=>z,λz=>z,λz=>z,λv ⟨c,B,e,p⟩=>?_,λb q=>by cases q⟩;subst p;exact⟨.str ⟨#[c]⟩,⟨_,rfl⟩,rfl,c,e,rfl⟩
end
end DL
namespace DL
open PySem L2
open AutoSeq1 (wpAny_loadPart')
set_option maxHeartbeats 1000000 in
def zbS(a:ab)(items:Array ae)(f:Nat)(c:Option ab)(sl:Array (Option ae)):
  Meets (dN.«enumerate.__new__» ⟨[.type "enumerate",.ref a],[]⟩) (λ_ R s=>s.heap.get? a=XV { cls:=.type "tuple",dict:=c,data:=.seq items f,slots:=sl }/\
   R (.ok (.ret (.ref (s.heap.push (ZK.tup a items).obj).objs.size))) { s with heap:=(s.heap.push (ZK.tup a items).obj).push { cls:=.type "enumerate",data:=.fields #[.none,.bool Y1,.ref s.heap.objs.size,bS 0,.none,.none] } }):=
 .of_wp λP w A R s h=>by
  obtain⟨i,g,d,j,k⟩:=s;obtain⟨b,h⟩:=h;have m:=sub_enumerate;have e:Heap.IsTuple (om ⟨i,g,d,j,k⟩) a items:=⟨_,b,rfl,f,rfl⟩
  wp_walk using wpAny_loadPart' b
  refine wpAny_stack_any λn=>aj (?_);split
  ·rename_i l _ _ _ _ _;cases (l==e9 "enumerate")
   ·wp_walk using wpAny_loadPart' b,gT e
    exact⟨_,rfl,h⟩
   ·wp_walk using wpAny_loadPart' b,gT e
    exact⟨_,rfl,h⟩
  ·wp_walk using wpAny_loadPart' b,gT e
   exact⟨_,rfl,h⟩
section
variable{P:aM}{w:aV}{A:a7}{E:ae->af->Prop}{s:af}
def zbo(j:s.heap.IsTuple tt items)
  (h:∀h',g7 h' (s.heap.objs.size+1) s.heap.objs.size 0 .none->h'.get? s.heap.objs.size=XV (ZK.tup tt items).obj->(∀b o,s.heap.get? b=XV o->h'.get? b=XV o)->Q (.ref (s.heap.objs.size+1)) { s with heap:=h' }):
  ao (aw P w) A (call (.type "enumerate") [.ref tt]) Q E s:=by
 obtain⟨⟨k,a,l,m⟩,n,c,f,d⟩:=j;have c:k=.type "tuple":=c;have d:l=.seq items f:=d;subst c;subst d;refine callType_new F.called_enumerate 'u' (F.typeCall_enumerate_1 _) (F.newCall_enumerate_1 _) (λe=>F.args_object_init_2 e _) F.entry_enumerate_new (zbS tt items f a m) ⟨n,?_⟩;have g:(s.heap.push (ZK.tup tt items).obj).objs.size=s.heap.objs.size+1:=dh ..;show _/\_;rw[g];have i:g7 ((s.heap.push (ZK.tup tt items).obj).push { cls:=.type "enumerate",data:=.fields #[.none,.bool Y1,.ref s.heap.objs.size,bS 0,.none,.none] }) (s.heap.objs.size+1) s.heap.objs.size 0 .none:=by
  have q:=aJ (s.heap.push (ZK.tup tt items).obj) (o:={ cls:=.type "enumerate",data:=.fields #[.none,.bool Y1,.ref s.heap.objs.size,bS 0,.none,.none] }) rfl;rw[g] at q;exact q
 exact⟨⟨_,i,rfl⟩,h _ i (ag _ (aJ _ rfl)) λb o x=>ag _ (ag _ x)⟩
variable{ea ia:ab}{fp:List ab}{n k:Nat}{Pv:Nat->ae->Prop}{Sx:Nat->aX->Prop}{old:ae}
def zfF(J:o7 P w ia fp n Pv Sx)(v:g7 s.heap ea ia (k:Nat) old)(X:Sx k s.heap)(Y:k<n)(j:∀b∈ia::fp,b≠ea)
  (Z:∀x h' tk ti,Pv k x->IsEnumOut h' ea ia ((k:Int)+1) x s.heap.objs.size->Sx (k+1) h'->h'.get? s.heap.objs.size=XV { cls:=.type "tuple",data:=.seq #[.int (k:Nat) ti,x] }->(∀b o,b≠ea->b≠ia->s.heap.get? b=XV o->h'.get? b=XV o)->Q (XV (.ref s.heap.objs.size)) { s with heap:=h',toks:=tk }):
  ao (aw P w) A (pyNext (.ref ea)) Q E s:=by
 have T:s.TypeIs (.ref ea) "enumerate":=⟨_,v,rfl⟩;have D:ea≠ia:=cS (j ia al);unfold pyNext;refine aa (gq (cP (name := "__next__") T fo (b9 fo T kF ?_ (kh _))));obtain⟨e,g,d,tk,f⟩:=s;show ao _ _ (field (.ref ea) 2 >>= _) _ _ _;refine aa (cC v rfl (x:=.ref ia) rfl (aa (J.item _ k _ _ _ Y X λx h a px F l=>?_)));have l:cG ia e h:=l;have G:g7 h ea ia (k:Nat) old:=(l.2 ea D).trans v;show ao _ _ (field (.ref ea) 3 >>= _) _ _ ⟨h,g,d,a,f⟩;refine aa (cC G rfl (x:=bS (k:Nat)) rfl ?_);show ao _ _ (field (.ref ea) 4 >>= _) _ _ ⟨h,g,d,a,f⟩;refine aa (cC G rfl (x:=(.none)) rfl ?_);show ao _ _ (mkInt (k:Nat) >>= _) _ _ ⟨h,g,d,a,f⟩;refine aa (wpAny_mkInt ?_);show ao _ _ (setField (.ref ea) 3 (bS ((k:Int)+1)) >>= _) _ _ ⟨h,g,d,a+1,f⟩;refine aa (cD G 'k' λy H m=>?_);have m:cG ea h y:=m;have H:g7 y ea ia ((k:Int)+1) old:=H;show ao _ _ (setField (.ref ea) 4 .none >>= _) _ _ ⟨y,g,d,a+1,f⟩;refine aa (cD H 'k' λc I p=>?_);have p:cG ea y c:=p;have I:g7 c ea ia ((k:Int)+1) old:=I;show ao _ _ (newTuple [.int (k:Nat) a,x] >>= _) _ _ ⟨c,g,d,a+1,f⟩;refine aa (jf ?_);have B:g7 (c.push { cls:=.type "tuple",data:=.seq #[.int (k:Nat) a,x] }) ea ia ((k:Int)+1) old:=ag _ I;have q:c.objs.size=e.objs.size:=by rw[p.1,m.1,l.1]
 have K:ea<e.objs.size:=aK v;have U:(c.push { cls:=.type "tuple",data:=.seq #[.int (k:Nat) a,x] }).get? e.objs.size=XV { cls:=.type "tuple",data:=.seq #[.int (k:Nat) a,x] }:=by rw[<- q];exact aJ _ rfl
 have V:∀b o,b≠ea->b≠ia->e.get? b=XV o->(c.push { cls:=.type "tuple",data:=.seq #[.int (k:Nat) a,x] }).get? b=XV o:=λb o i L z=>ag _ (p.extBut b o i (m.extBut b o i (l.extBut b o L z)));have W:Sx (k+1) (c.push { cls:=.type "tuple",data:=.seq #[.int (k:Nat) a,x] }):=J.stab _ _ _ (J.but (J.but F m.extBut j) p.extBut j) λb _ o z=>ag _ z;generalize c.push { cls:=.type "tuple",data:=.seq #[.int (k:Nat) a,x] } = h4 at B U V W;show ao _ _ (ic (.ref ea) >>= _) _ _ ⟨h4,g,d,a+1,f⟩;rw[q];refine aa ?_;unfold ic;refine aa (cC B rfl (x:=(.none)) rfl (aj ?_));simp only[if_true];refine aa (dG (aa (cC B rfl (x:=old) rfl (aa (cD B 'k' λC M r=>?_)))));have r:cG ea h4 C:=r;have M:g7 C ea ia ((k:Int)+1) x:=M;show ao _ _ (g8 (.ref ea) (.ref e.objs.size) >>= _) _ _ ⟨C,g,d,a+1,f⟩;refine aa ?_;unfold g8;refine aa (cD M 'k' λN O t=>?_);have t:cG ea C N:=t;have O:IsEnumOut N ea ia ((k:Int)+1) x e.objs.size:=O;refine cD O 'k' λR S u=>?_;have u:cG ea N R:=u;have S:IsEnumOut R ea ia ((k:Int)+1) x e.objs.size:=S;refine aa (fb (aj ⟨_,rfl,aj (Z x R _ a px S (J.but (J.but (J.but W r.extBut j) t.extBut j) u.extBut j) ?_ λb o i L z=>u.extBut b o i (t.extBut b o i (r.extBut b o i (V b o i L z))))⟩));exact u.extBut _ _ (eB K) (t.extBut _ _ (eB K) (r.extBut _ _ (eB K) U))
def XT(d:A.handled=X9)(J:o7 P w ia fp n Pv Sx)(a:g7 s.heap ea ia (k:Nat) old)(f:Sx k s.heap)(g:n<=k)(h:∀h',jm ia s.heap h'->Q X9 { s with heap:=h' }):ao (aw P w) A (pyNext (.ref ea)) Q E s:=by have c:s.TypeIs (.ref ea) "enumerate":=⟨_,a,rfl⟩;unfold pyNext;refine aa (gq (cP (name := "__next__") c fo (b9 fo c kF ?_ (kh _))));show ao _ _ (field (.ref ea) 2 >>= _) _ _ _;refine aa (cC a rfl (x:=.ref ia) rfl (aa (J.done _ k _ _ _ d g f λh' e i j=>?_)));obtain⟨l,m,o⟩:=j;exact aa (jV (T := "StopIteration") (b:=YP) ⟨l,m,o⟩ isSubtype_stop (aj (h _ i)))
end
end DL
namespace DL
open PySem L2
def TM(J:It):It:=⟨J.go,λi H v H'=>∃p x,H p=X9/\v=.ref p/\J.yld i H x H/\H'=upd H p (.tup [.int (i:Nat),x]),J.stop⟩
def Uc(ea ia:ab)(S:Nat->aX->Prop)(n:Nat)(h:aX):Prop:=(∃old,g7 h ea ia (n:Nat) old)/\S n h
def zeg(i j:ab)(ap:i≠j)(N:Iy P w K J j S)(EK:∀(A:a7)(n:Nat)(s:af)(Q E:ae->af->Prop),(∃o,g7 s.heap i j (n:Nat) o)->Q (.ref i) s->ao (aw P w) A (pyIter (.ref i)) Q E s):xt P w K (.Tuple es kt pt) (TM J) [i,j] i (Uc i j S):=by
 refine⟨by simp,λn h t b r=>?_,λn h W t k=>?_,?_,?_,λA n s Q E t q=>EK A n s Q E t.1 q⟩
 ·obtain⟨⟨o,z⟩,B⟩:=t;simp only[am,ba,or_false] at r;rcases r with rfl|rfl
  ·exact⟨_,z,λv e=>by cases e⟩
  ·exact N.obj n h B
 ·obtain⟨⟨o,z⟩,B⟩:=t;exact⟨⟨o,k i 'k' _ z⟩,N.keep n h W B (k j 'k')⟩
 ·intro X G L M d n f s O H E I C t y;have y:J.go n H:=y;obtain⟨⟨o,z⟩,B⟩:=t;obtain⟨fp,m,Pv,T,Z,Y,u1,Te,qN,y1,U⟩:=N.got X G L M n f s O H I (C j 'k') B (.inl y);subst G L M;have ne:∀b∈j::fp,b≠i:=λb r=>(am.mp r).elim (λe=>by rw[e];exact cS ap) λr=>(U b r).far I (C i 'k');refine wT I (zfF Z z Y (Te y) ne λx W tk Sa px q1 q2 q3 hk qE=>⟨_,rfl,?_⟩);obtain⟨V,rx,yx⟩:=y1 x px;refine wpAny_letOwnedTupleGo_enum q1 λD e1 e2=>?_;have nb:∀q∈[i,j],s.heap.objs.size≠q:=λq hq e=>by
   have:∃a,s.heap.get? q=XV a:=by
    simp only[am,ba,or_false] at hq;rcases hq with rfl|rfl
    ·exact⟨_,z⟩
    ·obtain⟨a,g,_⟩:=N.obj n _ B;exact⟨_,g⟩
   obtain⟨a,g⟩:=this;exact absurd (aK g) (by rw[e];exact bz _)
  have l:∀c a,c∉[i,j]->s.heap.get? c=XV a->D.get? c=XV a:=λc a d e=>by
   simp only[am,ba,or_false,not_or] at d;exact e2.extBut _ _ d.1 (hk c a d.1 d.2 e)
  have I1:L2.Inv X f O H { s with heap:=D,toks:=tk }:=Inv.turns [i,j] I l C;have Be:D.get? s.heap.objs.size=XV { cls:=.type "tuple",data:=.seq #[.int (n:Nat) Sa,x] }:=e2.extBut _ _ (nb i 'k') q3;have F:H s.heap.objs.size=X9:=I.hok.fresh (aD _);have I2:L2.Inv X f O (upd H s.heap.objs.size (.tup [.int (n:Nat),V])) { s with heap:=D,toks:=tk }:=by
   have un:Un (uH X.stack) [i,j] H (upd H s.heap.objs.size (.tup [.int (n:Nat),V])) s.heap D:=by
    refine⟨λc a e _ _ d=>l c a d e,λc a e _ _ d=>⟨a.slots,l c a d e⟩,λc a e hn _=>?_,λc a e d=>⟨a,l c a d e⟩,λc zs e=>?_,λc a u e=>?_,λc ps e=>⟨#[],?_⟩⟩
    ·rw[qf (bo (aK e))];exact hn
    ·rw[qf (sk e F)];exact e
    ·rw[qf (sk e F)];exact e
    ·rw[qf (sk e F),e];simp
   have hok:HOk X.prog X.w (upd H s.heap.objs.size (.tup [.int (n:Nat),V])) D:=by
    intro c u' e;by_cases d:c=s.heap.objs.size
    ·subst d;rw[rA] at e;cases e;exact⟨by show 2<=KB;decide,[.int (n:Nat) Sa,x],.cons ⟨_,rfl⟩ (.cons rx .nil),⟨_,Be,rfl,⟨_,rfl⟩,rfl⟩⟩
    ·rw[qf d] at e;refine(I1.hok c u' e).stay (λ_ _ _ q=>q) (λp q=>?_) λp zs q=>?_
     ·by_cases R:p=s.heap.objs.size
      ·subst R;rw[F] at q;cases q
      ·rw[qf R];exact q
     ·by_cases R:p=s.heap.objs.size
      ·subst R;rw[F] at q;cases q
      ·rw[qf R];exact q
   exact I.call (t':=tk) (d':=s.drawn) un hok I.bare λb r=>let ⟨_,U,_,f3,f4,f5⟩:=C b r;⟨f3,U,f4,f5⟩
  refine⟨.ref s.heap.objs.size,_,I2,rfl,⟨_,V,F,rfl,yx,rfl⟩,⟨⟨_,by exact_mod_cast e1⟩,?_⟩,λb r=>?_⟩
  ·exact u1 _ _ (Z.but q2 e2.extBut ne)
  ·rw[qf (cS (nb b r))];exact(C b r).1
 ·intro X G L M d n f s O H E I C t y;have y:J.stop n H:=y;obtain⟨⟨o,z⟩,B⟩:=t;obtain⟨fp,m,Pv,T,Z,Y,u1,Te,qN,y1,U⟩:=N.got X G L M n f s O H I (C j 'k') B (.inr y);subst G L M;refine XT (I.ok.hd d) Z z Y (qN y) λW eb=>⟨rfl,?_⟩;refine Inv.turns (t':=s.toks) [i,j] I (λc a d e=>?_) C;simp only[am,ba,or_false,not_or] at d;exact eb c a d.2 e
noncomputable def yk(ds:List D):List D:=ds.zipIdx.map λq=>.tup [.int (q.2:Nat),q.1]
def Rg(ds:List D)(i:Nat):(yk ds)[i]?=(ds[i]?).map λd=>D.tup [.int (i:Nat),d]:=by unfold yk;rw[bG,List.getElem?_zipIdx];cases ds[i]?<;>simp
def oG.enum(l:oG K J (.val ds) H X4 μ):oG K (TM J) (.val (yk ds)) H X4 μ:=by
 intro a b e j m c i;have f:match ds[i]? with|some d=>J.go i b/\∀x g,J.yld i b x g->Ext b e g e/\ou K g a e j/\X6 K g a e d x|none=>J.stop i b:=l a b e j m c i
 show match (yk ds)[i]? with|some d=>_|none=>_
 rw[Rg];cases k:ds[i]? with
 |none=>rw[k] at f;exact f
 | some d1=>
  rw[k] at f;refine⟨f.1,λv g n=>?_⟩;obtain⟨p,x,h,rfl,o,rfl⟩:=n;exact⟨.laid h,c.laid h,X6.newT c h (.cons sR (.cons (f.2 x b o).2.2 .nil))⟩
def Gk(t:DA):DI:=λσ O=>(t σ O).bnd λxs O1=>match xs with
 |[.tup ds]=>.ok (.val (yk ds)) O1
 |_=>.bad
section
variable{X:Cx}{Ex:Nat->Hp->Prop}{pos:Pos}{a b:aR}{X5:List (ab×Obj)}{d_:St}{H:Hp}{s:af}{X4 μ:List ab}{O:Ow}
def zbD:bC "enumerate" = XV (.type "enumerate"):=by boot_by_name
def Ra(c f:ab)(A:a7)(n:Nat)(s:af)(Q E:ae->af->Prop)(h:∃d,g7 s.heap c f (n:Nat) d)(q:Q (.ref c) s):ao (aw P w) A (pyIter (.ref c)) Q E s:=by obtain⟨d,h⟩:=h;have e:s.TypeIs (.ref c) "enumerate":=⟨_,h,rfl⟩;refine jH e kY (b9 kY e F.entry_enumerate_iter ?_ (F.args_enumerate_iter_1 _));show ao _ _ (ret (.ref c)) _ _ s;exact aj ⟨_,rfl, "enumerate",_,e,fo.lookup,q⟩
def zca(z:Gl X "enumerate")(A:X.mg "enumerate" = X9)(B:uc X Ex [a] t)(C:aS [a] X.env=[(Y1,eval a X.env)]:=by rfl):
  sZ X Ex (.Tuple es' kt pt) (.Call (.Name "enumerate" p) [a] [] pos) (Gk t):=by
 refine⟨?_⟩;rintro X5 s d_ H D I ⟨X4,μ,V,O,E,F,q⟩;refine oa (B4 I z A zbD (gi (qc (B.out pos X5 s d_ H _ I (uN.go E F q (Q1:=λj c=>∃X4 g h f,ou X.K c X4 g h/\oy X.K c X4 g f j/\
   post Ex X.K (λH' G s J=>oG X.K J s H' X4 G) c X4 g (match f with|[.tup f]=>.ok (.val (yk f)) h|_=>.bad) D)
  λf h j c g W x k d p=>⟨X4,g,h,f,k,d,p⟩)) λY e ⟨j,c,i,L,X4,g,h,f,k,d,p⟩=>?_) (by rw[C];rfl) (by rfl)))
 split at p
 ·rename_i Z;unfold oy at d;obtain⟨v,r,rfl,n,o⟩:=d;unfold oy at o;subst o;unfold X6 at n;obtain⟨M,N,rfl,l,P⟩:=n;obtain⟨u1,rfl,m⟩:=ue L;cases m;obtain⟨h_,_,Q,_⟩:=i.tuple l.sq;refine zbo Q λR u S T=>?_;refine Ra (e.heap.objs.size+1) e.heap.objs.size _ 0 _ _ _ ⟨_,u⟩ ?_;have U:L2.Inv X X5 d_ c { e with heap:=R,toks:=e.toks }:=i.kept T;refine⟨e.heap.objs.size+1,[e.heap.objs.size+1,e.heap.objs.size],_,_,c,rfl,U,zeg _ _ (Nat.succ_ne_self _) (WL M _) (Ra _ _),⟨⟨_,u⟩,⟨_,S,rfl,rfl⟩⟩,λb w=>?_,post.here p k (.enum (.tup l P))⟩;have y:e.heap.objs.size<=b:=by
   simp only[am,ba,or_false] at w;rcases w with rfl|rfl<;>lia
  exact i.fpOk (H':=c) y (i.hok.fresh y)
 ·exact ak p
end
end DL
namespace DL
open PySem L2
open PyProof.Rows hiding St
section
variable{X:Cx}{Ex:Nat->Hp->Prop}{pos:Pos}{a b c:aR}{ta tb:DE}{X5:List (ab×Obj)}{H:Hp}{s:af}{X4 μ:List ab}{O:Ow}
def ND(K:ah):R2:=λx y H Q=>∃a b ys,x=.ref a/\y=.ref b/\rL K H a []/\rL K H b ys/\Q (.ref b) H
def YG:qB X (dS .Add) (ND X.K):=by
 intro X5 s N H x y v u Q I r t h;obtain⟨p,q,P,rfl,rfl,w,z,A⟩:=h;cases r;cases t;obtain⟨B,C,⟨⟨D,E,d,F⟩,k,e,l,f⟩,_⟩:=I.tuple w;obtain⟨m,R,⟨⟨G,J,g,L⟩,n,i,o,j⟩,_⟩:=I.tuple z;have M:B=[]:=by cases C;rfl
 subst M;have e:D=.type "tuple":=e;have i:G=.type "tuple":=i;have f:d=.seq #[] l:=f;have j:g=.seq m.toArray o:=j;subst e;subst i;subst f;subst j;exact jp ⟨_,k,rfl⟩ ⟨_,n,rfl⟩ jT lH ir ig (gQ _ _) (PyProof.Rows.tuple_addW0 p q #[] m.toArray l o E J F L rfl) ⟨k,n,⟨.ref q,H,I,rfl,A⟩⟩
def tj:Ow->D->D->R D:=λO x y=>match x,y with
 |.tup [],.tup ys=>.ok (.tup ys) O
 |x,y=>sh O x y
def Zs:rZ X Ex (λx y H Q=>ND X.K x y H Q\/IC X.K x y H Q) tj:=by
 intro H X4 μ O x y v w Q c e d q;unfold tj at q;split at q
 ·rename_i k;have f:=d;unfold X6 at e d;obtain⟨p,m,rfl,l,g⟩:=e;obtain⟨h,i,rfl,j,n⟩:=d;unfold oy at g;subst g;exact .inl ⟨p,h,i,rfl,rfl,l.sq,j.sq,post.here q c f⟩
 ·exact .inr (Oq H X4 μ O _ _ v w Q c e d q)
def Ye(d:PD X Ex a ta)(e:PD X Ex b tb):PD X Ex (.BinOp a .Add b pos) (e_ tj ta tb):=yj (qB.or YG OR) Zs d e
end
end DL
namespace DL
open PySem L2
section
variable{X:Cx}{Ex:Nat->Hp->Prop}
noncomputable def ye:Ow->D->D->R D:=λO x y=>match x,y with
 |.int i,.int j=>.ok (.bl (decide (i<j))) O
 |.str p,.str q=>.ok (.bl (decide (p<q))) O
 |_,_=>.bad
def Og:qB X (cm .Lt) (λx y H Q=>(∃i j,x=.str i/\y=.str j/\Q (.bl (decide (i.cps.toList<j.cps.toList))) H)\/t6 (λi j=>.bl (decide (i<j))) x y H Q):=qB.or zel ID
def OV:rZ X Ex (λx y H Q=>(∃i j,x=.str i/\y=.str j/\Q (.bl (decide (i.cps.toList<j.cps.toList))) H)\/t6 (λi j=>.bl (decide (i<j))) x y H Q) ye:=by
 intro H a e O x y v w Q c b d q;unfold ye at q;split at q
 ·rename_i i j;exact .inr (IZ H a e O (.int i) (.int j) v w Q c b d q)
 ·unfold X6 at b d;subst b;subst d;exact .inl ⟨_,_,rfl,rfl,post.here q c uA⟩
 ·exact ak q
end
section
structure zos(mg:Str->Option ae)(x:Str)(i:Int):Prop where
 ex:∃t,mg x=XV (.int i t)
end
section
variable{X:Cx}{Ex:Nat->Hp->Prop}{pos:Pos}{tg e:aR}{te:DE}
def Az(g:Tg)(te:DE):DS:=λσ O=>(te σ O).bnS λd O1=>match g.put d σ with
 |some σ'=>.nx σ' O1
 |none=>.bad
def YH(b:PD X Ex e te)(f:PG X tg (g.rd X.K))(h:fO [tg] e pos.line X.env=pure Y1:=by rfl)(i:fP [tg] e X.env=pure X9:=by rfl)(j:(fV [tg] X.env).map (·.2)=[assign tg X.env]:=by rfl):rM X Ex (.Assign [tg] e pos) (Az g te):=
 w9 (IW b.out f h i j) λk y l O E z H m n q=>rd.goS m n q λd A v o s t x c r p=>by
  cases a:g.put d l with
  |none=>rw[a] at p;exact ak p
  | some σ'=>
   rw[a] at p;exact g.ok2 t r a λu w _=>p u o s .refl w c
end
end DL
namespace DL
open PySem L2 PySem.Spec PyProof.Rows
section
variable{X:Cx}{Ex:Nat->Hp->Prop}{pos:Pos}{tg e:aR}{te:DE}
noncomputable def yi(i j k:Nat)(te:DE):DS:=λσ O=>(te σ O).bnS λd O1=>match d with
 |.tup [x,y,z]=>.nx (((σ.set i (XV x)).set j (XV y)).set k (XV z)) O1
 |_=>.bad
def UX{K:ah}{H:Hp}{X4 μ:List ab}{a b c:D}{vs:List V}(h:oy K H X4 μ [a,b,c] vs):∃u v w,vs=[u,v,w]/\X6 K H X4 μ a u/\X6 K H X4 μ b v/\X6 K H X4 μ c w:=by unfold oy at h;obtain⟨u,r,rfl,d,f⟩:=h;obtain⟨v,w,rfl,g,i⟩:=AA f;exact⟨u,v,w,rfl,d,g,i⟩
def ZJ{i j k:Nat}{x y z:Str}{c d f g:Pos}{h:Nat}(l:X.calm=YP)(a:X.N.Nodup)(m:X.N[i]?=XV x)(n:X.N[j]?=XV y)(o:X.N[k]?=XV z)(p:Loc X.env.scope x)(q:Loc X.env.scope y)(hz:Loc X.env.scope z)
  (r:X.fn x=YP\/X.env.scope.names.lookup x=XV .local) (s:X.fn y=YP\/X.env.scope.names.lookup y=XV .local) (b:X.fn z=YP\/X.env.scope.names.lookup z=XV .local):
  PG X (.Tuple [.Name x c,.Name y d,.Name z f] h g) (CL X.K 3 (yS (u7 i) (yS (u7 j) (yS (u7 k) FJ)))):=
 Ob l (DC (B9 a m p r) (DC (B9 a n q s) (DC (B9 a o hz b) Pd)))
def zfH{i j k:Nat}(b:PD X Ex e te)(f:PG X tg (CL X.K 3 (yS (u7 i) (yS (u7 j) (yS (u7 k) FJ)))))(g:fO [tg] e pos.line X.env=pure Y1:=by rfl)(h:fP [tg] e X.env=pure X9:=by rfl)(m:(fV [tg] X.env).map (·.2)=[assign tg X.env]:=by rfl):rM X Ex (.Assign [tg] e pos) (yi i j k te):=
 w9 (IW b.out f g h m) λn I J O E L H o s q=>rd.goS o s q λd M v A B C x c r p=>by
  split at p
  ·rename_i x y z;unfold X6 at r;obtain⟨a,N,rfl,l,r⟩:=r;obtain⟨u,w,t,rfl,D,F,G⟩:=UX r;exact⟨a,[u,w,t],rfl,l.sq,rfl,u,[w,t],rfl,w,[t],rfl,t,[],rfl,rfl,p _ A B .refl (((C.set D i).set F j).set G k) c⟩
  ·exact ak p
end
end DL
namespace DL
open PySem L2 PySem.Spec PyProof.Rows
open Sem (wp)
end DL
namespace DL
open PySem L2 PySem.Spec PyProof.Rows
end DL
namespace DL
open PySem L2
open AutoSeq1 (wpAny_loadPart')
section
variable{X:Cx}{Ex:Nat->Hp->Prop}{b e o:aR}{to:DE}
def BC:Int->Int->Option D:=gI h9
def Fq:Int->Int->Option D:=gI ix
def X3:rZ X Ex (t6 λi j=>.int (h9 i j)) (fI BC):=AS λi j d h _ _ _ _=>by cases h;exact sR
def Vp:rZ X Ex (t6 λi j=>.int (ix i j)) (fI Fq):=AS λi j d h _ _ _ _=>by cases h;exact sR
def zdb(l:ab)(xs:Array ae)(n:Nat)(b:ab)(a:Array ae)(m:Nat)(sl:Array (Option ae))(j:¬(!xs.isEmpty&&fM (xs.size+a.size))=YP)(c:xs.size<=KB)(k:xs.size+a.size<=KB+1):
  Meets (dN.«list.extend» ⟨[.ref l,.ref b],[]⟩) (λ_ R s=>s.heap.get? l=XV { cls:=.type "list",data:=.seq xs n }/\s.heap.get? b=XV { cls:=.type "list",data:=.seq a m,slots:=sl }/\R (.ok (.ret .none)) { s with heap:=s.heap.update l (bu λx=>x++a) }):=
 .of_wp λf w A R s h=>by
  obtain⟨q,g,d,r,t⟩:=s;obtain⟨i,p,h⟩:=h;have u:=jW;have v:=AutoSeq1.sub_list_list;have y:=AutoSeq1.sub_tuple_list;have z:=AutoSeq1.sub_list_tuple;have hz:(xs++a).size<=KB+1:=by rw[gc];exact k
  wp_walk using(dW i rfl (hz:=c) (_hz':=hz)),wpAny_loadPart' i,wpAny_loadPart' p
  exact⟨_,rfl,h⟩
def Ub(K:ah):V->List V->Hp->VK->Prop:=λx vs H Q=>∃l b xs zs,x=.ref l/\vs=[.ref b]/\H l=XV (.lst xs)/\qJ K H b zs/\xs.length+zs.length<=KB/\Q .non (upd H l (.lst (xs++zs)))
def Xa:TJ X "list.extend" (Ub X.K):=by
 intro k s M H x N v O Q I w y h;obtain⟨l,b,P,R,rfl,rfl,m,A,S,q⟩:=h;cases w;obtain⟨u,rfl,B⟩:=y.one;cases B;obtain⟨z,c,n,r,T,e⟩:=I.lstM m;obtain⟨d,p,⟨C,t,D,f,a,g⟩,_⟩:=I.list A;obtain⟨E,i,G,J⟩:=C;have f:E=.type "list":=f;have a:i=X9:=a;have g:G=.seq d.toArray t:=g;subst f;subst a;subst g;have U:=p.length;have j:c.toArray.size+d.toArray.size<=KB:=by rw[aF,aF];lia
 have L:¬ (!c.toArray.isEmpty&&fM (c.toArray.size+d.toArray.size))=YP:=by
  rw[zeW j,kZ];exact ci
 refine call_meets k7 ⟨_,e,rfl⟩ F.entry_list_extend (F.args_list_extend_2 _ _)
  (zdb l c.toArray n b d.toArray t J L (by rw[aF];lia) 'd') ⟨e,D,?_⟩
 refine⟨.non,_,I.lset (its':=c++d) m e 'k' (r.append p) ?_,rfl,q⟩;rw[az];lia
def zR(to:DE)(t:DA):DE:=λσ O=>(to σ O).bnd λx O1=>match x with
 | .own k=>(t σ O1).bnd λys O2=>match ys,O2[k]? with
  | [y],XV ds=>match tJ O2 y with
   |some es=>if ds.length+es.length<=4000000 then .ok .non (O2.set k (ds++es)) else .bad
   |none=>.bad
  |_,_=>.bad
 |_=>.bad
def zcN(m:PD X Ex o to)(n:uc X Ex (e::es) t)(s:attributeBase o "extend" X.env (eval o X.env)=eval o X.env:=by rfl)
  (u:((backTo p_ (aS (e::es) X.env)).all (λx=>!x.1)&&(backToKw p_ (keywordEach [] X.env)).all (λx=>x.1.isSome)&&decide ((e::es).length+([]:List fF).length+(if ([]:List fF).isEmpty then 0 else 1)<30))=YP:=by rfl)
  (z:(apos.endLine==p_.line)=YP:=by rfl) (B:aS (e::es) X.env=(Y1,eval e X.env)::aS es X.env:=by rfl) (C:(backTo p_ (aS es X.env)).any (·.1)=Y1:=by rfl):
  PD X Ex (.Call (.Attribute o "extend" apos) (e::es) [] p_) (zR to t):=
 r9 (F7 kg k7 PySem.F.type_list_extend Xa m.out n.out s u z B C) λD μ σ O d_ H Q E G q=>rd.go E G q λd O1 v H1 g_ I x g r p=>by
  cases d with
  | own k=>
   have J:=r;unfold X6 at r;obtain⟨A,rfl,K⟩:=r;obtain⟨ds,L,h1,M,h3⟩:=g.at_ k A K;refine⟨.inl ⟨rfl,L,.of M⟩,uN.go I g p λys O2 ws H2 N e3 P c R a=>?_⟩;split at a
   ·rename_i y S T;split at a
    ·rename_i zs U;obtain⟨V,a⟩:=post.ite a;obtain⟨w,rfl,W⟩:=tW R;have f:N[k]?=XV A:=by
      have:=J.ext P;unfold X6 at this;obtain⟨A',Y,Z⟩:=this;cases Y;exact Z
     obtain⟨Fx,zd,h,i,j⟩:=c.at_ k A f;rw[T] at h;cases h;obtain⟨pb,vz,rfl,sq,l⟩:=vt c W U;refine⟨A,pb,zd,vz,rfl,rfl,i,sq,aE (by rw[<- j.length,<- l.length];exact V) 'u',?_⟩;exact post.ok a (.put (aN f) ⟨_,i⟩) (c.put f (j.append l)) Gw
    ·exact ak a
   ·exact ak a
  |_=>exact ak p
end
end DL
namespace TS
open PySem PyProof.Rows
abbrev G1:=Bool->a8->Array a8->Nat->Nat->Nat->StateT bV Sem (Option Nat)
abbrev M1:=Array a8->Array a8->StateT bV Sem (Array a8)
def lay(xs:Array a8)(at_:Nat)(m:List a8):Array a8:=m.zipIdx.foldl (λa x=>a.setIfInBounds (at_+x.2) x.1) xs
structure oV where
 g:G1
 lo:M1
 hi:M1
 at_:∀{M:iS}{A:a7}{E:ae->af->Prop}{s:af}{i:Nat}{st:bV}{Q:Bool->bV->Prop}{sa na pw sb nb HD:Nat}{kb:a8},
  (Z7 st)[i]?=XV (sa,na,pw)->(Z7 st)[i+1]?=XV (sb,nb,HD)->(Z6 st)[sb]?=XV kb->
  wpS M A E s (g Y1 kb (Z6 st) sa na 0) (λr qN=>∃k,r=XV k/\(na-k=0->Q YP qN)/\(na-k≠0->∃ka,(Z6 st)[sa+k+(na-k)-1]?=XV ka/\
   wpS M A E s (g YP ka (Z6 st) sb nb (nb-1)) (λr2 qu=>∃m,r2=XV m/\(m=0->Q YP qu)/\(m≠0->
    wpS M A E s (if na-k<=m then lo ((Z6 st).extract (sa+k) sb) ((Z6 st).extract sb (sb+m)) else hi ((Z6 st).extract (sa+k) sb) ((Z6 st).extract sb (sb+m)))
     (λmg qj=>Q (failedOf qj).isNone (setArr qj (lay (Z6 qj) (sa+k) mg.toList))) qu)) qN)) (setPending st (((Z7 st).setIfInBounds i (sa,na+nb,pw)).eraseIdxIfInBounds (i+1)))->
  wpS M A E s (mergeAt' i) Q st
def sS{M:iS}{A:a7}{E:ae->af->Prop}{s:af}{st:bV}{a:Array a8}{i:Nat}{x:a8}{Q:a8->bV->Prop}(h:a[i]?=XV x)(q:Q x st):wpS M A E s (elem' a i) Q st:=by rw[elem'_eq,h];exact aI q
def Ze{M:iS}{A:a7}{E:ae->af->Prop}{s:af}{σ:Type}{st a:σ}{Q:PUnit->σ->Prop}(q:Q ⟨⟩ a):wpS M A E s (set a) Q st:=fA (f:=λ_=>a) q
noncomputable def oW:oV:=by
 apply oV.mk
 case at_=>
  intro M A E s i st Q sa na pw sb nb HD kb h1 h2 h3 h;show wpS M A E s (get >>= _) Q st;refine aC (gE ?_);rw[show(Z7 st)[i]?=_ from h1,show(Z7 st)[i+1]?=_ from h2];refine aC (Ze (aC (sS h3 (aC (dr h ?_)))));rintro _ qN ⟨k,rfl,e0,e1⟩;by_cases hk:na-k=0
  ·show wpS M A E s (if (na-k==0)=YP then _ else _) Q qN;rw[Y2 (by rw[hk];rfl)];exact aI (e0 hk)
  ·show wpS M A E s (if (na-k==0)=YP then _ else _) Q qN;rw[Z5 (by simpa using hk)];obtain⟨ka,q1,q2⟩:=e1 hk;refine aC (sS q1 (aC (dr q2 ?_)));rintro _ qu ⟨m,rfl,f0,f1⟩;by_cases hm:m=0
   ·subst hm;exact aI (f0 rfl)
   ·show wpS M A E s (if (m==0)=YP then _ else _) Q qu;rw[Z5 (by simpa using hm)];have f2:=f1 hm;by_cases hc:na-k<=m
    ·rw[Y2 hc] at f2;show wpS M A E s (if na-k<=m then _ else _) Q qu;rw[Y2 hc];exact aC (dr f2 λmg qj q=>aC (fA (aC (gE (aI q)))))
    ·rw[Z5 hc] at f2;show wpS M A E s (if na-k<=m then _ else _) Q qu;rw[Z5 hc];exact aC (dr f2 λmg qj q=>aC (fA (aC (gE (aI q)))))
section
variable{prog:aM}{w:aV}{A:a7}{E:ae->af->Prop}{s:af}{κ:aW}{st:bV}{kd:KT}
def ky(κ:aW)(x:a8):κ.α:=(κ.keyOf x.1).getD κ.dflt
def tD(κ:aW)(x:a8):Prop:=∃a,κ.keyOf x.1=XV a
abbrev Ty{α β:Type}(_:α->β):Type:=β
abbrev KT:Type:=Ty kindOf
def vI(prog:aM)(w:aV)(A:a7)(s:af)(κ:aW)(kd:KT):Prop:=∀(x y:a8)(E':ae->af->Prop){Q:Bool->af->Prop},tD κ x->tD κ y->Q (κ.blt (ky κ x) (ky κ y)) s->ao (aw prog w) A (keyLt' kd x.1 y.1) Q E' s
def vI.one(e:κ.OneLt):vI prog w A s κ oneType':=λx y f Q ⟨a,c⟩ ⟨b,d⟩ q=>by
 have g:ky κ x=a:=by unfold ky;rw[c];rfl
 have h:ky κ y=b:=by unfold ky;rw[d];rfl
 rw[g,h] at q;rw[keyLt'_oneType];exact e prog w A f s x.1 y.1 a b c d q
def C6(a:vI prog w A s κ kd)(b:kindOf st=kd)(c:tD κ x)(d:tD κ y)(q:Q (XV (κ.blt (ky κ x) (ky κ y))) st):wpS (aw prog w) A E s (lt' x y) Q st:=by rw[lt'_eq];refine aC (gE (aC (jg (gq ?_))));rw[b];exact a x y _ c d ⟨rfl,aI q⟩
def tL(κ:aW)(left:Bool)(key x:a8):Bool:=if left=YP then κ.blt (ky κ x) (ky κ key) else !κ.blt (ky κ key) (ky κ x)
set_option hygiene false in
local macro_rules|`(tactic| walk_at "tail")=>`(tactic| (
 refine aC (dr (cJ (I:=λk c A1=>A1=i_/\∃ lo hi,c=(none,lo,hi)/\lo<=hi/\hi<=n/\hi-lo<=n-k/\(∀ i,i<lo->b i=true)/\(∀ i,hi<=i->i<n->b i=false)) (Q:=λc A1=>A1=i_/\∃ m,c=(none,m,m)/\m<=n/\(∀ i,i<m->b i=true)/\(∀ i,m<=i->i<n->b i=false)) ?_ ?_ ?_) ?_)
 ·rintro k c qu _ xV ⟨rfl,lo,hi,rfl,g1,g2,g3,g4,g5⟩
  show wpS _ _ _ _ (if lo ≥ hi then _ else _) _ qu
  by_cases hc:lo ≥ hi
  ·rw[if_pos hc]
   have:lo=hi:=by lia
   subst this
   exact aI ⟨rfl,lo,rfl,g2,g4,g5⟩
  ·rw[if_neg hc]
   refine aC (one (lo+(hi-lo)/2) (by lia) ?_)
   cases t_:b (lo+(hi-lo)/2) with
   | true=>exact aI ⟨rfl,lo+(hi-lo)/2+1,hi,rfl,by lia,g2,by lia,λi vX=>mono i (lo+(hi-lo)/2) (by lia) (by lia) t_,g5⟩
   | false=>exact aI ⟨rfl,lo,lo+(hi-lo)/2,rfl,by lia,by lia,by lia,g4,λi vX rJ=>pj (lo+(hi-lo)/2) i vX (by lia) rJ t_⟩
 ·rintro c qu ⟨rfl,lo,hi,rfl,g1,g2,g3,g4,g5⟩
  rw[dL] at g3
  have:lo=hi:=by lia
  subst this
  exact⟨rfl,lo,rfl,g2,g4,g5⟩
 ·exact⟨rfl,lo,hi,rfl,hl,hn,by lia,ht,hf⟩
 ·rintro c qu ⟨rfl,m,rfl,g2,g4,g5⟩
  exact aI (q m g2 g4 g5)))
def Y8(ho:vI prog w A s κ kd){left:Bool}{key:a8}{arr:Array a8}{base n hint:Nat}{b:Nat->Bool}(hk:kindOf st=kd)(sM:tD κ key)(hb:∀i,i<n->∃x,arr[base+i]?=XV x/\tD κ x/\tL κ left key x=b i)(hh:hint<n)(mono:∀i j,i<=j->j<n->b j=YP->b i=YP)
  {Q:Option Nat->bV->Prop} (q:∀k,k<=n->(∀i,i<k->b i=YP)->(∀i,k<=i->i<n->b i=Y1)->Q (XV k) st):wpS (aw prog w) A E s ((oV.g oW) left key arr base n hint) Q st:=by
 have one:∀i,i<n->∀{Q:Option Bool->bV->Prop},Q (XV (b i)) st->wpS (aw prog w) A E s (elem' arr (base+i) >>= λx=>if left=YP then lt' x key else lt' key x >>= λr=>pure (r.map λx=>!x)) Q st:=λi hi Q hq=>by
  obtain⟨x,h1,h2,h3⟩:=hb i hi;refine aC (sS h1 ?_);unfold tL at h3;cases left with
  | true=>
   rw[Y2 rfl] at h3;rw[Y2 rfl];exact C6 ho hk h2 sM (by rw[h3];exact hq)
  | false=>
   rw[Z5 'u'] at h3;rw[Z5 'u'];exact aC (C6 ho hk sM h2 (aI (by show Q (XV (!κ.blt (ky κ key) (ky κ x))) st;rw[h3];exact hq)))
 have pj:∀i j,i<=j->i<n->j<n->b i=Y1->b j=Y1:=λi j yA hi hj hf=>by
  cases e:b j with
  |false=>rfl
  |true=>rw[mono i j yA hj e] at hf;cases hf
 show wpS _ _ _ _ (_ >>= _) Q st;refine aC (one hint hh ?_);cases S4:b hint with
 | true=>
  refine aC (dr (cJ (I:=λk c i_=>i_=st/\∃l o,c=(X9,l,o)/\l<o/\k+1<=o/\hint+l<n/\b (hint+l)=YP) (Q:=λc i_=>i_=st/\∃l o,c=(X9,l,o)/\l<o/\hint+l<n/\b (hint+l)=YP/\(hint+o<n->b (hint+o)=Y1)) ?_ ?_ ?_) ?_)
  ·rintro k c i_ _ xV ⟨rfl,l,o,rfl,h1,h2,h3,h4⟩;show wpS _ _ _ _ (if o ≥ n-hint then _ else _) _ i_;by_cases hc:o ≥ n-hint
   ·rw[Y2 hc];exact aI ⟨rfl,l,o,rfl,h1,h3,h4,λh=>by lia⟩
   ·rw[Z5 hc];refine aC (one (hint+o) 'd' ?_);cases Fg:b (hint+o) with
    |true=>exact aI ⟨rfl,o,2*o+1,rfl,by lia,by lia,by lia,Fg⟩
    |false=>exact aI ⟨rfl,l,o,rfl,h1,h3,h4,λ_=>Fg⟩
  ·rintro c i_ ⟨rfl,l,o,rfl,h1,h2,h3,h4⟩;exact⟨rfl,l,o,rfl,h1,h3,h4,λh=>by rw[dL] at h2;lia⟩
  ·exact⟨rfl,0,1,rfl,by lia,by lia,by lia,S4⟩
  ·rintro c i_ ⟨rfl,l,o,rfl,h1,h3,h4,h5⟩;have hl:hint+l+1<=hint+min o (n-hint):=by lia
   have hn:hint+min o (n-hint)<=n:=by lia
   have ht:∀i,i<hint+l+1->b i=YP:=λi hi=>mono i (hint+l) 'd' h3 h4;have hf:∀i,hint+min o (n-hint)<=i->i<n->b i=Y1:=λi hi rJ=>by
    have:hint+o<n:=by lia
    exact pj (hint+o) i 'd' this rJ (h5 this)
   show wpS _ _ _ _ (forIn [:n] (X9,hint+l+1,hint+min o (n-hint)) _ >>= _) Q i_;generalize hint+l+1=lo at *;generalize hint+min o (n-hint)=hi at *;walk_at "tail"
 | false=>
  refine aC (dr (cJ (I:=λk c i_=>i_=st/\∃l o,c=(X9,l,o)/\l<o/\k+1<=o/\l<=hint/\b (hint-l)=Y1) (Q:=λc i_=>i_=st/\∃l o,c=(X9,l,o)/\l<o/\l<=hint/\b (hint-l)=Y1/\(o<=hint->b (hint-o)=YP)) ?_ ?_ ?_) ?_)
  ·rintro k c i_ _ xV ⟨rfl,l,o,rfl,h1,h2,h3,h4⟩;show wpS _ _ _ _ (if o ≥ hint+1 then _ else _) _ i_;by_cases hc:o ≥ hint+1
   ·rw[Y2 hc];exact aI ⟨rfl,l,o,rfl,h1,h3,h4,λh=>by lia⟩
   ·rw[Z5 hc];refine aC (one (hint-o) 'd' ?_);cases Fg:b (hint-o) with
    |true=>exact aI ⟨rfl,l,o,rfl,h1,h3,h4,λ_=>Fg⟩
    |false=>exact aI ⟨rfl,o,2*o+1,rfl,by lia,by lia,by lia,Fg⟩
  ·rintro c i_ ⟨rfl,l,o,rfl,h1,h2,h3,h4⟩;exact⟨rfl,l,o,rfl,h1,h3,h4,λh=>by rw[dL] at h2;lia⟩
  ·exact⟨rfl,0,1,rfl,by lia,by lia,by lia,S4⟩
  ·rintro c i_ ⟨rfl,l,o,rfl,h1,h3,h4,h5⟩;have hl:hint+1-min o (hint+1)<=hint-l:=by lia
   have hn:hint-l<=n:=by lia
   have ht:∀i,i<hint+1-min o (hint+1)->b i=YP:=λi hi=>by
    have:o<=hint:=by lia
    exact mono i (hint-o) 'd' 'd' (h5 this)
   have hf:∀i,hint-l<=i->i<n->b i=Y1:=λi hi rJ=>pj (hint-l) i hi 'd' rJ h4;show wpS _ _ _ _ (forIn [:n] (X9,hint+1-min o (hint+1),hint-l) _ >>= _) Q i_;generalize hint+1-min o (hint+1)=lo at *;generalize hint-l=hi at *;walk_at "tail"
end
section
variable{κ:aW}
def Le(κ:aW)(x y:a8):Prop:=κ.blt (ky κ y) (ky κ x)=Y1
def Le.refl(x:a8):Le κ x x:=κ.irrefl _
def Le.trans(a:Le κ x y)(b:Le κ y z):Le κ x z:=by
 unfold Le at *;cases e:κ.blt (ky κ z) (ky κ x) with
 |false=>rfl
 | true=>
  rcases κ.negTrans _ (ky κ y) _ e with h|h
  ·rw[b] at h;cases h
  ·rw[a] at h;cases h
def Le.of(h:κ.blt (ky κ x) (ky κ y)=YP):Le κ x y:=by
 unfold Le;cases e:κ.blt (ky κ y) (ky κ x) with
 |false=>rfl
 | true=>
  have:=κ.trans _ _ _ h e;rw[κ.irrefl] at this;cases this
def qy(κ:aW)(l:List a8):Prop:=l.Pairwise (Le κ)
structure Out(κ:aW)(a b r:List a8):Prop where
 perm:r.Perm (a++b)
 srt:qy κ r
structure Mg(κ:aW)(a b o:List a8)(i j:Nat):Prop where
 perm:o.Perm (a.take i++b.take j)
 srt:qy κ o
 la:∀x∈o,∀y∈a.drop i,Le κ x y
 lb:∀x∈o,∀y∈b.drop j,Le κ x y
variable{a b o:List a8}{i j:Nat}
def Mg.len(h:Mg κ a b o i j)(c:i<=a.length)(d:j<=b.length):o.length=i+j:=by rw[h.perm.length_eq,az,bZ,bZ];lia
def Qn{α:Type}(l:List α)(i k:Nat){x:α}(h:x∈l.drop (i+k)):x∈l.drop i:=by rw[<- ei] at h;exact cV h
def qy.take_drop(h:qy κ l)(k:Nat):∀x∈l.take k,∀y∈l.drop k,Le κ x y:=by unfold qy at h;rw[<- cz k l,cf] at h;exact h.2.2
def Mg.addA(h:Mg κ a b o i j)(f:qy κ a)(k:Nat)(d:∀y∈(a.drop i).take k,∀z∈b.drop j,Le κ y z):Mg κ a b (o++(a.drop i).take k) (i+k) j:=by
 have e:qy κ (a.drop i):=f.sublist (c8 i a);refine⟨?_,?_,λx hx y c=>?_,λx hx y c=>?_⟩
 ·rw[nX];refine(h.perm.append_right _).trans ?_;rw[bg,bg];exact(cL).append_left _
 ·unfold qy;rw[cf];exact⟨h.srt,e.sublist (cN k _),λx hx y c=>h.la x hx y (cB c)⟩
 ·rcases aH.mp hx with hx|hx
  ·exact h.la x hx y (Qn a i k c)
  ·exact e.take_drop k x hx y (by rw[ei];exact c)
 ·rcases aH.mp hx with hx|hx
  ·exact h.lb x hx y c
  ·exact d x hx y c
def Mg.addB(h:Mg κ a b o i j)(f:qy κ b)(k:Nat)(d:∀y∈(b.drop j).take k,∀z∈a.drop i,Le κ y z):Mg κ a b (o++(b.drop j).take k) i (j+k):=by
 have e:qy κ (b.drop j):=f.sublist (c8 j b);refine⟨?_,?_,λx hx y c=>?_,λx hx y c=>?_⟩
 ·rw[nX];refine(h.perm.append_right _).trans ?_;rw[bg]
 ·unfold qy;rw[cf];exact⟨h.srt,e.sublist (cN k _),λx hx y c=>h.lb x hx y (cB c)⟩
 ·rcases aH.mp hx with hx|hx
  ·exact h.la x hx y c
  ·exact d x hx y c
 ·rcases aH.mp hx with hx|hx
  ·exact h.lb x hx y (Qn b j k c)
  ·exact e.take_drop k x hx y (by rw[ei];exact c)
def Mg.fin(h:Mg κ a b o i j)(d:qy κ a)(e:qy κ b)(f:∀x∈a.drop i,∀y∈b.drop j,Le κ x y):Out κ a b (o++a.drop i++b.drop j):=by
 refine⟨?_,?_⟩
 ·refine((h.perm.append_right _).append_right _).trans ?_
  conv=>rhs;rw[<- cz i a,<- cz j b]
  simp only[bg];refine fq _ ?_;rw[<- bg,<- bg];exact cL.append_right _
 ·unfold qy;rw[cf,cf];refine⟨⟨h.srt,d.sublist (c8 i a),h.la⟩,e.sublist (c8 j b),λx g y c=>?_⟩;rcases aH.mp g with h'|h'
  ·exact h.lb x h' y c
  ·exact f x h' y c
def Mg.fin'(h:Mg κ a b o i j)(c:qy κ a)(d:qy κ b)(e:∀y∈b.drop j,∀x∈a.drop i,Le κ y x):Out κ a b (o++b.drop j++a.drop i):=by have f:Mg κ b a o j i:=⟨h.perm.trans cL,h.srt,h.lb,h.la⟩;have:=f.fin d c e;exact⟨this.perm.trans cL,this.srt⟩
def zV{l:List a8}{i:Nat}{x:a8}(h:l[i]?=XV x):(l.drop i).take 1=[x]:=by obtain⟨c,rfl⟩:=aq.mp h;rw[dJ c];rfl
def Ca(h:qy κ l)(e:l[i]?=XV x):∀y∈l.drop i,Le κ x y:=by
 obtain⟨c,rfl⟩:=aq.mp e;intro y hy;rw[dJ c] at hy;have d:qy κ (l.drop i):=h.sublist (c8 i l);rw[dJ c] at d;rcases am.mp hy with rfl|hy
 ·exact Le.refl _
 ·exact(bK.mp d).1 y hy
end
structure oE(st i_:bV):Prop where
 kind:kindOf i_=kindOf st
 arr:Z6 i_=Z6 st
 pend:Z7 i_=Z7 st
 failed:failedOf i_=failedOf st
def oE.refl(st:bV):oE st st:=⟨rfl,rfl,rfl,rfl⟩
def oE.trans{a b c:bV}(h:oE a b)(g:oE b c):oE a c:=⟨g.kind.trans h.kind,g.arr.trans h.arr,g.pend.trans h.pend,g.failed.trans h.failed⟩
section
variable{prog:aM}{w:aV}{A:a7}{E:ae->af->Prop}{s:af}{κ:aW}{st:bV}{kd:KT}
def wj{a:Array a8}{i:Nat}(h:i<a.size):∃x,a[i]?=XV x/\a.toList[i]?=XV x:=⟨a[i],by simp[h],by simp[h]⟩
def Ou{M:iS}{f:bV->bV}{Q:PUnit->bV->Prop}(b:oE st (f st))(h:∀a,oE st a->Q ⟨⟩ a):wpS M A E s (modify f) Q st:=fA (h _ b)
def Gv(a:Array a8)(i:Nat):(a.extract i).toList=a.toList.drop i:=by simp only[lv,jQ];exact cE 'k'
def Jb(a:Array a8)(i k:Nat):(a.extract i (i+k)).toList=(a.toList.drop i).take k:=by simp
def NF{a b:List a8}{c:Array a8}{d e:Nat}{x:a8}(m:Mg κ a b c.toList d e)(g:qy κ a)(f:a[d]?=XV x)(h:∀z∈b.drop e,Le κ x z):Mg κ a b (c.push x).toList (d+1) e:=by have:=m.addA g 1 (by rw[zV f];intro y i;rw[cF.mp i];exact h);rw[zV f] at this;rw[eI];exact this
def Nw{a b:List a8}{c:Array a8}{d e:Nat}{x:a8}(m:Mg κ a b c.toList d e)(g:qy κ b)(f:b[e]?=XV x)(h:∀z∈a.drop d,Le κ x z):Mg κ a b (c.push x).toList d (e+1):=by have:=m.addB g 1 (by rw[zV f];intro y i;rw[cF.mp i];exact h);rw[zV f] at this;rw[eI];exact this
def Cc(C:vI prog w A s κ kd){left:Bool}{key:a8}{c:Array a8}{base n hint:Nat}{L:List a8}(B:(c.toList.drop base).take n=L)(D:kindOf st=kd)(F:tD κ key)(O:base+n<=c.size)(G:hint<n)(r:∀x∈L,tD κ x)(t:qy κ L)
  {Q:Option Nat->bV->Prop} (q:∀k,k<=n->(∀x∈L.take k,tL κ left key x=YP)->(∀x∈L.drop k,tL κ left key x=Y1)->Q (XV k) st):wpS (aw prog w) A E s ((oV.g oW) left key c base n hint) Q st:=by
 have H:L.length=n:=by
  rw[<- B,bZ,cr,aA];lia
 have l:∀i,i<n->∃x,c[base+i]?=XV x/\L[i]?=XV x:=λi d=>by
  obtain⟨x,u,f⟩:=wj (a:=c) (i:=base+i) 'd';refine⟨x,u,?_⟩;rw[<- B,fK d,List.getElem?_drop];exact f
 refine Y8 C (b:=λi=>match L[i]? with|some x=>tL κ left key x|none=>Y1) D F (λi d=>?_) G (λi j P I e=>?_) λk J K M=>q k J (λx m=>?_) λx m=>?_
 ·obtain⟨x,u,f⟩:=l i d;exact⟨x,u,r x (aN f),by rw[f]⟩
 ·obtain⟨x,_,m⟩:=l i 'd';obtain⟨y,_,p⟩:=l j I;rw[p] at e;rw[m]
  replace e:tL κ left key y=YP:=e
  show tL κ left key x=YP;by_cases h:i=j
  ·subst h;rw[m] at p;cases p;exact e
  have o:Le κ x y:=by
   obtain⟨v,rfl⟩:=aq.mp m;obtain⟨z,rfl⟩:=aq.mp p;exact fB.mp t i j v z 'd'
  unfold tL at e ⊢;cases left with
  | true=>
   rw[Y2 rfl] at e ⊢;rcases κ.negTrans _ (ky κ x) _ e with h|h
   ·rw[show κ.blt (ky κ y) (ky κ x)=Y1 from o] at h;cases h
   ·exact h
  | false=>
   rw[Z5 'u'] at e ⊢;have N:Le κ y key:=by unfold Le;simpa using e
   have:Le κ x key:=o.trans N;unfold Le at this;rw[this];rfl
 ·obtain⟨i,d,e⟩:=lP m;have v:i<k:=by rw[bZ] at d;lia
  have:=K i v;have f:L[i]?=XV x:=by rw[<- e,mI];exact ay (by rw[bZ] at d;lia)
  rw[f] at this;exact this
 ·obtain⟨i,d,e⟩:=lP m;rw[cr] at d;have:=M (k+i) 'd' 'd';have f:L[k+i]?=XV x:=by rw[<- e,mJ];exact ay 'd'
  rw[f] at this;exact this
def Nf{α:Type}{G:Prop}(P:α->Prop)(h:(∀x,P x)->G)(k:∀x,P x):G:=h k
def IE{α a:Type}{G:Prop}{H:α->a->Prop}(P:α->a->Prop)(h:(∀x y,H x y->P x y)->G)(k:∀x y,H x y->P x y):G:=h k
def Xg(ho:vI prog w A s κ kd){a b:Array a8}(hk:kindOf st=kd)(ha:∀x∈a.toList,tD κ x)(hb:∀x∈b.toList,tD κ x)(U:qy κ a.toList)(R:qy κ b.toList)(pa:1<=a.size)(pb:1<=b.size)
  (h0:∀x∈b.toList.take 1,∀y∈a.toList,Le κ x y) (hl:∀y∈b.toList,∀x∈a.toList.drop (a.size-1),Le κ y x) {Q:Array a8->bV->Prop} (q:∀r D,oE st D->Out κ a.toList b.toList r.toList->Q r D):wpS (aw prog w) A E s ((oV.lo oW) a b) Q st:=by
 have K6:a.toList.length=a.size:=aA;have K5:b.toList.length=b.size:=aA;have sO:∀{l:Array a8}{d f:Nat},Mg κ a.toList b.toList l.toList d f->(f=b.size\/d=a.size)->Out κ a.toList b.toList (l++a.extract d++b.extract f).toList:=λ{l d f}m h=>by
  rw[bR,bR,Gv,Gv];refine m.fin U R λx n y N=>?_;rcases h with rfl|rfl
  ·rw[fc 'd'] at N;cases N
  ·rw[fc 'd'] at n;cases n
 have oF:∀{l:Array a8}{d f:Nat},Mg κ a.toList b.toList l.toList d f->d+1=a.size->Out κ a.toList b.toList (l++b.extract f++a.extract d).toList:=λ{l d f}m h=>by
  rw[bR,bR,Gv,Gv];refine m.fin' U R λy N x n=>hl y (cV N) x ?_;have:a.size-1=d:=by lia
  rw[this];exact n
 obtain⟨b0,g0,l0⟩:=wj (a:=b) (i:=0) 'd';have m0:Mg κ a.toList b.toList (#[b0]:Array a8).toList 0 1:=by
  have e:b.toList.take 1=[b0]:=by
   have:=zV l0;simpa using this
  refine⟨by rw[e];exact eo _,ki _ _,λx n y N=>h0 x (by rw[e];exact n) y N,λx n y N=>?_⟩;have:x=b0:=by simpa using n
  subst this;exact Ca R l0 y (cV N)
 show wpS _ _ _ _ (_ >>= _) Q st;refine aC (jg (dG ⟨rfl,aC (sS g0 ?_)⟩));by_cases c1:1=b.size
 ·show wpS _ _ _ _ (if (1==b.size)=YP then _ else _) Q st;rw[Y2 (by simpa using c1)];exact aI (q _ st (oE.refl st) (sO m0 (.inl c1)))
 show wpS _ _ _ _ (if (1==b.size)=YP then _ else _) Q st;rw[Z5 (by simpa using c1)];by_cases c2:1=a.size
 ·show wpS _ _ _ _ (if (0+1==a.size)=YP then _ else _) Q st;rw[Y2 (by simpa using c2)];exact aI (q _ st (oE.refl st) (oF m0 'd'))
 show wpS _ _ _ _ (if (0+1==a.size)=YP then _ else _) Q st;rw[Z5 (by simpa using c2)];refine aC (gE (aC (dr (cJ (I:=λk c D=>oE st D/\∃l d f G,c=(X9,l,d,f,G)/\Mg κ a.toList b.toList l.toList d f/\d+1<a.size/\f<b.size/\k+1<=l.size) (Q:=λc D=>oE st D/\∃r,c.1=XV r/\Out κ a.toList b.toList r.toList) ?_ ?_ ?_) ?_)))
 ·rintro k c qN _ hkt ⟨sm,l,d,f,G,rfl,m,J,F,c5⟩;have wF:kindOf qN=kd:=sm.kind.trans hk;refine aC (dr (cJ (I:=λj c D=>D=qN/\∃o d f t v,c=(X9,o,d,f,t,v)/\Mg κ a.toList b.toList o.toList d f/\d+1<a.size/\f<b.size/\l.size+j<=o.size) (Q:=λc D=>D=qN/\((∃r,c.1=XV r/\Out κ a.toList b.toList r.toList) \/ ∃o d f t v,c=(X9,o,d,f,t,v)/\Mg κ a.toList b.toList o.toList d f/\d+1<a.size/\f<b.size/\l.size+1<=o.size)) ?_ ?_ ?_) ?_)
  ·rintro j c qu _ LO ⟨rfl,o,d,f,t,v,rfl,m,J,F,c6⟩;obtain⟨y,gy,X⟩:=wj (a:=b) F;obtain⟨x,gx,S⟩:=wj (a:=a) (i:=d) 'd';refine aC (sS gy (aC (sS gx (aC (C6 ho wF (hb y (aN X)) (ha x (aN S)) ?_)))));cases hc:κ.blt (ky κ y) (ky κ x) with
   | true=>
    have Y:=Nw m R X λz K=>(Le.of hc).trans (Ca U S z K);refine aC (sS gy ?_);show wpS _ _ _ _ (if (f+1==b.size)=YP then _ else _) _ qu;by_cases e:f+1=b.size
    ·rw[Y2 (by simpa using e)];exact aI ⟨rfl,.inl ⟨_,rfl,sO Y (.inl e)⟩⟩
    ·rw[Z5 (by simpa using e)];split
     ·exact aI ⟨rfl,.inr ⟨o.push y,d,f+1,0,v+1,rfl,Y,J,by lia,by rw[cn];lia⟩⟩
     ·exact aI ⟨rfl,o.push y,d,f+1,0,v+1,rfl,Y,J,by lia,by rw[cn];lia⟩
   | false=>
    have Y:=NF m U S λz K=>Le.trans (show Le κ x y from hc) (Ca R X z K);refine aC (sS gx ?_);show wpS _ _ _ _ (if (d+1+1==a.size)=YP then _ else _) _ qu;by_cases e:d+1+1=a.size
    ·rw[Y2 (by simpa using e)];exact aI ⟨rfl,.inl ⟨_,rfl,oF Y e⟩⟩
    ·rw[Z5 (by simpa using e)];split
     ·exact aI ⟨rfl,.inr ⟨o.push x,d+1,f,t+1,0,rfl,Y,by lia,F,by rw[cn];lia⟩⟩
     ·exact aI ⟨rfl,o.push x,d+1,f,t+1,0,rfl,Y,by lia,F,by rw[cn];lia⟩
  ·rintro c qu ⟨rfl,o,d,f,t,v,rfl,m,J,F,c6⟩;have:=m.len 'd' 'd';rw[aA] at this;rw[dL] at c6;lia
  ·exact⟨rfl,l,d,f,0,0,rfl,m,J,F,by lia⟩
  rintro c qu ⟨rfl,h⟩;rcases h with⟨r,e,hr⟩|⟨o,d,f,t,v,rfl,m,J,F,c6⟩
  ·obtain⟨c,c'⟩:=c;dsimp only at e;subst e;exact aI ⟨sm,r,rfl,hr⟩
  refine aC (jg (dG ⟨rfl,aC (dr (cJ (I:=λj c D=>oE st D/\∃B d f G t v,c=(X9,B,d,f,G,t,v)/\Mg κ a.toList b.toList B.toList d f/\d+1<a.size/\f<b.size/\o.size+j<=B.size) (Q:=λc D=>oE st D/\((∃r,c.1=XV r/\Out κ a.toList b.toList r.toList) \/ ∃B d f G t v,c=(X9,B,d,f,G,t,v)/\Mg κ a.toList b.toList B.toList d f/\d+1<a.size/\f<b.size/\o.size<=B.size)) ?_ ?_ ?_) ?_)⟩))
  ·rintro j c qj _ LO ⟨T,B,d,f,G,t,v,rfl,m,J,F,c6⟩;obtain⟨y,gy,X⟩:=wj (a:=b) F;have N:=hb y (aN X);have Bt:∀M,oE st M->∀{Q:Option Nat->bV->Prop},(∀k,k<=a.size-d->(∀x∈(a.toList.drop d).take k,Le κ x y)->(∀x∈a.toList.drop (d+k),Le κ y x)->Q (XV k) M)->wpS (aw prog w) A E s ((oV.g oW) Y1 y a d (a.size-d) 0) Q M:=λM s4 Q h=>
    Cc ho (L:=a.toList.drop d) (cE (by rw[cr];lia)) (s4.kind.trans hk) N 'd' 'd' (λx n=>ha x (cV n)) (U.sublist (c8 d _)) λk h1 h2 h3=>h k h1 (λx n=>by
     have:=h2 x n;unfold tL at this;rw[Z5 'u'] at this;unfold Le;simpa using this) λx n=>by
     rw[<- ei] at n;have:=h3 x n;unfold tL at this;rw[Z5 'u'] at this;exact Le.of (by simpa using this)
   have Br:∀x{C:Nat},a.toList[C]?=XV x->∀M,oE st M->f+1<b.size->∀{Q:Option Nat->bV->Prop},(∀k,k<=b.size-(f+1)->(∀z∈(b.toList.drop (f+1)).take k,Le κ z x)->(∀z∈b.toList.drop (f+1+k),Le κ x z)->Q (XV k) M)->wpS (aw prog w) A E s ((oV.g oW) YP x b (f+1) (b.size-(f+1)) 0) Q M:=λx C S M s4 h4 Q h=>
    Cc ho (L:=b.toList.drop (f+1)) (cE (by rw[cr];lia)) (s4.kind.trans hk) (ha x (aN S)) 'd' 'd' (λx n=>hb x (cV n)) (R.sublist (c8 _ _)) λk h1 h2 h3=>h k h1 (λz K=>by
     have:=h2 z K;unfold tL at this;rw[Y2 rfl] at this;exact Le.of this) λz K=>by
     rw[<- ei] at K;have:=h3 z K;unfold tL at this;rw[Y2 rfl] at this;exact this
   show wpS _ _ _ _ (if G>1 then _ else _) _ qj;apply Nf (α:=Nat)
   ·intro p;split
    ·generalize G-1=Ey;exact p Ey
    ·exact p G
   intro Ey;refine aC (Ou ⟨rfl,rfl,rfl,rfl⟩ λM s4=>aC (sS gy (aC (Bt M (T.trans s4) ?_))));have V:=T.trans s4;intro k xV kt kf;have m3:=m.addA U k λx n z K=>(kt x n).trans (Ca R X z K);rw[<- Jb,<- bR] at m3;have n3:B.size<=(B++a.extract d (d+k)).size:=by rw[gc];lia
   show wpS _ _ _ _ (if k>0 then _ else _) _ _;apply IE (H:=λ(O:Array a8)(C:Nat)=>Mg κ a.toList b.toList O.toList C f/\B.size<=O.size/\C+1<a.size/\∀x∈a.toList.drop C,Le κ y x)
   ·intro p;by_cases wG:k>0
    ·rw[Y2 wG];show wpS _ _ _ _ (if (d+k+1==a.size)=YP then _ else _) _ _;by_cases e1:d+k+1=a.size
     ·rw[Y2 (by simpa using e1)];exact aI ⟨V,.inl ⟨_,rfl,oF m3 e1⟩⟩
     ·rw[Z5 (by simpa using e1)];show wpS _ _ _ _ (if (d+k==a.size)=YP then _ else _) _ _;by_cases e2:d+k=a.size
      ·rw[Y2 (by simpa using e2)];exact aI ⟨V,.inl ⟨_,rfl,sO m3 (.inr e2)⟩⟩
      ·rw[Z5 (by simpa using e2)];have Z:=fg m3 (fg n3 (fg (show d+k+1<a.size by lia) kf));generalize B++a.extract d (d+k)=O at Z ⊢;generalize d+k=C at Z ⊢;exact p O C Z
    ·rw[Z5 wG];have vG:k=0:=by lia
     rw[vG,mi] at kf;exact p B d ⟨m,aD _,J,kf⟩
   rintro O C ⟨m3,n3,f3,A7⟩;have m4:=Nw m3 R X A7;refine aC (sS gy ?_);show wpS _ _ _ _ (if (f+1==b.size)=YP then _ else _) _ _;by_cases e3:f+1=b.size
   ·rw[Y2 (by simpa using e3)];exact aI ⟨V,.inl ⟨_,rfl,sO m4 (.inl e3)⟩⟩
   ·rw[Z5 (by simpa using e3)];obtain⟨x,gx,S⟩:=wj (a:=a) (i:=C) 'd';refine aC (sS gx (aC (Br x S _ V 'd' ?_)));intro P tK K8 Ah;have m5:=m4.addB R P λz K u hu=>(K8 z K).trans (Ca U S u hu);rw[<- Jb,<- bR] at m5;have n5:O.size+1<=(O.push y++b.extract (f+1) (f+1+P)).size:=by rw[gc,cn];lia
    show wpS _ _ _ _ (if P>0 then _ else _) _ _;apply IE (H:=λ(vA:Array a8)(W:Nat)=>Mg κ a.toList b.toList vA.toList C W/\O.size+1<=vA.size/\W<b.size/\∀z∈b.toList.drop W,Le κ x z)
    ·intro p;by_cases wG:P>0
     ·rw[Y2 wG];show wpS _ _ _ _ (if (f+1+P==b.size)=YP then _ else _) _ _;by_cases e4:f+1+P=b.size
      ·rw[Y2 (by simpa using e4)];exact aI ⟨V,.inl ⟨_,rfl,sO m5 (.inl e4)⟩⟩
      ·rw[Z5 (by simpa using e4)];have Z:=fg m5 (fg n5 (fg (show f+1+P<b.size by lia) Ah));generalize O.push y++b.extract (f+1) (f+1+P)=vA at Z ⊢;generalize f+1+P=W at Z ⊢;exact p vA W Z
     ·rw[Z5 wG];have vG:P=0:=by lia
      rw[vG,mi] at Ah;exact p (O.push y) (f+1) ⟨m4,by rw[cn];exact aD _,by lia,Ah⟩
    rintro vA W ⟨m5,n5,f5,Ah⟩;have m6:=NF m5 U S Ah;refine aC (sS gx ?_);show wpS _ _ _ _ (if (C+1+1==a.size)=YP then _ else _) _ _;by_cases e5:C+1+1=a.size
    ·rw[Y2 (by simpa using e5)];exact aI ⟨V,.inl ⟨_,rfl,oF m6 e5⟩⟩
    ·rw[Z5 (by simpa using e5)];split
     ·exact aI ⟨V,.inr ⟨vA.push x,C+1,W,_,_,_,rfl,m6,by lia,f5,by rw[cn];lia⟩⟩
     ·exact aI ⟨V,vA.push x,C+1,W,_,_,_,rfl,m6,by lia,f5,by rw[cn];lia⟩
  ·rintro c qj ⟨T,B,d,f,G,t,v,rfl,m,J,F,c6⟩;have:=m.len 'd' 'd';rw[aA] at this;rw[dL] at c6;lia
  ·exact⟨sm,o,d,f,_,t,v,rfl,m,J,F,by lia⟩
  rintro c qj ⟨T,h⟩;rcases h with⟨r,e,hr⟩|⟨B,d,f,G,t,v,rfl,m,J,F,c7⟩
  ·obtain⟨c,c'⟩:=c;dsimp only at e;subst e;exact aI ⟨T,r,rfl,hr⟩
  ·exact aC (fA (aI ⟨⟨T.kind,T.arr,T.pend,T.failed⟩,B,d,f,_,rfl,m,J,F,by lia⟩))
 ·rintro c qN ⟨sm,l,d,f,G,rfl,m,J,F,c5⟩;have:=m.len 'd' 'd';rw[aA] at this;rw[dL] at c5;lia
 ·exact⟨oE.refl st,#[b0],0,1,_,rfl,m0,by lia,by lia,by simp⟩
 ·rintro⟨c,c'⟩ qN ⟨sm,r,e,hr⟩;dsimp only at e;subst e;exact aI (q r qN sm hr)
end
section
variable{κ:aW}
structure Mh(κ:aW)(a b o:List a8)(i j:Nat):Prop where
 perm:o.Perm (a.drop i++b.drop j)
 srt:qy κ o.reverse
 la:∀x∈a.take i,∀y∈o,Le κ x y
 lb:∀x∈b.take j,∀y∈o,Le κ x y
variable{a b o:List a8}{i j:Nat}
def Mh.len(h:Mh κ a b o i j):o.length=(a.length-i)+(b.length-j):=by rw[h.perm.length_eq,az,cr,cr]
def Xu{α:Type}{l:List α}{i k:Nat}(h:k<=i){x:α}(c:x∈l.take k):x∈l.take i:=by
 have:l.take k=(l.take i).take k:=by rw[gg,fZ h]
 rw[this] at c;exact cB c
def zeE{α:Type}(l:List α)(h:k<=i):l.drop k=(l.take i).drop k++l.drop i:=by
 by_cases c:i<=l.length
 ·conv=>lhs;rw[<- cz i l]
  rw[eM (by rw[bZ];lia)]
 ·rw[cE 'd',fc (i:=i) 'd',bP]
def qy.mid(h:qy κ l)(d:k<=i):∀x∈l.take k,∀y∈(l.take i).drop k,Le κ x y:=by
 have e:qy κ (l.take i):=h.sublist (cN i l);intro x c y f;have:l.take k=(l.take i).take k:=by rw[gg,fZ d]
 rw[this] at c;exact e.take_drop k x c y f
def Mh.addA(h:Mh κ a b o i j)(f:qy κ a){k:Nat}(d:k<=i)(e:∀z∈b.take j,∀y∈(a.take i).drop k,Le κ z y):Mh κ a b (o++((a.take i).drop k).reverse) k j:=by
 refine⟨?_,?_,λx c y hy=>?_,λx c y hy=>?_⟩
 ·rw[zeE a d];refine(h.perm.append (mK _)).trans ?_;rw[bg];refine cL.trans ?_;rw[bg];exact cL
 ·rw[List.reverse_append,List.reverse_reverse];unfold qy;rw[cf];exact⟨(f.sublist (cN i a)).sublist (c8 k _),h.srt,λx c y hy=>h.la x (cV c) y (gm.mp hy)⟩
 ·rcases aH.mp hy with hy|hy
  ·exact h.la x (Xu d c) y hy
  ·exact f.mid d x c y (gm.mp hy)
 ·rcases aH.mp hy with hy|hy
  ·exact h.lb x c y hy
  ·exact e x c y (gm.mp hy)
def Mh.swap(h:Mh κ a b o i j):Mh κ b a o j i:=⟨h.perm.trans cL,h.srt,h.lb,h.la⟩
def Mh.addB(h:Mh κ a b o i j)(d:qy κ b)(e:k<=j)(c:∀z∈a.take i,∀y∈(b.take j).drop k,Le κ z y):Mh κ a b (o++((b.take j).drop k).reverse) i k:=(h.swap.addA d e c).swap
def Mh.fin(h:Mh κ a b o i j)(d:qy κ a)(e:qy κ b)(f:∀x∈a.take i,∀y∈b.take j,Le κ x y):Out κ a b (a.take i++b.take j++o.reverse):=by
 refine⟨?_,?_⟩
 ·refine(((mK o).trans h.perm).append_left _).trans ?_
  conv=>rhs;rw[<- cz i a,<- cz j b]
  simp only[bg];refine fq _ ?_;rw[<- bg,<- bg];exact cL.append_right _
 ·unfold qy;rw[cf,cf];refine⟨⟨d.sublist (cN i a),e.sublist (cN j b),f⟩,h.srt,λx g y c=>?_⟩;rcases aH.mp g with h'|h'
  ·exact h.la x h' y (gm.mp c)
  ·exact h.lb x h' y (gm.mp c)
def Mh.fin'(h:Mh κ a b o i j)(c:qy κ a)(d:qy κ b)(e:∀y∈b.take j,∀x∈a.take i,Le κ y x):Out κ a b (b.take j++a.take i++o.reverse):=by have:=h.swap.fin d c e;exact⟨this.perm.trans cL,this.srt⟩
def DM{l:List a8}{i:Nat}{x:a8}(h:l[i]?=XV x):(l.take (i+1)).drop i=[x]:=by obtain⟨c,rfl⟩:=aq.mp h;rw[nQ,dR,dJ c];rfl
def Df{l:List a8}(h:qy κ l){i:Nat}{x:a8}(c:l[i]?=XV x):∀y∈l.take (i+1),Le κ y x:=by
 intro y hy;have e:=DM c;have:l.take (i+1)=l.take i++[x]:=by
  rw[jh,c];rfl
 rw[this] at hy;rcases aH.mp hy with hy|hy
 ·exact h.mid (dZ i) y hy x (by rw[e];simp)
 ·rw[cF.mp hy];exact Le.refl _
def Gp{c:Array a8}{x:a8}(m:Mh κ a b c.toList (i+1) j)(e:qy κ a)(d:a[i]?=XV x)(h:∀z∈b.take j,Le κ z x):Mh κ a b (c.push x).toList i j:=by have:=m.addA e (k:=i) 'd' (by rw[DM d];intro z f y g;rw[cF.mp g];exact h z f);rw[DM d] at this;rw[eI];exact this
def NJ{c:Array a8}{x:a8}(m:Mh κ a b c.toList i (j+1))(e:qy κ b)(d:b[j]?=XV x)(h:∀z∈a.take i,Le κ z x):Mh κ a b (c.push x).toList i j:=by have:=m.addB e (k:=j) 'd' (by rw[DM d];intro z f y g;rw[cF.mp g];exact h z f);rw[DM d] at this;rw[eI];exact this
def Gf(a:Array a8)(i:Nat):(a.extract 0 i).toList=a.toList.take i:=by simp
def Na(a:Array a8)(k i:Nat):((a.extract k i).reverse).toList=((a.toList.take i).drop k).reverse:=by simp[nQ]
end
section
variable{prog:aM}{w:aV}{A:a7}{E:ae->af->Prop}{s:af}{κ:aW}{st:bV}{kd:KT}
def GC{n:Nat}{o:Array a8}{x:a8}(h:n<=o.size):n+1<=(o.push x).size:=by rw[cn];lia
def Vw(ho:vI prog w A s κ kd){a b:Array a8}(hk:kindOf st=kd)(ha:∀x∈a.toList,tD κ x)(hb:∀x∈b.toList,tD κ x)(U:qy κ a.toList)(Y:qy κ b.toList)(pa:1<=a.size)(pb:1<=b.size)
  (h0:∀x∈b.toList.take 1,∀y∈a.toList,Le κ x y) (hl:∀y∈b.toList,∀x∈a.toList.drop (a.size-1),Le κ y x) {Q:Array a8->bV->Prop} (q:∀r D,oE st D->Out κ a.toList b.toList r.toList->Q r D):wpS (aw prog w) A E s ((oV.hi oW) a b) Q st:=by
 have K6:a.toList.length=a.size:=aA;have K5:b.toList.length=b.size:=aA;have sO:∀{l:Array a8}{d f:Nat},Mh κ a.toList b.toList l.toList d f->(d=0\/f=0)->Out κ a.toList b.toList (a.extract 0 d++b.extract 0 f++l.reverse).toList:=λ{l d f}m h=>by
  rw[bR,bR,Gf,Gf,lz];refine m.fin U Y λx P y W=>?_;rcases h with rfl|rfl
  ·cases P
  ·cases W
 have oF:∀{l:Array a8}{d f:Nat},Mh κ a.toList b.toList l.toList d f->f=1->Out κ a.toList b.toList (b.extract 0 f++a.extract 0 d++l.reverse).toList:=λ{l d f}m h=>by
  rw[bR,bR,Gf,Gf,lz];subst h;exact m.fin' U Y λy W x P=>h0 y W x (cB P)
 obtain⟨x0,g0,l0⟩:=wj (a:=a) (i:=a.size-1) 'd';have m0:Mh κ a.toList b.toList (#[x0]:Array a8).toList (a.size-1) b.size:=by
  have m00:Mh κ a.toList b.toList (#[]:Array a8).toList (a.size-1+1) b.size:=by
   refine⟨?_,eH,(λx _ y W=>nomatch W),(λx _ y W=>nomatch W)⟩;rw[fc 'd',fc 'd'];exact eo _
  exact Gp m00 U l0 λz F=>hl z (cB F) x0 (by
   have:=zV l0;exact cB (by rw[this];simp:x0∈(a.toList.drop (a.size-1)).take 1))
 show wpS _ _ _ _ (_ >>= _) Q st;refine aC (jg (dG ⟨rfl,aC (sS g0 ?_)⟩));show wpS _ _ _ _ (if (a.size-1==0)=YP then _ else _) Q st;by_cases c1:a.size-1=0
 ·rw[Y2 (by simpa using c1)];exact aI (q _ st (oE.refl st) (sO m0 (.inl c1)))
 rw[Z5 (by simpa using c1)];show wpS _ _ _ _ (if (b.size==1)=YP then _ else _) Q st;by_cases c2:b.size=1
 ·rw[Y2 (by simpa using c2)];exact aI (q _ st (oE.refl st) (oF m0 c2))
 rw[Z5 (by simpa using c2)];refine aC (gE (aC (dr (cJ (I:=λk c D=>oE st D/\∃d f l G,c=(X9,d,f,l,G)/\Mh κ a.toList b.toList l.toList d f/\1<=d/\d<=a.size/\2<=f/\f<=b.size/\k+1<=l.size) (Q:=λc D=>oE st D/\∃r,c.1=XV r/\Out κ a.toList b.toList r.toList) ?_ ?_ ?_) ?_)))
 ·rintro k c qN _ hkt ⟨sm,d,f,l,G,rfl,m,J,K,N,O,c5⟩;have wF:kindOf qN=kd:=sm.kind.trans hk;refine aC (dr (cJ (I:=λj c D=>D=qN/\∃d f o v B,c=(X9,d,f,o,v,B)/\Mh κ a.toList b.toList o.toList d f/\1<=d/\d<=a.size/\2<=f/\f<=b.size/\l.size+j<=o.size) (Q:=λc D=>D=qN/\((∃r,c.1=XV r/\Out κ a.toList b.toList r.toList) \/ ∃d f o v B,c=(X9,d,f,o,v,B)/\Mh κ a.toList b.toList o.toList d f/\1<=d/\d<=a.size/\2<=f/\f<=b.size/\l.size+1<=o.size)) ?_ ?_ ?_) ?_)
  ·rintro j c qu _ LO ⟨rfl,d,f,o,v,B,rfl,m,J,K,N,O,c6⟩;obtain⟨p,rfl⟩:∃p,d=p+1:=⟨d-1,by lia⟩;obtain⟨r,rfl⟩:∃r,f=r+1:=⟨f-1,by lia⟩;obtain⟨y,gy,Z⟩:=wj (a:=b) (i:=r) 'd';obtain⟨x,gx,V⟩:=wj (a:=a) (i:=p) 'd';refine aC (sS gy (aC (sS gx (aC (C6 ho wF (hb y (aN Z)) (ha x (aN V)) ?_)))));cases hc:κ.blt (ky κ y) (ky κ x) with
   | true=>
    have m':=Gp m U V λz F=>(Df Y Z z F).trans (Le.of hc);refine aC (sS gx ?_);show wpS _ _ _ _ (if (p==0)=YP then _ else _) _ qu;by_cases e:p=0
    ·rw[Y2 (by simpa using e)];exact aI ⟨rfl,.inl ⟨_,rfl,sO m' (.inl e)⟩⟩
    ·rw[Z5 (by simpa using e)];split
     ·exact aI ⟨rfl,.inr ⟨p,r+1,o.push x,v+1,0,rfl,m',by lia,by lia,N,O,by rw[cn];lia⟩⟩
     ·exact aI ⟨rfl,p,r+1,o.push x,v+1,0,rfl,m',by lia,by lia,N,O,by rw[cn];lia⟩
   | false=>
    have m':=NJ m Y Z λz F=>(Df U V z F).trans (show Le κ x y from hc);refine aC (sS gy ?_);show wpS _ _ _ _ (if (r==1)=YP then _ else _) _ qu;by_cases e:r=1
    ·rw[Y2 (by simpa using e)];exact aI ⟨rfl,.inl ⟨_,rfl,oF m' e⟩⟩
    ·rw[Z5 (by simpa using e)];split
     ·exact aI ⟨rfl,.inr ⟨p+1,r,o.push y,0,B+1,rfl,m',J,K,by lia,by lia,by rw[cn];lia⟩⟩
     ·exact aI ⟨rfl,p+1,r,o.push y,0,B+1,rfl,m',J,K,by lia,by lia,by rw[cn];lia⟩
  ·rintro c qu ⟨rfl,d,f,o,v,B,rfl,m,J,K,N,O,c6⟩;have:=m.len;rw[aA] at this;rw[dL] at c6;lia
  ·exact⟨rfl,d,f,l,0,0,rfl,m,J,K,N,O,by lia⟩
  rintro c qu ⟨rfl,h⟩;rcases h with⟨r,e,hr⟩|⟨d,f,o,v,B,rfl,m,J,K,N,O,c6⟩
  ·obtain⟨c,c'⟩:=c;dsimp only at e;subst e;exact aI ⟨sm,r,rfl,hr⟩
  refine aC (jg (dG ⟨rfl,aC (dr (cJ (I:=λj c D=>oE st D/\∃d f C G v B,c=(X9,d,f,C,G,v,B)/\Mh κ a.toList b.toList C.toList d f/\1<=d/\d<=a.size/\2<=f/\f<=b.size/\o.size+j<=C.size) (Q:=λc D=>oE st D/\((∃r,c.1=XV r/\Out κ a.toList b.toList r.toList) \/ ∃d f C G v B,c=(X9,d,f,C,G,v,B)/\Mh κ a.toList b.toList C.toList d f/\1<=d/\d<=a.size/\2<=f/\f<=b.size/\o.size<=C.size)) ?_ ?_ ?_) ?_)⟩))
  ·rintro j c qj _ LO ⟨X,d,f,C,G,v,B,rfl,m,J,K,N,O,c6⟩;obtain⟨r,rfl⟩:∃r,f=r+1:=⟨f-1,by lia⟩;obtain⟨y,gy,Z⟩:=wj (a:=b) (i:=r) 'd';have W:=hb y (aN Z);have Bt:∀R,oE st R->∀{Q:Option Nat->bV->Prop},(∀k,k<=d->(∀x∈a.toList.take k,Le κ x y)->(∀x∈(a.toList.take d).drop k,Le κ y x)->Q (XV k) R)->wpS (aw prog w) A E s ((oV.g oW) Y1 y a 0 d (d-1)) Q R:=λR s4 Q h=>
    Cc ho (L:=a.toList.take d) (by rw[k8]) (s4.kind.trans hk) W 'd' 'd' (λx P=>ha x (cB P)) (U.sublist (cN d _)) λk h1 h2 h3=>h k h1 (λx P=>by
     have:=h2 x (by rw[gg,fZ h1];exact P);unfold tL at this;rw[Z5 'u'] at this;unfold Le;simpa using this) λx P=>by
     have:=h3 x P;unfold tL at this;rw[Z5 'u'] at this;exact Le.of (by simpa using this)
   have Br:∀x{n:Nat},a.toList[n]?=XV x->∀R,oE st R->1<=r->∀{Q:Option Nat->bV->Prop},(∀k,k<=r->(∀z∈(b.toList.take r).drop k,Le κ x z)->(∀z∈b.toList.take k,Le κ z x)->Q (XV k) R)->wpS (aw prog w) A E s ((oV.g oW) YP x b 0 r (r-1)) Q R:=λx n V R s4 h4 Q h=>
    Cc ho (L:=b.toList.take r) (by rw[k8]) (s4.kind.trans hk) (ha x (aN V)) 'd' 'd' (λx P=>hb x (cB P)) (Y.sublist (cN _ _)) λk h1 h2 h3=>h k h1 (λz F=>by
     have:=h3 z F;unfold tL at this;rw[Y2 rfl] at this;exact this) λz F=>by
     have:=h2 z (by rw[gg,fZ h1];exact F);unfold tL at this;rw[Y2 rfl] at this;exact Le.of this
   show wpS _ _ _ _ (if G>1 then _ else _) _ qj;apply Nf (α:=Nat)
   ·intro S;split
    ·generalize G-1=Ey;exact S Ey
    ·exact S G
   intro Ey;refine aC (Ou ⟨rfl,rfl,rfl,rfl⟩ λR s4=>aC (sS gy (aC (Bt R (X.trans s4) ?_))));have T:=X.trans s4;intro k xV A7 kt;have m3:=m.addA U xV λz F u hu=>(Df Y Z z F).trans (kt u hu);rw[<- Na,<- bR] at m3;have n3:C.size<=(C++(a.extract k d).reverse).size:=by rw[gc];lia
   show wpS _ _ _ _ (if d-k>0 then _ else _) _ _;apply IE (H:=λ(M:Array a8)(A5:Nat)=>Mh κ a.toList b.toList M.toList A5 (r+1)/\C.size<=M.size/\1<=A5/\A5<=a.size/\∀x∈a.toList.take A5,Le κ x y)
   ·intro S;by_cases wG:d-k>0
    ·rw[Y2 wG];show wpS _ _ _ _ (if (k==0)=YP then _ else _) _ _;by_cases e1:k=0
     ·rw[Y2 (by simpa using e1)];exact aI ⟨T,.inl ⟨_,rfl,sO m3 (.inl e1)⟩⟩
     ·rw[Z5 (by simpa using e1)];have hh:=fg m3 (fg n3 (fg (show 1<=k by lia) (fg (show k<=a.size by lia) A7)));generalize C++(a.extract k d).reverse=M at hh ⊢;generalize k=q3 at hh ⊢;exact S M q3 hh
    ·rw[Z5 wG];have vG:k=d:=by lia
     rw[vG] at A7 ⊢;exact S C d ⟨m,aD _,J,K,A7⟩
   rintro M A5 ⟨m3,n3,f3,f3',A7⟩;have m4:=NJ m3 Y Z A7;refine aC (sS gy ?_);show wpS _ _ _ _ (if (r==1)=YP then _ else _) _ _;by_cases e3:r=1
   ·rw[Y2 (by simpa using e3)];exact aI ⟨T,.inl ⟨_,rfl,oF m4 e3⟩⟩
   ·rw[Z5 (by simpa using e3)];obtain⟨n,rfl⟩:∃n,A5=n+1:=⟨A5-1,by lia⟩;obtain⟨x,gx,V⟩:=wj (a:=a) (i:=n) 'd';refine aC (sS gx (aC (Br x V _ T 'd' ?_)));intro t tK K8 Ah;have m5:=m4.addB Y tK λz F u hu=>(Df U V z F).trans (K8 u hu);rw[<- Na,<- bR] at m5;have n5:M.size+1<=(M.push y++(b.extract t r).reverse).size:=by rw[gc,cn];lia
    by_cases wG:r-t>0
    ·show wpS _ _ _ _ (if r-t>0 then _ else _) _ _;rw[Y2 wG];show wpS _ _ _ _ (if (t==1)=YP then _ else _) _ _;by_cases e4:t=1
     ·rw[Y2 (by simpa using e4)];exact aI ⟨T,.inl ⟨_,rfl,oF m5 e4⟩⟩
     ·rw[Z5 (by simpa using e4)];show wpS _ _ _ _ (if (t==0)=YP then _ else _) _ _;by_cases e6:t=0
      ·rw[Y2 (by simpa using e6)];exact aI ⟨T,.inl ⟨_,rfl,sO m5 (.inr e6)⟩⟩
      ·rw[Z5 (by simpa using e6)];have f5:2<=t:=by lia
       have m6:=Gp m5 U V Ah;refine aC (sS gx ?_);show wpS _ _ _ _ (if (n==0)=YP then _ else _) _ _;by_cases e5:n=0
       ·rw[Y2 (by simpa using e5)];exact aI ⟨T,.inl ⟨_,rfl,sO m6 (.inl e5)⟩⟩
       ·rw[Z5 (by simpa using e5)];split
        ·exact aI ⟨T,.inr ⟨n,t,_,_,_,_,rfl,m6,(by lia:1<=n),(by lia:n<=a.size),f5,(by lia:t<=b.size),aE (by lia:o.size<=M.size+1+1) (GC n5)⟩⟩
        ·exact aI ⟨T,n,t,_,_,_,_,rfl,m6,(by lia:1<=n),(by lia:n<=a.size),f5,(by lia:t<=b.size),aE (by lia:o.size+(j+1)<=M.size+1+1) (GC n5)⟩
    ·have vG:t=r:=by lia
     subst vG;show wpS _ _ _ _ (if t-t>0 then _ else _) _ _;rw[Z5 wG];have f5:2<=t:=by lia
     replace m5:=m4
     replace n5:M.size+1<=(M.push y).size:=by rw[cn];exact aD _
     have m6:=Gp m5 U V Ah;refine aC (sS gx ?_);show wpS _ _ _ _ (if (n==0)=YP then _ else _) _ _;by_cases e5:n=0
     ·rw[Y2 (by simpa using e5)];exact aI ⟨T,.inl ⟨_,rfl,sO m6 (.inl e5)⟩⟩
     ·rw[Z5 (by simpa using e5)];split
      ·exact aI ⟨T,.inr ⟨n,t,_,_,_,_,rfl,m6,(by lia:1<=n),(by lia:n<=a.size),f5,(by lia:t<=b.size),aE (by lia:o.size<=M.size+1+1) (GC n5)⟩⟩
      ·exact aI ⟨T,n,t,_,_,_,_,rfl,m6,(by lia:1<=n),(by lia:n<=a.size),f5,(by lia:t<=b.size),aE (by lia:o.size+(j+1)<=M.size+1+1) (GC n5)⟩
  ·rintro c qj ⟨X,d,f,C,G,v,B,rfl,m,J,K,N,O,c6⟩;have:=m.len;rw[aA] at this;rw[dL] at c6;lia
  ·exact⟨sm,d,f,o,_,v,B,rfl,m,J,K,N,O,by lia⟩
  rintro c qj ⟨X,h⟩;rcases h with⟨r,e,hr⟩|⟨d,f,C,G,v,B,rfl,m,J,K,N,O,c7⟩
  ·obtain⟨c,c'⟩:=c;dsimp only at e;subst e;exact aI ⟨X,r,rfl,hr⟩
  ·exact aC (fA (aI ⟨⟨X.kind,X.arr,X.pend,X.failed⟩,d,f,C,_,rfl,m,J,K,N,O,by lia⟩))
 ·rintro c qN ⟨sm,d,f,l,G,rfl,m,J,K,N,O,c5⟩;have:=m.len;rw[aA] at this;rw[dL] at c5;lia
 ·exact⟨oE.refl st,a.size-1,b.size,#[x0],_,rfl,m0,by lia,by lia,by lia,by lia,by simp⟩
 ·rintro⟨c,c'⟩ qN ⟨sm,r,e,hr⟩;dsimp only at e;subst e;exact aI (q r qN sm hr)
end
theorem N1(p:Nat):∀(m:List a8)(j:Nat)(xs:Array a8),p+j+m.length<=xs.size->((m.zipIdx j).foldl (λa x=>a.setIfInBounds (p+x.2) x.1) xs).toList=xs.toList.take (p+j)++m++xs.toList.drop (p+j+m.length)
 |[],j,xs,_=>by simp
 | x::m,j,xs,h=>by
  rw[aO] at h;rw[m7,eF,N1 p m (j+1) _ (by rw[jX];lia),jA,<- lK];have b:p+j<xs.toList.length:=by rw[aA];lia
  have c:(xs.toList.set (p+j) x).take (p+j+1)=xs.toList.take (p+j)++[x]:=by
   rw[jh,bA b,List.take_set_of_le (aD _)];rfl
  rw[c,List.drop_set_of_lt 'd',aO,bg,bg,bg];have:p+j+1+m.length=p+j+(m.length+1):=by lia
  rw[this];rfl
def ZE(h:p+m.length<=xs.size):(lay xs p m).toList=xs.toList.take p++m++xs.toList.drop (p+m.length):=N1 p m 0 xs h
section
variable{prog:aM}{w:aV}{A:a7}{E:ae->af->Prop}{s:af}{κ:aW}{st:bV}{kd:KT}
def WD(I:vI prog w A s κ kd)(t:kindOf st=kd)(N:failedOf st=X9)(d:(Z6 st).toList=P++(X++(Y++R)))(h1:(Z7 st)[i]?=XV (P.length,X.length,pw))(h2:(Z7 st)[i+1]?=XV (P.length+X.length,Y.length,HD))
  (J:1<=X.length) (O:1<=Y.length) (C:qy κ X) (D:qy κ Y) (F:∀x∈X++Y,tD κ x) {Q:Bool->bV->Prop}
  (q:∀b M,kindOf b=kd->failedOf b=X9->Z7 b=((Z7 st).setIfInBounds i (P.length,X.length+Y.length,pw)).eraseIdxIfInBounds (i+1)->(Z6 b).toList=P++(M++R)->M.Perm (X++Y)->qy κ M->Q YP b):wpS (aw prog w) A E s (mergeAt' i) Q st:=by
 have G:(Z6 st).size=P.length+(X.length+(Y.length+R.length)):=by
  rw[<- aA,d];simp
 have S:∀x∈X,tD κ x:=λx h=>F x (bB _ h);have T:∀x∈Y,tD κ x:=λx h=>F x (av _ h);have f:∀(j:Nat)(x:a8),(P++(X++(Y++R)))[j]?=XV x->(Z6 st)[j]?=XV x:=λj x h=>by
  rw[<- d] at h;rw[<- h];simp
 obtain⟨g,K⟩:∃g,Y[0]?=XV g:=⟨Y[0],ay _⟩;have gb:(Z6 st)[P.length+X.length]?=XV g:=f _ _ (by
  rw[bq 'd',dR,bq (aD _),g9,aG 'd'];exact K)
 have dX:((Z6 st).toList.drop P.length).take X.length=X:=by rw[d];simp
 have dY:((Z6 st).toList.drop (P.length+X.length)).take Y.length=Y:=by rw[d,<- bg,eM 'k',<- az];simp
 have U:=T g (aN K);have V:∀y∈Y,Le κ g y:=λy h=>Ca D K y (by simpa using h);refine(oV.at_ oW) h1 h2 gb ?_;refine Cc (base:=P.length) (n:=X.length) (hint:=0) I dX ?_ U 'd' 'd' S C ?_
 ·exact t
 refine λk xV kt kf=>⟨k,rfl,λwG=>?_,λwG=>?_⟩
 ·have W:k=X.length:=by lia
  refine q _ (X++Y) t N rfl (by show(Z6 st).toList=_;rw[d,bg]) (eo _) ?_;unfold qy;rw[cf];refine⟨C,D,λx h y c=>Le.trans ?_ (V y c)⟩;have:=kt x (by rw[W,jY];exact h);unfold tL at this;rw[Z5 'u'] at this;unfold Le;simpa using this
 have Z:∀x∈X.take k,Le κ x g:=λx h=>by
  have:=kt x h;unfold tL at this;rw[Z5 'u'] at this;unfold Le;simpa using this
 have SE:∀x∈X.drop k,Le κ g x:=λx h=>by
  have:=kf x h;unfold tL at this;rw[Z5 'u'] at this;exact Le.of (by simpa using this)
 obtain⟨l,L⟩:∃l,X[X.length-1]?=XV l:=⟨X[X.length-1],ay _⟩;have ga:(Z6 st)[P.length+k+(X.length-k)-1]?=XV l:=f _ _ (by
  have:P.length+k+(X.length-k)-1=P.length+(X.length-1):=by lia
  rw[this,bq 'd',dR,aG 'd'];exact L)
 have hka:=S l (aN L);have TC:∀x∈X,Le κ x l:=λx h=>Df C L x (by rw[cE 'd'];exact h);refine⟨l,ga,?_⟩;refine Cc (base:=P.length+X.length) (n:=Y.length) (hint:=Y.length-1) I dY ?_ hka 'd' 'd' T D ?_
 ·exact t
 refine λm hm mt mf=>⟨m,rfl,λSS=>?_,λSS=>?_⟩
 ·refine q _ (X++Y) t N rfl (by show(Z6 st).toList=_;rw[d,bg]) (eo _) ?_;unfold qy;rw[cf];refine⟨C,D,λx h y c=>Le.trans (TC x h) ?_⟩;have:=mf y (by rw[SS];exact c);unfold tL at this;rw[Y2 rfl] at this;exact this
 have SA:∀y∈Y.take m,Le κ y l:=λy h=>by
  have:=mt y h;unfold tL at this;rw[Y2 rfl] at this;exact Le.of this
 have SD:∀y∈Y.drop m,Le κ l y:=λy h=>by
  have:=mf y h;unfold tL at this;rw[Y2 rfl] at this;exact this
 have u:((Z6 st).extract (P.length+k) (P.length+X.length)).toList=X.drop k:=by
  simp only[lv,jQ];rw[d,<- ei,nR,eM xV];have:P.length+X.length-(P.length+k)=(X.drop k).length:=by rw[cr];lia
  rw[this,nT]
 have v:((Z6 st).extract (P.length+X.length) (P.length+X.length+m)).toList=Y.take m:=by
  rw[Jb];rw[<- dY,gg,fZ hm]
 have szX:((Z6 st).extract (P.length+k) (P.length+X.length)).size=X.length-k:=by rw[<- aA,u,cr]
 have szY:((Z6 st).extract (P.length+X.length) (P.length+X.length+m)).size=m:=by rw[<- aA,v,bZ];lia
 have H:∀(B:Array a8)(o:bV),oE (setPending st (((Z7 st).setIfInBounds i (P.length,X.length+Y.length,pw)).eraseIdxIfInBounds (i+1))) o->Out κ (X.drop k) (Y.take m) B.toList->Q (failedOf o).isNone (setArr o (lay (Z6 o) (P.length+k) B.toList)):=λB o p a=>by
  have EW:B.toList.length=(X.length-k)+m:=by rw[a.perm.length_eq,az,cr,bZ];lia
  have CC:failedOf o=X9:=p.failed.trans N;rw[CC];have uY:Z6 o=Z6 st:=p.arr;refine q _ (X.take k++(B.toList++Y.drop m)) (p.kind.trans t) CC p.pend ?_ ?_ ?_
  ·show(lay (Z6 o) (P.length+k) B.toList).toList=_;rw[uY,ZE (by rw[EW,G];lia),d,EW];have e1:(P++(X++(Y++R))).take (P.length+k)=P++X.take k:=by
    rw[List.take_append,cE 'd',dR,List.take_append_of_le_length xV]
   have e2:(P++(X++(Y++R))).drop (P.length+k+(X.length-k+m))=Y.drop m++R:=by
    have:P.length+k+(X.length-k+m)=(P++X).length+m:=by rw[az];lia
    rw[this,<- bg,<- ei,nR,eM hm]
   rw[e1,e2];simp
  ·conv=>rhs;rw[<- cz k X,<- cz m Y]
   rw[bg];refine fq _ ?_;rw[<- bg];exact a.perm.append_right _
  ·unfold qy;rw[cf,cf];have Ez:∀z∈B.toList,z∈X.drop k\/z∈Y.take m:=λz hz=>aH.mp (a.perm.mem_iff.mp hz);refine⟨C.sublist (cN k X),⟨a.srt,D.sublist (c8 m Y),λz hz y O=>?_⟩,λx J z hz=>?_⟩
   ·rcases Ez z hz with h|h
    ·exact(TC z (cV h)).trans (SD y O)
    ·exact(SA z h).trans (SD y O)
   ·rcases aH.mp hz with hz|hz
    ·rcases Ez z hz with h|h
     ·exact(Z x J).trans (SE z h)
     ·exact(Z x J).trans (V z (cB h))
    ·exact(Z x J).trans (V z (cV hz))
 have p1:∀x∈((Z6 st).extract (P.length+k) (P.length+X.length)).toList,tD κ x:=by rw[u];exact λx h=>S x (cV h)
 have p2:∀x∈((Z6 st).extract (P.length+X.length) (P.length+X.length+m)).toList,tD κ x:=by rw[v];exact λx h=>T x (cB h)
 have p3:qy κ ((Z6 st).extract (P.length+k) (P.length+X.length)).toList:=by rw[u];exact C.sublist (c8 k X)
 have p4:qy κ ((Z6 st).extract (P.length+X.length) (P.length+X.length+m)).toList:=by rw[v];exact D.sublist (cN m Y)
 have p5:∀x∈((Z6 st).extract (P.length+X.length) (P.length+X.length+m)).toList.take 1,∀y∈((Z6 st).extract (P.length+k) (P.length+X.length)).toList,Le κ x y:=by
  rw[u,v,gg];intro x h y c;have:x=g:=by
   rw[fZ 'd'] at h;have e:=zV K;rw[k8] at e;rw[e] at h;simpa using h
  rw[this];exact SE y c
 have p6:∀y∈((Z6 st).extract (P.length+X.length) (P.length+X.length+m)).toList,∀x∈((Z6 st).extract (P.length+k) (P.length+X.length)).toList.drop (((Z6 st).extract (P.length+k) (P.length+X.length)).size-1),Le κ y x:=by
  rw[u,v,szX,ei];intro y h x c;have:k+(X.length-k-1)=X.length-1:=by lia
  rw[this] at c;have e:=zV L;rw[cE (by rw[cr];lia)] at e;rw[e] at c;rw[cF.mp c];exact SA y h
 by_cases hc:X.length-k<=m
 ·rw[Y2 hc];refine Xg I ?_ p1 p2 p3 p4 'd' 'd' p5 p6 λr b p a=>H r b p (by rw[u,v] at a;exact a);exact t
 ·rw[Z5 hc];refine Vw I ?_ p1 p2 p3 p4 'd' 'd' p5 p6 λr b p a=>H r b p (by rw[u,v] at a;exact a);exact t
end
structure Rl(rB:bV)(lo:Nat)(st:bV):Prop where
 perm:(Z6 st).Perm (Z6 rB)
 kind:kindOf st=kindOf rB
 failed:failedOf st=failedOf rB
 pend:Z7 st=Z7 rB
 fix:∀i,i<lo->(Z6 st)[i]?=(Z6 rB)[i]?
def Rl.refl(st:bV)(lo:Nat):Rl st lo st:=⟨iY _,rfl,rfl,rfl,λ_ _=>rfl⟩
def Rl.size{a st:bV}{lo:Nat}(r:Rl a lo st):(Z6 st).size=(Z6 a).size:=r.perm.size_eq
def Rl.rev{a st:bV}{lo i j:Nat}(r:Rl a lo st)(h:lo<=i)(b:j<=(Z6 a).size):Rl a lo (setArr st (mirror (Z6 st) i j ((j-i)/2))):=by refine⟨(mirror_perm _ _ _ _).trans r.perm,r.kind,r.failed,r.pend,λk c=>?_⟩;show(mirror (Z6 st) i j ((j-i)/2))[k]?=_;rw[getElem?_mirror_all (by rw[r.size];exact b),Z5 'd'];exact r.fix k c
section
variable{prog:aM}{w:aV}{A:a7}{E:ae->af->Prop}{s:af}{κ:aW}{rB st:bV}{lo:Nat}{kd:KT}
def Up(κ:aW)(xs:Array a8)(lo n:Nat):Prop:=∀i j,lo<=i->i<=j->j<lo+n->κ.kle (KK κ xs i) (KK κ xs j)
def Dn(κ:aW)(xs:Array a8)(lo n:Nat):Prop:=∀i j,lo<=i->i<=j->j<lo+n->κ.kle (KK κ xs j) (KK κ xs i)
def zW(a:κ.α):κ.kle a a:=κ.irrefl a
def Up.step(h:Up κ xs lo n)(f:1<=n)(a:κ.kle (KK κ xs (lo+n-1)) (KK κ xs (lo+n))):Up κ xs lo (n+1):=λi j b c g=>by
 by_cases e:j=lo+n
 ·subst e;by_cases d:i=lo+n
  ·subst d;exact zW _
  ·exact iF (h i (lo+n-1) b 'd' 'd') a
 ·exact h i j b c 'd'
def Dn.step(h:Dn κ xs lo n)(f:1<=n)(a:κ.kle (KK κ xs (lo+n)) (KK κ xs (lo+n-1))):Dn κ xs lo (n+1):=λi j b c g=>by
 by_cases e:j=lo+n
 ·subst e;by_cases d:i=lo+n
  ·subst d;exact zW _
  ·exact iF a (h i (lo+n-1) b 'd' 'd')
 ·exact h i j b c 'd'
def Up.one(xs:Array a8):Up κ xs lo 1:=λi j c d e=>by
 have a:i=lo:=by lia
 have b:j=lo:=by lia
 rw[a,b];exact zW _
def Dn.one(xs:Array a8):Dn κ xs lo 1:=λi j c d e=>by
 have a:i=lo:=by lia
 have b:j=lo:=by lia
 rw[a,b];exact zW _
def Di(f:vI prog w A s κ kd)(a:∀x∈(Z6 rB).toList,tD κ x)(g:kindOf rB=kd)(r:Rl rB lo st)(b:i<(Z6 rB).size)(c:j<(Z6 rB).size)(q:Q (XV (κ.blt (KK κ (Z6 st) i) (KK κ (Z6 st) j))) st):wpS (aw prog w) A E s (ltAt' i j) Q st:=by
 rw[<- r.size] at b c;obtain⟨x,d,h⟩:=wj b;obtain⟨y,e,k⟩:=wj c;have l:=a x ((dE.mp r.perm).mem_iff.mp (aN h));have m:=a y ((dE.mp r.perm).mem_iff.mp (aN k));have n:KK κ (Z6 st) i=ky κ x:=by unfold KK ky;rw[d]
 have o:KK κ (Z6 st) j=ky κ y:=by unfold KK ky;rw[e]
 rw[n,o] at q;rw[ltAt'_eq];exact aC (gE (aC (sS d (aC (sS e (C6 f (r.kind.trans g) l m q))))))
def Up.rev(d:Dn κ xs lo m)(h:lo+m<=xs.size):Up κ (mirror xs lo (lo+m) ((lo+m-lo)/2)) lo m:=λi j a b c=>by
 rw[KK_mirror h,KK_mirror h,Y2 'd',Y2 'd'];exact d _ _ 'd' 'd' 'd'
set_option hygiene false in
local macro_rules|`(tactic| walk_at "asc")=>`(tactic| (
 refine aC (dr (cJ (I:=λk c i_=>i_=qN/\∃ n,c=(none,n)/\n=k/\1<=n/\n<=nrem/\Up κ (arrOf qN) lo n) (Q:=λc i_=>i_=qN/\∃ n,c=(none,n)/\1<=n/\n<=nrem/\Up κ (arrOf qN) lo n/\(n=nrem\/κ.blt (KK κ (arrOf qN) (lo+n)) (KK κ (arrOf qN) (lo+n-1))=true)) ?_ ?_ ?_) ?_)
 ·rintro k c i_ h1 h2 ⟨rfl,n,rfl,rfl,g1,g2,g3⟩
  refine aC (Di (i:=lo+n) (j:=lo+n-1) ho hs hk r1 (by lia) (by lia) ?_)
  cases e:κ.blt (KK κ (arrOf i_) (lo+n)) (KK κ (arrOf i_) (lo+n-1)) with
  | true=>exact aI ⟨rfl,n,rfl,g1,g2,g3,.inr e⟩
  | false=>exact aI ⟨rfl,n+1,rfl,rfl,by lia,by lia,g3.step (by lia) e⟩
 ·rintro c i_ ⟨rfl,n,rfl,e,g1,g2,g3⟩
  exact⟨rfl,n,rfl,g1,g2,g3,.inl (by lia)⟩
 ·exact⟨rfl,_,rfl,rfl,EV,SR,u1⟩))
set_option hygiene false in
local macro_rules|`(tactic| walk_at "fin")=>`(tactic| (
 refine aC (kG ?_)
 have r1:=r4.rev (i:=lo) (j:=lo+n0) (aD lo) (by lia)
 have u1:Up κ (arrOf (setArr qY (mirror (arrOf qY) lo (lo+n0) ((lo+n0-lo)/2)))) lo n0:=Up.rev d4 (by rw[r4.size];lia)
 generalize setArr qY (mirror (arrOf qY) lo (lo+n0) ((lo+n0-lo)/2))=qN at *
 walk_at "asc"
 ·rintro c i_ ⟨rfl,n,rfl,g1,g2,g3,_⟩
  exact aI (q n _ r1 g1 g2 g3)))
set_option hygiene false in
local macro_rules|`(tactic| walk_at "desc")=>`(tactic| (
 refine aC (jg (dG ⟨rfl,aC (dr (cJ (I:=λk c i_=>Rl rB lo i_/\∃ n su,c=(none,n,su)/\n=k/\n<=nrem/\Dn κ (arrOf i_) lo n/\su+1<=n/\(∀ i,lo+n-(su+1)<=i->i<lo+n->KK κ (arrOf i_) i=KK κ (arrOf i_) (lo+n-1))) (Q:=λc i_=>Rl rB lo i_/\∃ n su,c=(none,n,su)/\n<=nrem/\Dn κ (arrOf i_) lo n/\su+1<=n/\(∀ i,lo+n-(su+1)<=i->i<lo+n->KK κ (arrOf i_) i=KK κ (arrOf i_) (lo+n-1))) ?_ ?_ ?_) ?_)⟩))
 ·rintro k c qj h1 h2 ⟨r3,n,su,rfl,rfl,g2,g3,g4,g5⟩
  refine aC (Di (i:=lo+n) (j:=lo+n-1) ho hs hk r3 (by lia) (by lia) ?_)
  cases e:κ.blt (KK κ (arrOf qj) (lo+n)) (KK κ (arrOf qj) (lo+n-1)) with
  | true=>
   show wpS _ _ _ _ (if su>0 then _ else _) _ qj
   by_cases hq:su>0
   ·rw[if_pos hq]
    refine aC (kG (aI ⟨r3.rev (i:=lo+n-(su+1)) (j:=lo+n) (by lia) (by lia),n+1,0,rfl,rfl,by lia,?_,by lia,?_⟩))
    ·have kk:=kr (κ:=κ) (xs:=arrOf qj) (i:=lo+n-(su+1)) (j:=lo+n) (by rw[r3.size];lia) λk a b=>g5 k a b
     have d:Dn κ (mirror (arrOf qj) (lo+n-(su+1)) (lo+n) ((lo+n-(lo+n-(su+1)))/2)) lo n:=λi j a b c=>by rw[kk,kk];exact g3 i j a b c
     refine d.step (by lia) ?_
     rw[kk,kk]
     exact gd e
    ·intro i a b
     have:i=lo+(n+1)-1:=by lia
     rw[this]
   ·rw[if_neg hq]
    refine aI ⟨r3,n+1,0,rfl,rfl,by lia,g3.step (by lia) (gd e),by lia,?_⟩
    intro i a b
    have:i=lo+(n+1)-1:=by lia
    rw[this]
  | false=>
   refine aC (Di (i:=lo+n-1) (j:=lo+n) ho hs hk r3 (by lia) (by lia) ?_)
   cases e':κ.blt (KK κ (arrOf qj) (lo+n-1)) (KK κ (arrOf qj) (lo+n)) with
   | true=>exact aI ⟨r3,n,su,rfl,g2,g3,g4,g5⟩
   | false=>
    have eq:KK κ (arrOf qj) (lo+n)=KK κ (arrOf qj) (lo+n-1):=κ.total _ _ e e'
    refine aI ⟨r3,n+1,su+1,rfl,rfl,by lia,g3.step (by lia) e',by lia,?_⟩
    intro i a b
    have:lo+(n+1)-1=lo+n:=by lia
    rw[this]
    by_cases hi:i=lo+n
    ·rw[hi]
    ·rw[eq];exact g5 i (by lia) (by lia)
 ·rintro c qj ⟨r3,n,su,rfl,e,g2,g3,g4,g5⟩
  exact⟨r3,n,su,rfl,g2,g3,g4,g5⟩
 ·exact⟨r2,n1+1,0,rfl,rfl,by lia,d2,by lia,λi a b=>by
   have:i=lo+(n1+1)-1:=by lia
   rw[this]⟩
 ·rintro c qj ⟨r3,n0,su,rfl,SR,g3,g4,g5⟩
  have EV:1<=n0:=by lia
  show wpS _ _ _ _ (if su>0 then _ else _) Q qj
  by_cases hq:su>0
  ·rw[if_pos hq]
   refine aC (kG ?_)
   have r4:=r3.rev (i:=lo+n0-(su+1)) (j:=lo+n0) (by lia) (by lia)
   have kk:=kr (κ:=κ) (xs:=arrOf qj) (i:=lo+n0-(su+1)) (j:=lo+n0) (by rw[r3.size];lia) λk a b=>g5 k a b
   have d4:Dn κ (arrOf (setArr qj (mirror (arrOf qj) (lo+n0-(su+1)) (lo+n0) ((lo+n0-(lo+n0-(su+1)))/2)))) lo n0:=λi j a b c=>by
    show κ.kle (KK κ (mirror _ _ _ _) j) (KK κ (mirror _ _ _ _) i)
    rw[kk,kk];exact g3 i j a b c
   generalize setArr qj (mirror (arrOf qj) (lo+n0-(su+1)) (lo+n0) ((lo+n0-(lo+n0-(su+1)))/2))=qY at *
   walk_at "fin"
  ·rw[if_neg hq]
   have r4:=r3
   have d4:=g3
   generalize hst4:qj=qY at *
   walk_at "fin"))
def zdW(ho:vI prog w A s κ kd)(hs:∀x∈(Z6 rB).toList,tD κ x)(hk:kindOf rB=kd){nrem:Nat}(SR:1<=nrem)(hN:lo+nrem<=(Z6 rB).size){qN:bV}(r1:Rl rB lo qN){Q:Option Nat->bV->Prop}(q:∀m i_,Rl rB lo i_->1<=m->m<=nrem->Up κ (Z6 i_) lo m->Q (XV m) i_):wpS (aw prog w) A E s (countRun' lo nrem) Q qN:=by
 rw[countRun'_eq];have u1:Up κ (Z6 qN) lo 1:=Up.one _;have EV:1<=1:=aD _;walk_at "asc";rintro c i_ ⟨rfl,n1,rfl,g1,g2,g3,g4⟩;show wpS _ _ _ _ (if (n1==nrem)=YP then _ else _) Q i_;by_cases e0:n1=nrem
 ·rw[Y2 (by simpa using e0)];exact aI (q n1 i_ r1 g1 g2 g3)
 rw[Z5 (by simpa using e0)];have q0:κ.blt (KK κ (Z6 i_) (lo+n1)) (KK κ (Z6 i_) (lo+n1-1))=YP:=by
  rcases g4 with h|h
  ·exact absurd h e0
  ·exact h
 show wpS _ _ _ _ (if n1>1 then _ else _) Q i_;by_cases hc:n1>1
 ·rw[Y2 hc];refine aC (Di ho hs hk r1 'd' 'd' ?_);cases e:κ.blt (KK κ (Z6 i_) lo) (KK κ (Z6 i_) (lo+n1-1)) with
  |true=>exact aI (q n1 i_ r1 g1 g2 g3)
  | false=>
   refine aC (kG ?_);have r2:=r1.rev (i:=lo) (j:=lo+n1) (aD lo) 'd';have all:∀k,lo<=k->k<lo+n1->KK κ (Z6 i_) k=KK κ (Z6 i_) (lo+n1-1):=λk a b=>
    KeyOrd.kle_antisymm (g3 k (lo+n1-1) a 'd' 'd') (iF (show κ.kle (KK κ (Z6 i_) (lo+n1-1)) (KK κ (Z6 i_) lo) from e) (g3 lo k (aD _) a b))
   have kk:=kr (κ:=κ) (xs:=Z6 i_) (i:=lo) (j:=lo+n1) (by rw[r1.size];lia) all;have d2:Dn κ (Z6 (setArr i_ (mirror (Z6 i_) lo (lo+n1) ((lo+n1-lo)/2)))) lo (n1+1):=by
    show Dn κ (mirror (Z6 i_) lo (lo+n1) ((lo+n1-lo)/2)) lo (n1+1);refine Dn.step (λi j a b c=>?_) g1 ?_
    ·rw[kk,kk,all i a 'd',all j 'd' c];exact zW _
    ·rw[kk,kk];exact gd q0
   generalize setArr i_ (mirror (Z6 i_) lo (lo+n1) ((lo+n1-lo)/2))=qu at *;walk_at "desc"
 ·rw[Z5 hc];have r2:=r1;have d2:Dn κ (Z6 i_) lo (n1+1):=by
   have e1:n1=1:=by lia
   subst e1;exact Dn.step (Dn.one _) (aD _) (gd q0)
  generalize hst2:i_=qu at *;walk_at "desc"
end
section
variable{prog:aM}{w:aV}{A:a7}{E:ae->af->Prop}{s:af}{κ:aW}{rB:bV}{lo:Nat}{kd:KT}
def Xy(H:vI prog w A s κ kd)(J:∀x∈(Z6 rB).toList,tD κ x)(K:kindOf rB=kd)(L:1<=ok)(U:ok<=n)(V:lo+n<=(Z6 rB).size)(M:Rl rB lo qN)(N:Up κ (Z6 qN) lo ok)(q:∀f,Rl rB lo f->Up κ (Z6 f) lo n->Q YP f):wpS (aw prog w) A E s (binarySort' lo n ok) Q qN:=by
 rw[binarySort'_eq];refine aC (dr (cJ (I:=λk c f=>Rl rB lo f/\c=(X9,())/\1<=k/\Up κ (Z6 f) lo k) (Q:=λc f=>Rl rB lo f/\c=(X9,())/\Up κ (Z6 f) lo n) ?_ ?_ ?_) ?_)
 ·rintro k c g _ W ⟨h,rfl,O,m⟩;refine aC (dr (cJ (I:=λj c f=>f=g/\∃l r,c=(X9,l,r)/\l<=r/\r<=k/\r-l<=k-j/\(∀i,i<l->κ.kle (KK κ (Z6 g) (lo+i)) (KK κ (Z6 g) (lo+k)))/\(∀i,r<=i->i<k->κ.blt (KK κ (Z6 g) (lo+k)) (KK κ (Z6 g) (lo+i))=YP)) (Q:=λc f=>f=g/\∃l,c=(X9,l,l)/\l<=k/\(∀i,i<l->κ.kle (KK κ (Z6 g) (lo+i)) (KK κ (Z6 g) (lo+k)))/\(∀i,l<=i->i<k->κ.blt (KK κ (Z6 g) (lo+k)) (KK κ (Z6 g) (lo+i))=YP)) ?_ ?_ ?_) ?_)
  ·rintro j c d _ X ⟨rfl,l,r,rfl,P,v,z,o,p⟩;show wpS _ _ _ _ (if l ≥ r then _ else _) _ d;by_cases B:l ≥ r
   ·rw[Y2 B];have:l=r:=by lia
    subst this;exact aI ⟨rfl,l,rfl,v,o,p⟩
   ·rw[Z5 B];refine aC (Di (i:=lo+k) (j:=lo+(l+r)/2) H J K h 'd' 'd' ?_);cases e:κ.blt (KK κ (Z6 d) (lo+k)) (KK κ (Z6 d) (lo+(l+r)/2)) with
    |true=>exact aI ⟨rfl,l,(l+r)/2,rfl,by lia,by lia,by lia,o,λi y R=>KeyOrd.klt_of_klt_of_kle e (m _ _ 'd' 'd' 'd')⟩
    |false=>exact aI ⟨rfl,(l+r)/2+1,r,rfl,by lia,by lia,by lia,λi y=>iF (m _ (lo+(l+r)/2) 'd' 'd' 'd') e,p⟩
  ·rintro c d ⟨rfl,l,r,rfl,P,v,z,o,p⟩;rw[dL] at z;have:l=r:=by lia
   subst this;exact⟨rfl,l,rfl,v,o,p⟩
  ·exact⟨rfl,0,k,rfl,by lia,by lia,by lia,λi y=>by lia,λi L Y=>by lia⟩
  ·rintro c d ⟨rfl,l,rfl,v,o,p⟩;show wpS (aw prog w) A E s (moveDown' (lo+k) (lo+l) >>= _) _ d;rw[moveDown'_eq];have t:lo+k<(Z6 d).size:=by rw[h.size];lia
   have Z:lo+k-(lo+l)=k-l:=by lia
   refine aC (fA (aI ⟨⟨(bubble_perm _ _ _).trans h.perm,h.kind,h.failed,h.pend,λi y=>?_⟩,rfl,by lia,?_⟩))
   ·show(bubble (Z6 d) (lo+k) (lo+k-(lo+l)))[i]?=_;rw[getElem?_bubble t _ 'd',Z5 'd',Z5 'd'];exact h.fix i y
   ·show Up κ (bubble (Z6 d) (lo+k) (lo+k-(lo+l))) lo (k+1);have C:∀x,KK κ (bubble (Z6 d) (lo+k) (lo+k-(lo+l))) x=if x=lo+l then KK κ (Z6 d) (lo+k) else if lo+l<x/\x<=lo+k then KK κ (Z6 d) (x-1) else KK κ (Z6 d) x:=λx=>by
     rw[KK_bubble t 'd'];have:lo+k-(lo+k-(lo+l))=lo+l:=by lia
     rw[this]
    have S:∀x,lo<=x->x<lo+l->κ.kle (KK κ (Z6 d) x) (KK κ (Z6 d) (lo+k)):=λx a b=>by
     have:=o (x-lo) 'd';rw[show lo+(x-lo)=x by lia] at this;exact this
    have T:∀x,lo+l<=x->x<lo+k->κ.kle (KK κ (Z6 d) (lo+k)) (KK κ (Z6 d) x):=λx a b=>by
     have:=p (x-lo) 'd' 'd';rw[show lo+(x-lo)=x by lia] at this;exact gd this
    intro i j a b c;rw[C i,C j];by_cases D:i=lo+l
    ·rw[Y2 D];by_cases u:j=lo+l
     ·rw[Y2 u];exact zW _
     ·rw[Z5 u,Y2 'd'];exact T (j-1) 'd' 'd'
    ·rw[Z5 D];by_cases F:lo+l<i/\i<=lo+k
     ·rw[Y2 F,Z5 'd',Y2 'd'];exact m _ _ 'd' 'd' 'd'
     ·rw[Z5 F];by_cases u:j=lo+l
      ·rw[Y2 u];exact S i a 'd'
      ·rw[Z5 u];by_cases G:lo+l<j/\j<=lo+k
       ·rw[Y2 G];exact m _ _ a 'd' 'd'
       ·rw[Z5 G];exact m _ _ a b 'd'
 ·rintro c g ⟨h,rfl,O,m⟩;rw[show max (max ok 1) n=n by lia] at m;exact⟨h,rfl,m⟩
 ·exact⟨M,rfl,by lia,by rw[show max ok 1=ok by lia];exact N⟩
 ·rintro c g ⟨h,rfl,m⟩;exact aI (q g h m)
end
def ug:Nat->List (List a8)->List (Nat×Nat)
 |_,[]=>[]
 |b,X::S=>(b,X.length)::ug (b+X.length) S
theorem G8:∀(S T:List (List a8))(b:Nat),ug b (S++T)=ug b S++ug (b+S.flatten.length) T
 |[],T,b=>by simp[ug]
 | X::S,T,b=>by
  rw[jU,ug,ug,jU,G8 S T,jI,az,lK]
theorem AV:∀(S:List (List a8))(b:Nat),(ug b S).length=S.length
 |[],_=>rfl
 |X::S,b=>by rw[ug,aO,AV S,aO]
def se(t:Nat×Nat×Nat):Nat×Nat:=(t.1,t.2.1)
structure Pn(κ:aW)(kd:KT)(L0:List a8)(st:bV)(lo:Nat)(S:List (List a8))(R:List a8):Prop where
 arr:(Z6 st).toList=S.flatten++R
 lo:S.flatten.length=lo
 pend:(Z7 st).toList.map se=ug 0 S
 ne:∀X∈S,1<=X.length
 srt:∀X∈S,qy κ X
 kind:kindOf st=kd
 failed:failedOf st=X9
 perm:(Z6 st).toList.Perm L0
def Pn.size{κ:aW}{kd:KT}{a:List a8}{st:bV}{lo:Nat}{S:List (List a8)}{R:List a8}(h:Pn κ kd a st lo S R):(Z7 st).size=S.length:=by have:=congrArg kB h.pend;rw[au,aA,AV] at this;exact this
theorem OD:∀(S:List (List a8)),(∀X∈S,1<=X.length)->S.length<=S.flatten.length
 |[],_=>by simp
 | X::S,h=>by
  rw[jI,az,aO];have:=h X al;have:=OD S λY a=>h Y (ai _ a);lia
theorem Qh{α:Type}:∀(S:List α)(i:Nat),i+1<S.length->∃a X Y b,S=a++X::Y::b/\a.length=i
 |[],i,h=>by simp at h
 |[_],i,h=>by simp at h
 |X::Y::S,0,_=>⟨[],X,Y,S,rfl,rfl⟩
 | X::Y::S,i+1,h=>by
  obtain⟨a,A,B,b,e,l⟩:=Qh (Y::S) i (by simpa using h);exact⟨X::a,A,B,b,by rw[e];rfl,by simp[l]⟩
theorem Rk{α a:Type}(f:α->a):∀(l:List α)(i:Nat),(l.eraseIdx i).map f=(l.map f).eraseIdx i
 |[],_=>rfl
 |_::_,0=>rfl
 |x::l,i+1=>by simp[Rk f l i]
section
variable{prog:aM}{w:aV}{A:a7}{E:ae->af->Prop}{s:af}{κ:aW}{L0:List a8}{st:bV}{lo:Nat}{kd:KT}
def Oa(I:vI prog w A s κ kd)(J:∀x∈L0,tD κ x)(p:Pn κ kd L0 st lo S R)(K:i+1<S.length)(q:∀g r,Pn κ kd L0 g lo r R->r.length+1=S.length->Q YP g):wpS (aw prog w) A E s (mergeAt' i) Q st:=by
 obtain⟨c,X,Y,d,rfl,j⟩:=Qh S i K;have l:=p.pend;rw[G8,ug,ug,fh] at l;have u:∀k a b,(ug 0 c++(c.flatten.length,X.length)::(c.flatten.length+X.length,Y.length)::ug (c.flatten.length+X.length+Y.length) d)[k]?=XV (a,b)->∃v,(Z7 st)[k]?=XV (a,b,v):=λk a b h=>by
  rw[<- l,bG] at h;have L:(Z7 st)[k]?=(Z7 st).toList[k]?:=by simp
  cases e:(Z7 st).toList[k]? with
  |none=>rw[e] at h;cases h
  | some t=>
   rw[e] at h;obtain⟨x,y,z⟩:=t;injection h with h;unfold se at h;injection h with h1 h2;dsimp only at h1 h2;exact⟨z,by rw[L,e,h1,h2]⟩
 obtain⟨v,B⟩:=u i c.flatten.length X.length (by rw[bq (by rw[AV];lia),AV,j,g9];rfl);obtain⟨W,C⟩:=u (i+1) (c.flatten.length+X.length) Y.length (by rw[bq (by rw[AV];lia),AV,j,dR];rfl);have m:(Z6 st).toList=c.flatten++(X++(Y++(d.flatten++R))):=by rw[p.arr];simp
 have n:X∈c++X::Y::d:=by simp
 have D:Y∈c++X::Y::d:=by simp
 refine WD I p.kind p.failed m B C (p.ne X n) (p.ne Y D) (p.srt X n) (p.srt Y D) (λx N=>J x (p.perm.mem_iff.mp (by
   rw[m];rcases aH.mp N with h|h<;>simp[h]))) λg M O P T F G U=>?_
 have o:M.length=X.length+Y.length:=by rw[G.length_eq,az]
 refine q g (c++M::d) ⟨?_,?_,?_,?_,?_,O,P,?_⟩ (by simp;lia)
 ·rw[F];simp
 ·rw[<- p.lo];simp[o];lia
 ·rw[T,G8,ug,fh,o];have HM:i<(Z7 st).size:=(jB.mp B).1;have V:i+1<(Z7 st).size:=(jB.mp C).1;rw[Array.eraseIdxIfInBounds,dif_pos (by rw[jX];exact V),Array.toList_eraseIdx,jA,Rk,List.map_set,l];have H:(ug 0 c).length=i:=by rw[AV,j]
  rw[gh _ _ 'd',H,g9,fi,List.eraseIdx_append_of_length_le 'd',H,dR];show _++(_::ug _ d)=_;rw[lK];rfl
 ·intro Z f;simp only[aH,am] at f;rcases f with h|rfl|h
  ·exact p.ne Z (by simp[h])
  ·rw[o];have:=p.ne X n;lia
  ·exact p.ne Z (by simp[h])
 ·intro Z f;simp only[aH,am] at f;rcases f with h|rfl|h
  ·exact p.srt Z (by simp[h])
  ·exact U
  ·exact p.srt Z (by simp[h])
 ·rw[F];refine List.Perm.trans ?_ p.perm;rw[m];refine fq _ ?_;rw[<- bg X];exact G.append_right _
end
section
variable{prog:aM}{w:aV}{A:a7}{E:ae->af->Prop}{s:af}{κ:aW}{L0:List a8}{st:bV}{lo:Nat}{kd:KT}
def V_(u:Up κ xs lo m)(h:lo+m<=xs.size):qy κ ((xs.toList.drop lo).take m):=by
 unfold qy;rw[fB];intro i j b c d;rw[bZ,cr,aA] at b c;have a:∀k,k<m->∀(a:k<((xs.toList.drop lo).take m).length),ky κ ((xs.toList.drop lo).take m)[k]=KK κ xs (lo+k):=λk e a=>by
  rw[mI,mJ];unfold KK ky;rw[fC,aU 'd']
 unfold Le;rw[a i 'd',a j 'd'];exact u _ _ 'd' 'd' 'd'
def Pn.run(p:Pn κ kd L0 st lo S R)(r:Rl st lo i_)(h:lo+m<=(Z6 st).size)(u:Up κ (Z6 i_) lo m):∃c,Pn κ kd L0 i_ lo S c/\c.length=R.length/\qy κ (c.take m):=by
 have d:=p.lo;have a:=r.size;have b:(Z6 i_).toList.length=lo+R.length:=by rw[aA,a,<- aA,p.arr,az,d]
 have f:(Z6 i_).toList.take lo=S.flatten:=by
  have e:(Z6 st).toList.take lo=S.flatten:=by rw[p.arr,<- d,nT]
  rw[<- e];apply mL;intro i;by_cases g:i<lo
  ·rw[fK g,fK g,di,di];exact r.fix i g
  ·rw[jC 'd',jC 'd']
 have j:(Z6 i_).toList=S.flatten++(Z6 i_).toList.drop lo:=by
  conv=>lhs;rw[<- cz lo (Z6 i_).toList]
  rw[f]
 refine⟨(Z6 i_).toList.drop lo,⟨j,d,by rw[r.pend];exact p.pend,p.ne,p.srt,r.kind.trans p.kind,r.failed.trans p.failed,(dE.mp r.perm).trans p.perm⟩,by rw[cr,b];lia,?_⟩;exact V_ u (by rw[a];exact h)
def Pn.push(p:Pn κ kd L0 st lo S R)(c:1<=m)(e:m<=R.length)(d:qy κ (R.take m)):Pn κ kd L0 (setPending st ((Z7 st).push (lo,m,pw))) (lo+m) (S++[R.take m]) (R.drop m):=by
 have a:(R.take m).length=m:=by rw[bZ];lia
 refine⟨?_,?_,?_,?_,?_,p.kind,p.failed,p.perm⟩
 ·show(Z6 st).toList=_;rw[p.arr];simp
 ·rw[List.flatten_append,az,p.lo];show lo+(R.take m++[]).length=_;rw[bP,a]
 ·show((Z7 st).push (lo,m,pw)).toList.map se=_;rw[eI,bT,p.pend,G8,p.lo,fh,ug,ug,a];rfl
 ·intro X b;rcases aH.mp b with h|h
  ·exact p.ne X h
  ·rw[cF.mp h,a];exact c
 ·intro X b;rcases aH.mp b with h|h
  ·exact p.srt X h
  ·rw[cF.mp h];exact d
theorem Ry{α a:Type}(f:α->a)(g:α->α)(h:∀x,f (g x)=f x):∀(l:List α)(i:Nat),(l.modify i g).map f=l.map f
 |[],_=>by simp
 |x::l,0=>by simp[h]
 |x::l,i+1=>by simp[Ry f g h l i]
def Pn.power(p:Pn κ kd L0 st lo S R)(a:∀x,se (g x)=se x)(i:Nat):Pn κ kd L0 (setPending st ((Z7 st).modify i g)) lo S R:=by refine⟨p.arr,p.lo,?_,p.ne,p.srt,p.kind,p.failed,p.perm⟩;show((Z7 st).modify i g).toList.map se=_;rw[Array.toList_modify,Ry se g a,p.pend]
def VV(h:qy κ xs.toList):js κ xs xs.size:=λi j d a=>by
 by_cases e:i=j
 ·subst e;exact zW _
 have b:KK κ xs i=ky κ xs[i]:=by unfold KK ky;rw[aU 'd']
 have c:KK κ xs j=ky κ xs[j]:=by unfold KK ky;rw[aU a]
 rw[b,c];have:=fB.mp h i j (by rw[aA];lia) (by rw[aA];lia) 'd';rw[fC,fC] at this;exact this
set_option hygiene false in
local macro_rules|`(tactic| walk_at "jp")=>`(tactic| (
 refine aC (gE ?_)
 cases hb:(pendingOf qj).back? with
 | none=>exact aC (fA (aI ⟨lo+m,_,_,rfl,p3.push LM LL s3,by lia⟩))
 | some t=>
  obtain⟨s1,n1',pw0⟩:=t
  refine aC (dr (cJ (I:=λj c i_=>c=(none,())/\∃ S',Pn κ kd a₀.toList i_ lo S' R3) (Q:=λc i_=>c=(none,())/\∃ S',Pn κ kd a₀.toList i_ lo S' R3) ?_ ?_ ?_) ?_)
  ·rintro j c qY _ _ ⟨rfl,S',p4⟩
   refine aC (gE ?_)
   show wpS _ _ _ _ (match (if (pendingOf qY).size>1 then (pendingOf qY)[(pendingOf qY).size-2]? else none) with|some (fst,fst_1,Ag)=>_|x=>_) _ qY
   cases ht:(if (pendingOf qY).size>1 then (pendingOf qY)[(pendingOf qY).size-2]? else none) with
   | none=>exact aI ⟨rfl,S',p4⟩
   | some t=>
    obtain⟨x,y,Ag⟩:=t
    have hz:(pendingOf qY).size>1:=by
     by_cases hz:(pendingOf qY).size>1
     ·exact hz
     ·rw[if_neg hz] at ht;cases ht
    show wpS _ _ _ _ (if Ag<=_ then _ else _) _ qY
    split
    ·exact aI ⟨rfl,S',p4⟩
    ·exact aC (Oa ho has p4 (by rw[p4.size] at *;lia) λHz S5 p5 _=>aI ⟨rfl,S5,p5⟩)
  ·rintro c qY h;exact h
  ·exact⟨rfl,S,p3⟩
  ·rintro c qY ⟨rfl,S',p4⟩
   refine aC (fA (aC (fA (aI ⟨lo+m,_,_,rfl,Pn.push (Pn.power p4 ?_ _) LM LL s3,by lia⟩))))
   rintro⟨a,b,c⟩
   rfl))
set_option maxHeartbeats 0 in
def Ql(ho:vI prog w A s κ kd)(hs:i8 κ a₀)(bp:(Z6 st).Perm a₀)(bk:kindOf st=kd)(bf:failedOf st=X9)(bn:Z7 st = #[])(q:∀i_,(Z6 i_).Perm a₀->failedOf i_=X9->js κ (Z6 i_) a₀.size->Q () i_):wpS (aw prog w) A E s sortRuns' Q st:=by
 have has:∀x∈a₀.toList,tD κ x:=hs;have p0:Pn κ kd a₀.toList st 0 [] (Z6 st).toList:=⟨rfl,rfl,by rw[bn];rfl,by simp,by simp,bk,bf,dE.mp bp⟩;have hN:(Z6 st).size=a₀.size:=bp.size_eq;rw[sortRuns'_eq];refine aC (gE ?_);show wpS _ _ _ _ (forIn [:(Z6 st).size] (X9,0) _ >>= _) Q st;rw[hN];refine aC (dr (cJ (I:=λk c i_=>∃lo S R,c=(X9,lo)/\Pn κ kd a₀.toList i_ lo S R/\k<=lo) (Q:=λc i_=>∃lo S R,c=(X9,lo)/\Pn κ kd a₀.toList i_ lo S R/\a₀.size<=lo) ?_ ?_ ?_) ?_)
 ·rintro k c qN _ hk ⟨lo,S,R,rfl,p,E1⟩;have hlen:lo+R.length=a₀.size:=by
   have:=p.perm.length_eq;rw[p.arr,az,p.lo,aA] at this;exact this
  have hsz:(Z6 qN).size=a₀.size:=by rw[<- aA,p.perm.length_eq,aA]
  show wpS _ _ _ _ (if lo ≥ _ then _ else _) _ qN;by_cases hc:lo ≥ a₀.size
  ·rw[Y2 (by first|exact hc|(rw[hN];exact hc))];exact aI ⟨lo,S,R,rfl,p,hc⟩
  rw[Z5 (by first|exact hc|(rw[hN];exact hc))];have Fi:∀x∈(Z6 qN).toList,tD κ x:=λx hx=>has x (p.perm.mem_iff.mp hx);refine aC (zdW (lo:=lo) (nrem:=a₀.size-lo) ho Fi p.kind 'd' 'd' (Rl.refl qN lo) λn qu r2 n1 n2 u2=>?_);show wpS _ _ _ _ (if n<minRun' a₀.size a₀.size 0 then _ else _) _ qu;by_cases hm:n<minRun' a₀.size a₀.size 0
  ·rw[Y2 hm];refine aC (jg (dG ⟨rfl,aC (Xy (lo:=lo) (n:=min (a₀.size-lo) (minRun' a₀.size a₀.size 0)) (ok:=n) ho Fi p.kind n1 'd' 'd' r2 u2 λqj r3 u3=>?_)⟩));obtain⟨R3,p3,l3,s3⟩:=p.run r3 'd' u3;have LM:1<=min (a₀.size-lo) (minRun' a₀.size a₀.size 0):=by lia
   have LL:min (a₀.size-lo) (minRun' a₀.size a₀.size 0)<=R3.length:=by lia
   generalize min (a₀.size-lo) (minRun' a₀.size a₀.size 0)=m at *;walk_at "jp"
  ·rw[Z5 hm];obtain⟨R3,p3,l3,s3⟩:=p.run r2 'd' u2;have LM:1<=n:=n1;have LL:n<=R3.length:=by lia
   generalize EH:qu=qj at *;generalize hmn:n=m at *;walk_at "jp"
 ·rintro c qN ⟨lo,S,R,rfl,p,E1⟩;exact⟨lo,S,R,rfl,p,by rw[dL] at E1;exact E1⟩
 ·exact⟨0,[],_,rfl,p0,aD _⟩
 ·rintro c qN ⟨lo,S,R,rfl,p,E1⟩;have hR:R=[]:=by
   have h:=p.perm.length_eq;rw[p.arr,az,p.lo] at h;have h2:a₀.toList.length=a₀.size:=aA;exact cj.mp 'd'
  refine aC (dr (cJ (I:=λk c i_=>c=(X9,())/\∃S,Pn κ kd a₀.toList i_ lo S R/\S.length<=a₀.size-k) (Q:=λc i_=>c=(X9,())/\∃S,Pn κ kd a₀.toList i_ lo S R/\S.length<=1) ?_ ?_ ?_) ?_)
  ·rintro k c qu _ hk ⟨rfl,S',p2,hS⟩;refine aC (gE ?_);show wpS _ _ _ _ (if (Z7 qu).size<=1 then _ else _) _ qu;by_cases hc:(Z7 qu).size<=1
   ·rw[Y2 hc];exact aI ⟨rfl,S',p2,by rw[<- p2.size];exact hc⟩
   ·rw[Z5 hc];have hsz:=p2.size;refine aC (Oa ho has p2 ?_ λqj S3 p3 h3=>aI ⟨rfl,S3,p3,by lia⟩)
    repeat' split
    all_goals lia
  ·rintro c qu ⟨rfl,S',p2,hS⟩;exact⟨rfl,S',p2,by rw[dL] at hS;lia⟩
  ·refine⟨rfl,S,p,?_⟩;have h1:=OD S p.ne;have h:=p.perm.length_eq;rw[p.arr,az] at h;have h2:a₀.toList.length=a₀.size:=aA;lia
  ·rintro c qu ⟨rfl,S',p2,hS⟩;have uY:=p2.arr;rw[hR,bP] at uY;have hsz:(Z6 qu).size=a₀.size:=by rw[<- aA,p2.perm.length_eq,aA]
   refine aI (q qu (dE.mpr p2.perm) p2.failed ?_);rw[<- hsz];apply VV;rw[uY]
   match S',hS with
   |[],_=>exact eH
   |[X],_=>rw[jI,List.flatten_nil,bP];exact p2.srt X al
end
def list_sort_big(m:κ.OneLt)(g:s.heap.get? a=XV (seqObj "list" vs.toArray n))(o:i8 κ (pairsOf vs))(p:∀r t b,vs=r::t::b->keyKind' (r::t::b).toArray=pure oneType')
  (u:vs.length<=4000000) (q:∀c:bV,(Z6 c).Perm (pairsOf vs)->js κ (Z6 c) (pairsOf vs).size->P (Fin.done (Flow.ret gk)) { heap:=sortedHeap s.heap a vs (gj (λx=>x.snd) (Z6 c)),gens:=s.gens,drawn:=s.drawn,toks:=s.toks,os:=s.os }):ao (aw prog w) A (dN.«list.sort» { pos:=[fU a] }) P E s:=by
 by_cases v:vs.length<64
 ·exact list_sort_treeK m g o p v q
 rw[list_sort_plain];have y:(4000000:Nat)<=KB:=by decide
 obtain⟨v1,d,b,rfl⟩:∃v1 d b,vs=v1::d::b:=by
  match vs,v with
  |[],h=>exact absurd (by show 0<64;decide) h
  |[_],h=>exact absurd (by show 1<64;decide) h
  |v1::d::b,_=>exact⟨v1,d,b,rfl⟩
 generalize k:v1::d::b=vs at *;have z:=bI (bu λ_=>#[]) g rfl;have B:=ag (seqObj "list" #[] 0) (ag (seqObj "tuple" vs.toArray 0) z);refine aa (iZ g rfl (aa (iy g rfl (aa (jn z rfl (aa (jf (aa (gz (bD ?_) 'u')) (by simpa using aE u y))))) (by simpa using aE u y) (by show 0<=KB+1;lia))));have f:¬ vs.toArray.size<2:=by rw[aF];lia
 show ao (aw prog w) A (if vs.toArray.size<2 then _ else _) P E _;rw[Z5 f,<- k,p v1 d b k.symm,k];refine aa (aj ?_);rw[Z5 f];show ao (aw prog w) A (sortRuns'.run (lA oneType' (vs.toArray.zip vs.toArray) #[] 7 X9) >>= _) P E { heap:=((s.heap.update a (bu λx=>#[])).push (seqObj "tuple" vs.toArray 0)).push (seqObj "list" #[] 0),gens:=s.gens,drawn:=s.drawn,toks:=s.toks,os:=s.os };refine aa (cw (Ql (Q:=λ_ c=>(Z6 c).Perm (pairsOf vs)/\failedOf c=X9/\js κ (Z6 c) (pairsOf vs).size) (vI.one m) (a₀:=pairsOf vs) o (iY _) rfl rfl rfl λc i j l=>⟨i,j,l⟩) ?_ λ_ _ h=>h);rintro⟨_,c⟩ C ⟨rfl,i,j,l⟩;have D:(gj (λx=>x.snd) (Z6 c)).size<=4000000:=by
  rw[k9,i.size_eq];show(vs.toArray.zip vs.toArray).size<=_;rw[nU,aF];lia
 refine aa (jn B rfl (aa (iy B rfl ?_ (by show 0<=KB;lia) (by show(gj _ _).size<=KB+1;lia))));dsimp only at j;show ao (aw prog w) A (match failedOf c with|some e=>_|x=>_) P E _;rw[j];show ao (aw prog w) A (if ((if _ then n else n+1) !=(if _ then n else n+1))=YP then _ else _) P E _;rw[Z5 'k'];exact aj (q c i l)
def BP:ae->Option (List Nat)
 |.str x _=>XV x.cps.toList
 |_=>X9
def allS:List ae->Option (List (List Nat))
 |[]=>XV []
 | v::vs=>match BP v,allS vs with
  |some a,XV r=>XV (a::r)
  |_,_=>X9
def zT(h:aX):ae->Option (List (List Nat))
 | .ref t=>match h.get? t with
  | some o=>match o.data with
   |.seq h_ _=>allS h_.toList
   |_=>X9
  |none=>X9
 |_=>X9
def llt_irrefl(a:List (List Nat)):¬ a<a:=fG a
def llt_trans{a b c:List (List Nat)}(d:a<b)(e:b<c):a<c:=iz d e
def llt_total{a b:List (List Nat)}(c:¬ a<b)(d:¬ b<a):a=b:=jZ (iu.mp d) (iu.mp c)
def zY(h:aX):aW where
 α:=List (List Nat)
 blt:=λa b=>decide (a<b)
 irrefl:=λa=>decide_eq_false (llt_irrefl a)
 trans:=λa b c h1 h2=>decide_eq_true (llt_trans (of_decide_eq_true h1) (of_decide_eq_true h2))
 negTrans:=λa b c h=>by
  by_cases h1:a<b
  ·exact .inl (decide_eq_true h1)
  ·right;have hac:=of_decide_eq_true h;by_cases h2:b<a
   ·exact decide_eq_true (llt_trans h2 hac)
   ·rw[<- llt_total h1 h2];exact h
 total:=λa b h1 h2=>llt_total (of_decide_eq_false h1) (of_decide_eq_false h2)
 keyOf:=zT h
 dflt:=[]
def yO:List (List Nat)->List (List Nat)->Option Bool
 |a::as,b::bs=>if a=b then yO as bs else XV (decide (a<b))
 |_,_=>X9
theorem OK:∀c d:List (List Nat),(match yO c d with|some r=>r|none=>decide (c.length<d.length))=decide (c<d)
 |[],[]=>by simp[yO]
 |[],b::d=>by simp[yO]
 |a::c,[]=>by simp[yO]
 | a::c,b::d=>by
  unfold yO;by_cases e:a=b
  ·subst e;rw[Y2 rfl];have:=OK c d;rw[aO,aO];have f:decide (c.length+1<d.length+1)=decide (c.length<d.length):=by simp
   rw[f,this];simp[lc]
  ·rw[Z5 e];show decide (a<b)=_;simp[lc,e]
theorem Rc
  (l:∀x y i a b{Q:ForInStep (Option Bool×Unit)->af->Prop},BP x=XV a->BP y=XV b->Q (if a=b then .yield (X9,()) else .done (XV (decide (a<b)),())) s->ao M A (f ((x,y),i) (X9,())) Q E s):
  ∀(xs c:List ae)(as bs:List (List Nat))(j:Nat){Q:Option Bool×Unit->af->Prop},allS xs=XV as->allS c=XV bs->Q (yO as bs,()) s->ao M A (forIn ((xs.zip c).zipIdx j) (X9,()) f) Q E s
 | [],c,as,bs,j,Q,h1,h2,q=>by
  cases h1;exact aj (by cases bs<;>exact q)
 | x::xs,[],as,bs,j,Q,h1,h2,q=>by
  cases h2;exact aj (by cases as<;>exact q)
 | x::xs,y::c,as,bs,j,Q,h1,h2,q=>by
  unfold allS at h1 h2;split at h1
  ·rename_i a d m g;split at h2
   ·rename_i b h n k;cases h1;cases h2;rw[jt,m7,iW];refine aa (l x y j a b m n ?_);unfold yO at q;by_cases e:a=b
    ·rw[Y2 e] at q ⊢;exact Rc l xs c d h (j+1) g k q
    ·rw[Z5 e] at q ⊢;exact aj q
   ·cases h2
  ·cases h1
theorem Pp{M:iS}{A:a7}{E:ae->af->Prop}{s:af}{α a:Type}{f:α->Sem a}(g:α->a):∀(l:List α){Q:List a->af->Prop},(∀v∈l,∀(b:a->af->Prop),b (g v) s->ao M A (f v) b E s)->Q (l.map g) s->ao M A (List.mapM f l) Q E s
 |[],Q,_,q=>by rw[List.mapM_nil];exact aj q
 | v::l,Q,h,q=>by
  rw[List.mapM_cons];exact aa (h v al _ (aa (Pp g l (λu c=>h u (ai _ c)) (aj q))))
def PF{M:iS}{A:a7}{E:ae->af->Prop}{s:af}{α a:Type}{f:α->Sem a}(g:α->a)(l:List α){Q:Array a->af->Prop}(h:∀v∈l,∀(b:a->af->Prop),b (g v) s->ao M A (f v) b E s)(q:Q (l.map g).toArray s):ao M A (Array.mapM f l.toArray) Q E s:=by rw[Array.mapM_eq_mapM_toList];refine aa (Pp g l h (aj q))
section
variable{prog:aM}{w:aV}{A:a7}{E:ae->af->Prop}{s:af}
def C8(h:BP v=XV a):∃x t,v=.str x t/\x.cps.toList=a:=by
 cases v with
 |str x t=>exact⟨x,t,rfl,by cases h;rfl⟩
 |_=>cases h
def WE(c:BP x=XV a)(d:BP y=XV b)(q:Q (decide (a<b)) s):ao (aw prog w) A (oneLt' o x y) Q E s:=by
 obtain⟨x,t,rfl,rfl⟩:=C8 c;obtain⟨y,u,rfl,rfl⟩:=C8 d;cases o with
 |true=>exact lL prog w A E s _ _ _ _ rfl rfl q
 | false=>
  rw[oneLt'_eq,Z5 'u'];refine aa (show ao (aw prog w) A (cm CmpOp.Lt _ _) _ E s from P.lt_str ?_);exact aj q
structure TupS(h:aX)(v:ae)(ks:List (List Nat)):Prop where
 ok:∃t o h_ c,v=.ref t/\h.get? t=XV o/\o.cls=.type "tuple"/\o.data=.seq h_ c/\allS h_.toList=XV ks
noncomputable def AO(h:aX)(v:ae):Option ae:=match v with
 | .ref t=>match h.get? t with
  | some o=>match o.data with
   |.seq h_ _=>h_[0]?
   |_=>X9
  |none=>X9
 |_=>X9
def QC(g:h.get? t=XV o)(a:o.data=.seq h_ c):AO h (.ref t)=h_[0]?:=by show(match h.get? t with|some o=>(match o.data with|.seq h_ _=>h_[0]?|_=>X9)|none=>X9)=_;rw[g];dsimp only;rw[a]
def N_(e:zT h v=XV ks):∃t o a c,v=.ref t/\h.get? t=XV o/\o.data=.seq a c/\allS a.toList=XV ks:=by
 cases v with
 | ref t=>
  unfold zT at e;dsimp only at e;cases g:h.get? t with
  |none=>rw[g] at e;cases e
  | some o=>
   rw[g] at e;dsimp only at e;cases b:o.data with
   |seq a c=>rw[b] at e;exact⟨t,o,a,c,rfl,g,b,e⟩
   |_=>rw[b] at e;cases e
 |_=>cases e
def Kc(ok:TupS h v ks)(d:ks≠[]):∃x tk,AO h v=XV (.str x tk):=by
 obtain⟨t,o,f,c,rfl,g,k,i,b⟩:=ok;rw[QC g i,<- di];cases e:f.toList with
 |nil=>rw[e] at b;cases b;exact absurd rfl d
 | cons x r=>
  rw[e] at b;unfold allS at b;split at b
  ·rename_i a l j m;obtain⟨y,tk,rfl,_⟩:=C8 j;exact⟨y,tk,rfl⟩
  ·cases b
theorem JP:∀{l:List ae}{ks:List (List Nat)},allS l=XV ks->l.length=ks.length
 |[],ks,h=>by cases h;rfl
 | v::l,ks,h=>by
  unfold allS at h;split at h
  ·rename_i a r c b;cases h;rw[aO,aO,JP b]
  ·cases h
def z9O{vs:List ae}(R:2<=vs.length)(j:∀v∈vs,∃ks,TupS s.heap v ks/\ks≠[]){Q:KT->af->Prop}(q:∀kd:KT,vI prog w A s (zY s.heap) kd->Q kd s):ao (aw prog w) A (keyKind' vs.toArray) Q E s:=by
 show ao (aw prog w) A (_ >>= _) Q E s;refine aa (PF (AO s.heap) vs (λv f k H=>?_) ?_)
 ·obtain⟨ks,⟨t,o,S,c,rfl,g,T,J,ha⟩,l⟩:=j v f;show ao (aw prog w) A (typeOf (.ref t) >>= _) k E s;refine aa (wpAny_typeOf_ref g ?_);rw[T];show ao (aw prog w) A (kH (.ref t) >>= _) k E s;refine aa (iZ g J (aj ?_));rw[<- QC g J];exact H
 ·have U:((vs.map (AO s.heap)).toArray.all λx=>x.isSome)=YP:=by
   rw[m8,ar];intro x d;obtain⟨v,f,rfl⟩:=aB.mp d;obtain⟨ks,B,l⟩:=j v f;obtain⟨y,m,e⟩:=Kc B l;rw[e];rfl
  rw[Y2 U];refine aa (dG ?_);have V:∀u∈(vs.map (AO s.heap)).filterMap id,∃y m,u=.str y m:=λu W=>by
   obtain⟨x,d,e⟩:=gN.mp W;obtain⟨v,f,rfl⟩:=aB.mp d;obtain⟨ks,B,l⟩:=j v f;obtain⟨y,m,C⟩:=Kc B l;rw[C] at e;injection e with e;exact⟨y,m,e.symm⟩
  have D:(vs.map (AO s.heap)).filterMap id≠[]:=by
   match vs,R,j with
   | v::_,_,j=>
    obtain⟨ks,B,l⟩:=j v al;obtain⟨y,m,C⟩:=Kc B l;rw[bh,C];simp
  rw[List.filterMap_toArray];generalize (vs.map (AO s.heap)).filterMap id=n at *;refine aa ?_;show ao (aw prog w) A (Array.mapM typeOf n.toArray >>= _) _ E s;refine aa (PF (λ_=>e9 "str") n (λv f k H=>?_) ?_)
  ·obtain⟨y,m,rfl⟩:=V v f;exact aj H
  ·have X:((n.map λ_=>e9 "str").toArray)[0]?=XV (e9 "str"):=by
    cases n with
    |nil=>exact absurd rfl D
    |cons _ _=>rfl
   rw[X];have I:((n.map λ_=>e9 "str").toArray.all λx=>x==e9 "str")=YP:=by
    rw[m8,ar];intro x d;obtain⟨_,_,rfl⟩:=aB.mp d;rfl
   show ao (aw prog w) A (pure (if ((n.map λ_=>e9 "str").toArray.all λx=>x==e9 "str")=YP then XV (e9 "str") else X9)) _ E s;rw[I];refine aj (aj (q _ ?_));intro x y K k d p z;obtain⟨(F:List (List Nat)),d⟩:=d;obtain⟨(G:List (List Nat)),p⟩:=p;have Y:ky (zY s.heap) x=F:=by unfold ky;rw[d];rfl
   have Z:ky (zY s.heap) y=G:=by unfold ky;rw[p];rfl
   rw[Y,Z] at z;obtain⟨t,o,S,c,I,g1,d1,L⟩:=N_ d;obtain⟨t2,o2,rW,c2,C,g2,d2,M⟩:=N_ p;rw[I,C];show ao (aw prog w) A (kH (.ref t) >>= _) k K s;refine aa (iZ g1 d1 (aa (iZ g2 d2 (aa (Rc ?_ _ _ F G 0 L M ?_)))))
   ·intro x y i a b Q d p q;obtain⟨x,t,rfl,rfl⟩:=C8 d;obtain⟨y,u,rfl,rfl⟩:=C8 p;show ao (aw prog w) A (eqBool (.str x t) (.str y u) >>= _) Q K s;refine aa (wpAny_eqBool_str ?_);by_cases e:x=y
    ·subst e;rw[Y2 rfl] at q;rw[decide_eq_true rfl];exact aj q
    ·have ne:x.cps.toList≠y.cps.toList:=λh=>e (by
      cases x;cases y;dsimp only at h;rw[m9.mp h])
     rw[Z5 ne] at q;rw[decide_eq_false e];exact aa (WE rfl rfl (aj q))
   ·have N:=JP L;have O:=JP M;rw[aA] at N O;have P:=OK F G;rw[<- N,<- O] at P
    replace z:k (decide (F<G)) s:=z
    rw[<- P] at z;generalize yO F G=r at *;cases r with
    |none=>exact aj z
    |some r=>exact aj z
end
def keyT(h:aX)(v:ae):List (List Nat):=(zT h v).getD []
def Q2(h:p∈(pairsOf vs).toList):p.1=p.2/\p.1∈vs:=by
 have e:(pairsOf vs).toList=vs.zip vs:=by simp[pairsOf]
 rw[e] at h;have a:vs.zip vs=vs.map λv=>(v,v):=by
  clear h e
  induction vs with
  |nil=>rfl
  |cons v r ih=>rw[jt,ih];rfl
 rw[a] at h;obtain⟨v,b,rfl⟩:=aB.mp h;exact⟨rfl,b⟩
def zdu(vs:List ae):(pairsOf vs).toList.map (λx=>x.2)=vs:=by
 have e:(pairsOf vs).toList=vs.zip vs:=by simp[pairsOf]
 rw[e]
 induction vs with
 |nil=>rfl
 |cons v r ih=>rw[jt,bh,ih (by simp[pairsOf])]
def z6R(D:s.heap.get? a=XV (seqObj "list" vs.toArray n))(hv:∀v∈vs,∃ks,TupS s.heap v ks/\(2<=vs.length->ks≠[]))(R:vs.length<=4000000)
  (q:∀d:Array ae,d.toList.Perm vs->d.toList.Pairwise (λx y=>¬ keyT s.heap y<keyT s.heap x)->P (Fin.done (Flow.ret gk)) { heap:=sortedHeap s.heap a vs d,gens:=s.gens,drawn:=s.drawn,toks:=s.toks,os:=s.os }):ao (aw prog w) A (dN.«list.sort» { pos:=[fU a] }) P E s:=by
 rw[list_sort_plain];have S:(4000000:Nat)<=KB:=by decide
 have T:=bI (bu λ_=>#[]) D rfl;have F:=ag (seqObj "list" #[] 0) (ag (seqObj "tuple" vs.toArray 0) T);have f:∀v∈vs,∃ks,TupS (((s.heap.update a (bu λx=>#[])).push (seqObj "tuple" vs.toArray 0)).push (seqObj "list" #[] 0)) v ks/\(2<=vs.length->ks≠[])/\zT (((s.heap.update a (bu λx=>#[])).push (seqObj "tuple" vs.toArray 0)).push (seqObj "list" #[] 0)) v=zT s.heap v:=λv h=>by
  obtain⟨ks,⟨t,o,m,c,rfl,g,J,K,L⟩,qx⟩:=hv v h;have ne:a≠t:=λe=>by
   subst e;rw[D] at g;cases g;exact absurd J 'k'
  have U:=ag (seqObj "list" #[] 0) (ag (seqObj "tuple" vs.toArray 0) ((bj s.heap (bu λ_=>#[]) ne).trans g));refine⟨ks,⟨t,o,m,c,rfl,U,J,K,L⟩,qx,?_⟩;show(match Heap.get? _ t with|some o=>(match o.data with|.seq m _=>allS m.toList|_=>X9)|none=>X9)=(match s.heap.get? t with|some o=>(match o.data with|.seq m _=>allS m.toList|_=>X9)|none=>X9);rw[U,g]
 refine aa (iZ D rfl (aa (iy D rfl (aa (jn T rfl (aa (jf (aa (gz (bD ?_) 'u')) (by simpa using aE R S))))) (by simpa using aE R S) (by show 0<=KB+1;lia))));show ao (aw prog w) A _ P E { heap:=((s.heap.update a (bu λx=>#[])).push (seqObj "tuple" vs.toArray 0)).push (seqObj "list" #[] 0),gens:=s.gens,drawn:=s.drawn,toks:=s.toks,os:=s.os };generalize hH:((s.heap.update a (bu λx=>#[])).push (seqObj "tuple" vs.toArray 0)).push (seqObj "list" #[] 0)=H at *;have B:∀b:bV,(Z6 b).Perm (pairsOf vs)->failedOf b=X9->js (zY H) (Z6 b) (pairsOf vs).size->(gj (λx=>x.snd) (Z6 b)).toList.Perm vs/\(gj (λx=>x.snd) (Z6 b)).toList.Pairwise (λx y=>¬ keyT s.heap y<keyT s.heap x):=λb r _ u=>by
  have V:=dE.mp r;refine⟨?_,?_⟩
  ·rw[ng];have:=V.map (λx:a8=>x.2);rw[zdu] at this;exact this
  ·rw[ng,fB];intro i j W G yA;rw[au,aA] at W G;rw[iG,iG];have X:=u i j 'd' (by rw[<- r.size_eq];exact G);have Y:∀k(h:k<(Z6 b).size),KK (zY H) (Z6 b) k=keyT s.heap ((Z6 b).toList[k]'(by rw[aA];exact h)).2:=λk h=>by
    unfold KK;rw[aU h];have hm:(Z6 b)[k]∈(pairsOf vs).toList:=V.mem_iff.mp (by rw[<- fC];exact cu _);obtain⟨Z,z⟩:=Q2 hm;obtain⟨ks,_,_,h3⟩:=f _ z;dsimp only;show(zT H (Z6 b)[k].1).getD []=_;rw[h3,fC,<- Z];rfl
   rw[Y i W,Y j G] at X;exact of_decide_eq_false X
 have M:i8 (zY H) (pairsOf vs):=λp I=>by
  obtain⟨Z,z⟩:=Q2 I;obtain⟨ks,⟨t,o,m,c,e,g,J,K,L⟩,_⟩:=f _ z;refine⟨ks,?_⟩;show zT H p.1=XV ks;rw[e];show(match H.get? t with|some o=>(match o.data with|.seq m _=>allS m.toList|_=>X9)|none=>X9)=_;rw[g];dsimp only;rw[K];exact L
 have up:∀d:Array ae,H.update a (bu λ_=>d)=sortedHeap s.heap a vs d:=λd=>by rw[<- hH];rfl
 by_cases z:vs.length<2
 ·have l:vs.toArray.size<2:=by rw[aF];exact z
  show ao (aw prog w) A (if vs.toArray.size<2 then _ else _) P E _;rw[Y2 l];refine aa (aj ?_);rw[Y2 l];have pz:(pairsOf vs).size=vs.length:=by simp[pairsOf]
  obtain⟨N,O⟩:=B (lA general' (pairsOf vs) #[] 7 X9) (iY _) rfl (λi j yA G=>by
   have:i=j:=by lia
   subst this;exact zW _)
  refine aa (aj ?_);have I:(gj (λx=>x.snd) (Z6 (lA general' (pairsOf vs) #[] 7 X9))).size<=4000000:=by
   rw[k9];show(pairsOf vs).size<=_;lia
  refine aa (jn F rfl (aa (iy F rfl ?_ (by show 0<=KB;lia) (by show(gj _ _).size<=KB+1;exact aE I 'd'))));show ao (aw prog w) A (if ((if _ then n else n+1) !=(if _ then n else n+1))=YP then _ else _) P E _;rw[Z5 'k'];refine aj ?_;have:=q _ N O;rw[<- up] at this;exact this
 ·have l:¬ vs.toArray.size<2:=by rw[aF];exact z
  show ao (aw prog w) A (if vs.toArray.size<2 then _ else _) P E _;rw[Z5 l];refine aa (z9O (s:={ heap:=H,gens:=s.gens,drawn:=s.drawn,toks:=s.toks,os:=s.os }) 'd' (λv h=>by obtain⟨ks,k1,k2,_⟩:=f v h;exact⟨ks,k1,k2 'd'⟩) λkd ho=>?_);rw[Z5 l];show ao (aw prog w) A (sortRuns'.run (lA kd (vs.toArray.zip vs.toArray) #[] 7 X9) >>= _) P E _;refine aa (cw (Ql (kd:=kd) (κ:=zY H) (Q:=λ_ b=>(Z6 b).Perm (pairsOf vs)/\failedOf b=X9/\js (zY H) (Z6 b) (pairsOf vs).size) ho (a₀:=pairsOf vs) M (iY _) rfl rfl rfl λb r C u=>⟨r,C,u⟩) ?_ λ_ _ h=>h);rintro⟨_,b⟩ s' ⟨rfl,r,C,u⟩;dsimp only at r C u;obtain⟨N,O⟩:=B b r C u;have I:(gj (λx=>x.snd) (Z6 b)).size<=4000000:=by
   rw[k9,r.size_eq];show(vs.toArray.zip vs.toArray).size<=_;rw[nU,aF];lia
  refine aa (jn F rfl (aa (iy F rfl ?_ (by show 0<=KB;lia) (by show(gj _ _).size<=KB+1;lia))));show ao (aw prog w) A (match failedOf b with|some e=>_|x=>_) P E _;rw[C];show ao (aw prog w) A (if ((if _ then n else n+1) !=(if _ then n else n+1))=YP then _ else _) P E _;rw[Z5 'k'];refine aj ?_;have:=q _ N O;rw[<- up] at this;exact this
def TupS.mono(k:∀b o,h.get? b=XV o->h'.get? b=XV o)(x:TupS h v ks):TupS h' v ks/\keyT h' v=keyT h v:=by obtain⟨t,o,a,c,rfl,g,e,f,i⟩:=x;have d:=k t o g;refine⟨⟨t,o,a,c,rfl,d,e,f,i⟩,?_⟩;show((match h'.get? t with|some o=>(match o.data with|.seq a _=>allS a.toList|_=>X9)|none=>X9):Option _).getD []=((match h.get? t with|some o=>(match o.data with|.seq a _=>allS a.toList|_=>X9)|none=>X9):Option _).getD [];rw[d,g]
def sorted_tups(t:s.heap.IsList l vs.toArray)(f:∀v∈vs,∃ks,TupS s.heap v ks/\(2<=vs.length->ks≠[]))(g:vs.length<=4000000)
  (h:∀a:Array ae,a.toList.Perm vs->a.toList.Pairwise (λx y=>¬ keyT s.heap y<keyT s.heap x)->Q (.ref (s.heap.objs.size+1)) { heap:=sortedAll s.heap vs a,gens:=s.gens,drawn:=s.drawn,toks:=s.toks,os:=s.os }):ao (aw prog w) A (call (.builtin "sorted") [.ref l]) Q E s:=by
 have i:vs.length<=KB:=aE g 'u';refine gL mT mj ml (mm _) ?_;unfold dN.«sorted»;refine aa (m:=checkCount "sorted" 1 1 _) (aj ?_);refine aa (collect_list t (aa (gz ?_ i)) i);have j:∀b o,s.heap.get? b=XV o->(((s.heap.push (seqObj "list" #[] 0)).update s.heap.objs.size (bu λx=>x++vs.toArray)).push (seqObj "list" vs.toArray 0)).get? b=XV o:=λb o e=>by
  have u:s.heap.objs.size≠b:=λq=>absurd (aK e) (by rw[<- q];exact bz _);exact ag _ ((bj _ _ u).trans (ag _ e))
 have k:(((s.heap.push (seqObj "list" #[] 0)).update s.heap.objs.size (bu λx=>x++vs.toArray)).push (seqObj "list" vs.toArray 0)).get? ((s.heap.push (seqObj "list" #[] 0)).update s.heap.objs.size (bu λx=>x++vs.toArray)).objs.size=XV (seqObj "list" vs.toArray 0):=aJ _ rfl;have z:((s.heap.push (seqObj "list" #[] 0)).update s.heap.objs.size (bu λx=>x++vs.toArray)).objs.size=s.heap.objs.size+1:=by rw[Heap.size_update,dh]
 refine aa (bD (b9 lf ⟨_,k,rfl⟩ ku (z6R k (λv c=>by
  obtain⟨ks,d,n⟩:=f v c;exact⟨ks,(d.mono j).1,n⟩) g λa p B=>⟨_,rfl,?_⟩) (lg _)))
 refine aj ⟨_,rfl,?_⟩;have r:∀v∈a.toList,keyT (((s.heap.push (seqObj "list" #[] 0)).update s.heap.objs.size (bu λx=>x++vs.toArray)).push (seqObj "list" vs.toArray 0)) v=keyT s.heap v:=λv c=>by
  obtain⟨ks,d,n⟩:=f v (p.mem_iff.mp c);exact(d.mono j).2
 have C:a.toList.Pairwise (λx y=>¬ keyT s.heap y<keyT s.heap x):=by
  refine List.Pairwise.imp_of_mem ?_ B;intro x y D F G;rw[<- r x D,<- r y F];exact G
 have:=h a p C;unfold sortedAll at this;rw[<- z] at this;exact this
end TS
namespace DL
open PySem
def XX(t:j0)(b:Array (Int×ae))(h:Int)(x:ae):(layNew t b h x).2.1.led=t.led:=by
 unfold layNew;split
 ·rename_i a c _;show((t.put a).1.orStandIn _).led=_;unfold SetTable.orStandIn;split<;>rfl
 ·rfl
def zdE(t:j0)(a:Array (Int×ae))(n:Nat):(relayAll t a n).2.1.led=t.led/\(t.plain=Y1->(relayAll t a n).2.1.plain=Y1):=by
 unfold relayAll;cases h:t.relaid (a.map (·.1)) n with
 |none=>exact⟨rfl,λ_=>rfl⟩
 | some p=>
  obtain⟨c,b⟩:=p;have d:c.led=t.led/\c.plain=t.plain:=by
   unfold SetTable.relaid SetTable.laid at h;cases f:SetTable.layClean (SetTable.sizeAbove n-1) (a.map (·.1)) with
   |none=>rw[f] at h;cases h
   |some ow=>rw[f] at h;cases h;exact⟨rfl,rfl⟩
  dsimp only;split
  ·exact⟨d.1,λe=>d.2.trans e⟩
  ·exact⟨rfl,λ_=>rfl⟩
def wL(w:aV):Bool:=w.params.followText "set-order"
def s9(e:Int×ae):Str:=match e.2 with
 |.str x _=>x
 |_=>⟨#[]⟩
def oM(P:aM)(w:aV)(a:ab)(ks:List Str)(h:aX):Prop:=
 ∃o es ep t,h.get? a=XV o/\o.ExactSet/\o.data=.set es ep t/\iM (strKind P w) es.toList/\(es.toList.map s9).Perm ks/\ks.Nodup/\es.size<scanBound/\t.fits es.size=YP/\(wL w=Y1->t.led=YP)/\(es.size≠0->t.plain=Y1)
section
variable{P:aM}{w:aV}{A:a7}{E:ae->af->Prop}{s:af}{a:ab}{ks:List Str}
def oM.keep(k:∀o,h.get? a=XV o->h'.get? a=XV o):oM P w a ks h->oM P w a ks h':=λ⟨o,b,c,t,d,r⟩=>⟨o,b,c,t,k o d,r⟩
def oM.size(x:oM P w a ks h):∃o b c t,h.get? a=XV o/\o.data=.set b c t/\b.size=ks.length:=by obtain⟨o,b,c,t,d,g,e,i,f,_⟩:=x;exact⟨o,b,c,t,d,e,by rw[<- f.length_eq];simp⟩
def JQ(h:iM (strKind P w) l)(b:e∈l):∃t,e.2=.str (s9 e) t:=by obtain⟨⟨k,c,_⟩,_⟩:=h e b;obtain⟨t,d⟩:=i6 (x:=k) (v:=e.2) c;exact⟨t,by unfold s9;rw[d]⟩
def NV(h:e.2=.str (s9 e) t)(x:Str):(strKind P w).is x e.2=YP↔s9 e=x:=by
 rw[h];constructor
 ·intro q;obtain⟨c,b⟩:=i6 (x:=x) (v:=.str (s9 e) t) q;injection b
 ·intro q;rw[q];show ft x (.str x t)=YP;simp[ft]
def vL(ks:List Str)(x:Str):List Str:=if ks.contains x=YP then ks else ks++[x]
def Om{h:aX}{o:Obj}{d es':Array (Int×ae)}{b:Nat}{t t':j0}{ks':List Str}(e:h.get? a=XV o)(f:o.ExactSet)(c:o.data=.set d b t)(i:iM (strKind P w) es'.toList)(j:(es'.toList.map s9).Perm ks')(k:ks'.Nodup)
  (l:es'.size<scanBound) (m:t'.fits es'.size=YP) (n:wL w=Y1->t'.led=YP) (p:es'.size≠0->t'.plain=Y1):oM P w a ks' (h.update a (lB es' t'))/\(h.update a (lB es' t')).get? a=XV { o with data:=.set es' (b+1) t' }:=by have g:=bI (lB es' t') e (by rw[putSet_of es' t' c];rfl);rw[putSet_of es' t' c] at g;exact⟨⟨_,es',b+1,t',g,f,rfl,i,j,k,l,m,n,p⟩,g⟩
def Um{x:Str}{tk:Tok}{Q:Bool->af->Prop}(hS:oM P w a ks s.heap)(uT:ks.length+1<scanBound)
  (h:∀b h',cG a s.heap h'->oM P w a (vL ks x) h'->Q b { s with heap:=h' }):
  ao (aw P w) A (setAddHashed a (.str x tk) ((strKind P w).hash x)) Q E s:=by
 obtain⟨o,i,ep,t,m,F,n,l,k,U,V,G,H,rz⟩:=hS;have W:(strKind P w).is x (.str x tk)=YP:=by show ft x (.str x tk)=YP;simp[ft]
 have hsz:i.size=ks.length:=by rw[<- k.length_eq];simp
 unfold setAddHashed setAddHashedIn;refine bD (aa (fx m n G ?_));dsimp only;rw[byScan_of (x:=.str x tk) rfl V l,Y2 rfl];unfold setAddByScan;refine aa (aa (dG (aa (wpAny_setScan_of W m n G l ?_))));cases X:List.findIdx? (λe=>(strKind P w).is x e.2) i.toList with
 | some j=>
  dsimp only;obtain⟨Y,I,_⟩:=List.findIdx?_eq_some_iff_getElem.mp X;have rJ:x∈ks:=by
   obtain⟨t',J⟩:=JQ l (cu Y);have:=(NV J x).mp I;exact k.mem_iff.mp (aB.mpr ⟨_,cu Y,this⟩)
  refine aj (aj ?_);have:=h Y1 s.heap (Heap.SameBut.refl a s.heap) (by
   unfold vL;rw[Y2 (be.mpr rJ)];exact⟨o,i,ep,t,m,F,n,l,k,U,V,G,H,rz⟩)
  cases s;exact this
 | none=>
  dsimp only;have Z:x∉ks:=λhm=>by
   obtain⟨e,he,ek⟩:=aB.mp (k.mem_iff.mpr hm);obtain⟨t',J⟩:=JQ l he;have:=List.findIdx?_eq_none_iff.mp X e he;rw[(NV J x).mpr ek] at this;cases this
  have ea:vL ks x=ks++[x]:=by unfold vL;rw[Z5 (λz=>Z (be.mp z))]
  have u:=layNew_perm t i ((strKind P w).hash x) (.str x tk);have y:=layNew_fits t i ((strKind P w).hash x) (.str x tk);have B:=XX t i ((strKind P w).hash x) (.str x tk);generalize layNew t i ((strKind P w).hash x) (.str x tk)=L at u y B ⊢;obtain⟨c,t1,wd,gv⟩:=L;dsimp only at u y B ⊢;rw[eI] at u;have E_:iM (strKind P w) c.toList:=(l.push W rfl).perm u;have K:(c.toList.map s9).Perm (ks++[x]):=by
   refine(u.map s9).trans ?_;rw[bT];exact k.append_right _
  have EV:(ks++[x]).Nodup:=by
   rw[dF];exact⟨U,by simp,λp k q C=>by
    have:q=x:=by simpa using C
    subst this;rintro rfl;exact Z k⟩
  have HM:c.size=ks.length+1:=by rw[<- aA,<- au (f:=s9),K.length_eq];simp
  have M:c.size<scanBound:=by rw[HM];exact uT
  have gw:∀(b:Bool){N:af}{O:Unit->af->Prop},O () N->ao (aw P w) A (match b with|true=>rule "set.scan.the-table-gave-way"|false=>pure ()) O E N:=λb N O C=>by
   cases b
   ·exact aj C
   ·exact dG C
  refine aa (gw _ ?_);have g:∀d:j0,d.led=t.led->d.plain=Y1->d.fits c.size=YP->ao (aw P w) A (do
    storeSet a c d
    if (!wd&&d.tooFull)=YP then do
      (match (relayAll d c (fH c.size)).2.2 with|true=>rule "set.scan.the-table-gave-way"|false=>pure ())
      storeSet a (relayAll d c (fH c.size)).1 (relayAll d c (fH c.size)).2.1
      pure (XV YP)
     else pure (XV YP)) (λr s'=>ao (aw P w) A (match r with|some added=>(pure added:Sem Bool)|none=>setAddHashedIn a (.str x tk) ((strKind P w).hash x) 99999) Q E s') E s:=by
   intro d h1 h2 h3;obtain⟨S1,g1⟩:=Om (P:=P) (w:=w) (ks':=ks++[x]) (es':=c) (t':=d) m F n E_ K EV M h3 (λe=>h1.trans (H e)) (λ_=>h2);have sb:=cK s.heap a (lB c d);refine aa (wpAny_storeSet_of m n ?_ (jJ M));split
   ·have v:=relayAll_perm d c (fH c.size);have S:=relayAll_fits d c (fH c.size);have D:=zdE d c (fH c.size);generalize relayAll d c (fH c.size)=R at v S D ⊢;obtain⟨T,t3,gv2⟩:=R;dsimp only at v S D ⊢;have s2:T.size=c.size:=by rw[<- aA,v.length_eq,aA]
    have b2:T.size<scanBound:=by rw[s2];exact M
    refine aa (gw _ (aa (wpAny_storeSet_of g1 rfl ?_ (jJ b2))));obtain⟨S2,_⟩:=Om (P:=P) (w:=w) (ks':=ks++[x]) (es':=T) (t':=t3) g1 F rfl (E_.perm v) ((v.map s9).trans K) EV b2 S (λe=>D.1.trans (h1.trans (H e))) (λ_=>D.2 h2);exact aj (aj (h YP _ (sb.trans (cK _ a _)) (by rw[ea];exact S2)))
   ·exact aj (aj (h YP _ sb (by rw[ea];exact S1)))
  split
  ·rename_i uj;refine aa ?_;rw[hashByValue_scannable 8 (x:=.str x tk) rfl];refine aj ?_;exact g { t1 with plain:=Y1 } B rfl (SetTable.fits_plain_off y)
  ·rename_i uj;refine aa (aj ?_);rw[Y2 rfl];exact g t1 B (by simpa using uj) y
end
def vY(l:List Str):List Str:=l.foldl vL []
def Zo(l:List Str)(x:Str):vY (l++[x])=vL (vY l) x:=by unfold vY;rw[ik];rfl
def Z0(ks:List Str)(x:Str):(vL ks x).length<=ks.length+1:=by unfold vL;split<;>simp
def Pc:∀(l:List Str),(vY l).length<=l.length:=λl=>by
 have:∀(l a:List Str),(l.foldl vL a).length<=a.length+l.length:=by
  intro l
  induction l with
  |nil=>intro a;exact aD _
  |cons x l ih=>intro a;refine aE (ih (vL a x)) ?_;have:=Z0 a x;rw[aO];lia
 have h:=this l [];simpa [vY] using h
def Z9:y∈vL ks x↔y∈ks\/y=x:=by
 unfold vL;split
 ·rename_i h;exact⟨.inl,λq=>q.elim id λe=>by rw[e];exact be.mp h⟩
 ·rw[aH,cF]
def OB:∀(l:List Str),y∈vY l↔y∈l:=λl=>by
 have:∀(l a:List Str),y∈l.foldl vL a↔y∈a\/y∈l:=by
  intro l
  induction l with
  |nil=>intro a;simp
  |cons x l ih=>intro a;rw[eF,ih,Z9,am];exact⟨λh=>by rcases h with(h|h)|h<;>simp[h],λh=>by rcases h with h|h|h<;>simp[h]⟩
 rw[vY,this];simp
section
variable{P:aM}{w:aV}{A:a7}{E:ae->af->Prop}{s:af}{a:ab}{ks:List Str}
def Zb(c:oM P w a ks s.heap)(d:ks.length+1<scanBound)
  (h:∀h',cG a s.heap h'->oM P w a (vL ks x) h'->Q .none { s with heap:=h',toks:=s.toks+1 }):
  ao (aw P w) A (call (.builtin "set.add") [.ref a,.str x tk]) Q E s:=by obtain⟨o,j,l,t,e,f,r⟩:=id c;refine b9 F.slot_set_add ⟨o,e,f.1⟩ F.entry_set_add ?_ (F.args_set_add_2 _ _);unfold dN.«set.add» nY;simp only[nj,bind_assoc];unfold j3 setAdd;refine aa (aj (aa (aj (aa (bD (aa ((strKind P w).pyHash (k:=x) (by show ft x (.str x tk)=YP;simp[ft]) ?_)))))));refine Um (s:={ s with toks:=s.toks+1 }) c d λb h' g i=>?_;exact aj ⟨_,rfl,h h' g i⟩
end
section
variable{w:aV}
abbrev VR(w:aV):Obj:={ cls:=.type "set",dict:=X9,data:=.set #[] 0 (.fresh 0 0 (!wL w)) }
end
def Of:Manifest.owners.lookup (String.ofList ['r','o','t','a','r','e','t','i','_','t','e','s'].reverse)=XV Manifest.sig_set_iterator:=by kernel_rfl
def pf:Slot "set_iterator" "__next__" "set_iterator.__next__":=Slot.of (owner := "set_iterator") (n := "__next__") (by rw[typeLookup_type,lh];kernel_rfl) 'c' 'c' 'c' (by first|exact .inl 'c'|exact .inr 'c') (by rw[isSubtype_type];kernel_rfl)
def OU:Slot "set_iterator" "__iter__" "set_iterator.__iter__":=Slot.of (owner := "set_iterator") (n := "__iter__") (by rw[typeLookup_type,lh];kernel_rfl) 'c' 'c' 'c' (by first|exact .inl 'c'|exact .inr 'c') (by rw[isSubtype_type];kernel_rfl)
def ZL:entryFor table "set_iterator.__next__" = XV dN.«set_iterator.__next__»:=entryFor_of_tree 'b'
def Xx(a:ae):argsOk "set_iterator.__next__" ⟨[a],[]⟩:=by unfold argsOk;rw[signature?_of (id := "set_iterator.__next__") (n:=['_','_','t','x','e','n','_','_']) (o:=['r','o','t','a','r','e','t','i','_','t','e','s']) 'b' Of];kernel_rfl
def X1(a:ae):argsOk "set_iterator.__iter__" ⟨[a],[]⟩:=by unfold argsOk;rw[signature?_of (id := "set_iterator.__iter__") (n:=['_','_','r','e','t','i','_','_']) (o:=['r','o','t','a','r','e','t','i','_','t','e','s']) 'b' Of];kernel_rfl
def zeI:entryFor table "set.__iter__" = XV dN.«frozenset.__iter__»:=entryFor_alias (id' := "frozenset.__iter__") 'b' rfl 'c' 'b'
def ZC:entryFor table "set_iterator.__iter__" = XV dN.«dict_keyiterator.__iter__»:=entryFor_alias (id' := "dict_keyiterator.__iter__") 'b' rfl 'c' 'b'
def G5{α:Type}{l:List α}{i:Nat}{x:α}(h:l[i]?=XV x):(x::l.eraseIdx i).Perm l:=by
 obtain⟨a,e⟩:=aq.mp h;have q:l.take i++x::l.drop (i+1)=l:=by rw[<- e,List.getElem_cons_drop a,cz]
 rw[List.eraseIdx_eq_take_drop_succ];exact List.perm_middle.symm.trans (by rw[q])
theorem Rj{α:Type}(next:Nat->Nat):∀(fuel k:Nat)(left:List α)(a:Array α),left.length=fuel->(mn next fuel k left a).toList.Perm (a.toList++left)
 | 0,k,left,a,h=>by
  have:left=[]:=cj.mp h;subst this;unfold mn;simp
 | fuel+1,k,left,a,h=>by
  unfold mn;have b:next k%left.length<left.length:=Nat.mod_lt _ 'd'
  rw[ay b];dsimp only;have e:=jD b;refine(Rj next fuel (k+1) _ _ (by rw[e];lia)).trans ?_;rw[eI,bg];exact fq _ (G5 (ay b))
def Hv{α:Type}(next:Nat->Nat)(xs:Array α):(pickOrder next xs).toList.Perm xs.toList:=by
 unfold pickOrder;have:=Rj next xs.size 0 xs.toList #[] 'k'
 simpa using this
section
variable{P:aM}{w:aV}{A:a7}{E:ae->af->Prop}{s:af}{a:ab}
def Y7{src:Source}{n:Nat}{Q:Nat->af->Prop}(b:n≠0)(h:∀i d,i<n->Q i { s with drawn:=d }):ao (aw P w) A (choose src n) Q E s:=
 λc p _=>⟨b,h _ _ (Nat.mod_lt _ (Nat.pos_of_ne_zero b))⟩
theorem NA{α:Type}:∀(n:Nat)(xs:List α)(s:af)(Q:List α->af->Prop),xs.length=n->(∀b d,b.Perm xs->Q b { s with drawn:=d })->ao (aw P w) A (drawOrder n xs) Q E s
 | 0,xs,s,Q,h,hq=>by
  have:xs=[]:=cj.mp h;subst this;unfold drawOrder;exact aj (by have:=hq [] s.drawn (eo _);cases s;exact this)
 |n+1,[],s,Q,h,hq=>by simp at h
 | n+1,x::xs,s,Q,h,hq=>by
  unfold drawOrder;refine aa (Y7 'k' λi d c=>?_);rw[ay c];refine aa (NA n _ _ _ (by rw[jD c];simpa using h) λb e f=>aj ?_);exact hq _ e ((List.Perm.cons _ f).trans (G5 (ay c)))
abbrev wA(first:ae)(i:Nat)(a:ab)(n ep:Nat):Obj:={ cls:=.type "set_iterator",data:=.fields #[first,bS i,.ref a,bS n,bS ep] }
def Nk(d:s.TypeIs (.ref I) "set_iterator")(h:ao (aw P w) A.in1 (dN.«set_iterator.__next__» ⟨[.ref I],[]⟩) (λf c=>∃v,f=.done (.ret v)/\Q (XV v) c) (λe c=>∃o,e=.ref o/\(∃ob,c.heap.get? o=XV ob/\ob.cls=.type "StopIteration")/\Q X9 c) s):
  ao (aw P w) A (pyNext (.ref I)) Q E s:=by
 unfold pyNext;refine aa (gq (cP (name := "__next__") d pf (b9 pf d ZL ?_ (Xx _))));refine cw h (λf c g=>?_) λe c i=>?_
 ·obtain⟨v,rfl,q⟩:=g;exact⟨v,rfl,aj q⟩
 ·obtain⟨o,rfl,⟨ob,j,k⟩,q⟩:=i;exact aa (jV (T := "StopIteration") (b:=YP) ⟨ob,j,k⟩ isSubtype_stop (aj q))
end
section
variable{P:aM}{w:aV}{A:a7}{E:ae->af->Prop}{s:af}{a:ab}{o:Obj}{es:Array (Int×ae)}{ep:Nat}{t:j0}
def QU{α:Type}{Q:α->af->Prop}(c:A.handled=X9)(h:∀h' e,(∀b o,s.heap.get? b=XV o->h'.get? b=XV o)->(∃o,h'.get? e=XV o/\o.cls=.type "StopIteration")->E (.ref e) { s with heap:=h' }):
  ao (aw P w) A (newExc (.type "StopIteration") [] >>= λe=>(raiseNew e:Sem α)) Q E s:=by refine aa ?_;simp only[newExc,newTuple];refine aa (cg (?_) (by size_fits));refine aa (m:=firstArgMember _ _) (jl (a:=.none) (by first|rfl|(simp only[firstArgMember];rfl)) (cg ?_ (by size_fits)));simp only[raiseNew];refine aa (wpAny_handled ?_);rw[c];refine aa (aj (wpAny_throw (h _ _ (λb o e=>ag _ (ag _ e)) ⟨_,aJ _ rfl,rfl⟩)))
def Oi(b:s.heap.get? a=XV o)(c:o.data=.set es ep t)(d:t.fits es.size=YP)(g:wL w=YP)(h:Q (((pickOrder (w.params.setOrder a ep) es)[i]?).map λe=>(e.2,sl)) s):
  ao (aw P w) A (setNext a sl i ep) Q E s:=by have f:(aw P w).w.params.followText "set-order" = YP:=g;unfold setNext setsByText;refine aa (fx b c d ?_);dsimp only;refine aa (aa (eV (aj ?_)));rw[f,Y2 rfl,Z5 'k'];refine aa ?_;unfold setWalk setsByText;refine aa (fx b c d ?_);dsimp only;refine aa (aa (eV (aj ?_)));rw[f,Y2 rfl];exact aa (eV (aj (aj h)))
def PB(b:s.heap.get? a=XV o)(c:o.data=.set es ep t)(d:t.fits es.size=YP)(e:wL w=Y1)(l:es.size<=1)(f:t.led=YP)
  (h:Q (match es[eZ t.place sl]?,t.place[eZ t.place sl]? with|some (_,x),XV j=>XV (x,j+1)|_,_=>X9) s):
  ao (aw P w) A (setNext a sl i ep) Q E s:=by
 have g:(aw P w).w.params.followText "set-order" = Y1:=e;unfold setNext setsByText;refine aa (fx b c d ?_);dsimp only;refine aa (aa (eV (aj ?_)));rw[g,Z5 'k'];show ao _ _ (if (!t.plain&&decide (es.size>1))=YP then _ else _) _ _ _;have k:(!t.plain&&decide (es.size>1))=Y1:=by
  rw[decide_eq_false 'd'];simp
 rw[k,Z5 'k'];refine aa ?_;show ao _ _ (if (!t.led && !es.isEmpty)=YP then _ else _) _ _ _;rw[f,Z5 'k'];exact aj (aj h)
def zcg(b:s.heap.get? a=XV o)(c:o.data=.set es ep t)(d:t.fits es.size=YP)(e:es[pl]?=XV x)(h:Q x.2 s):
  ao (aw P w) A (setNextDrawn a pl ep) Q E s:=by unfold setNextDrawn;refine aa (fx b c d ?_);dsimp only;rw[Z5 'k',e];exact aj h
def W6(b:s.heap.get? a=XV o)(c:o.data=.set es ep t)(d:t.fits es.size=YP)(f:es.size≠0->t.plain=Y1)(h:Q (!wL w&&decide (es.size>1)) s):ao (aw P w) A (setDrawn a) Q E s:=by
 unfold setDrawn setsByText;refine aa (fx b c d ?_);dsimp only;refine aa (aa (eV (aj (aj ?_))));have e:(!t.plain&&decide (es.size>1))=decide (es.size>1):=by
  by_cases q:es.size>1
  ·rw[f 'd',decide_eq_true q];rfl
  ·rw[decide_eq_false q];simp
 show Q (!wL w&&(!t.plain&&decide (es.size>1))) s;rw[e];exact h
def Ga{I:ab}{sl i:Nat}{R:Option (ae×Nat)}{Q:Option ae->af->Prop}(m:s.heap.get? a=XV o)(n:o.data=.set es ep t)(q:t.fits es.size=YP)(c:s.heap.get? I=XV (wA (bS sl) i a es.size ep))(K:a≠I)(r:A.handled=X9)
  (u:∀(B:a7)(Q':Option (ae×Nat)->af->Prop)(E':ae->af->Prop),Q' R s->ao (aw P w) B (setNext a sl i ep) Q' E' s)
  (x:∀v j,R=XV (v,j)->∀h',cG I s.heap h'->h'.get? I=XV (wA (bS j) (i+1) a es.size ep)->Q (XV v) { s with heap:=h' })
  (hz:R=X9->∀h',jm I s.heap h'->Q X9 { s with heap:=h' }):ao (aw P w) A (pyNext (.ref I)) Q E s:=by
 refine Nk ⟨_,c,rfl⟩ ?_;unfold dN.«set_iterator.__next__» slotArgs;dsimp only;rw[Z5 'k',Z5 'k'];refine aa (aj (aa (wpAny_fieldsOf c rfl ?_)));show ao _ _ (setEntries a >>= _) _ _ _;refine aa (i9 m n q ?_);rw[Z5 'k'];show ao _ _ (setNext a sl i ep >>= _) _ _ _;refine aa (u _ _ _ ?_);obtain⟨L,g,d,M,N⟩:=s;cases h:R with
 | some p=>
  obtain⟨v,j⟩:=p;dsimp only;refine aa (cD c 'k' λy k f=>?_);refine aa (cD k 'k' λC D F=>?_);exact aj ⟨v,rfl,x v j h C (f.trans F) D⟩
 | none=>
  dsimp only;refine aa (cD c 'k' λy k f=>?_);refine QU (by simpa using r) λh' e G H=>⟨e,rfl,H,hz h h' λb l J z=>G b l (f.extBut b l J z)⟩
def Nr{I c:ab}{i:Nat}{first:ae}{ps:List Nat}{Q:Option ae->af->Prop}(n:s.heap.get? a=XV o)(p:o.data=.set es ep t)(q:t.fits es.size=YP)(f:s.heap.get? I=XV (wA (.ref c) i a es.size ep))(y:s.heap.get? c=XV { cls:=.type "tuple",data:=.seq (ps.map λ(j:Nat)=>bS (j:Int)).toArray })(B:A.handled=X9)
  (C:∀j x,ps[i]?=XV j->es[j]?=XV x->∀h',cG I s.heap h'->h'.get? I=XV (wA (.ref c) (i+1) a es.size ep)->Q (XV x.2) { s with heap:=h' }) (D:∀j,ps[i]?=XV j->j<es.size)
  (hz:ps[i]?=X9->∀h',jm I s.heap h'->Q X9 { s with heap:=h' }):ao (aw P w) A (pyNext (.ref I)) Q E s:=by
 refine Nk ⟨_,f,rfl⟩ ?_;unfold dN.«set_iterator.__next__» slotArgs;dsimp only;rw[Z5 'k',Z5 'k'];refine aa (aj (aa (wpAny_fieldsOf f rfl ?_)));show ao _ _ (setEntries a >>= _) _ _ _;refine aa (i9 n p q ?_);rw[Z5 'k'];show ao _ _ (seqItems? (.ref c) >>= _) _ _ _;refine aa (el y rfl ?_);obtain⟨K,g,d,L,M⟩:=s;have F:((ps.map λ(j:Nat)=>bS (j:Int)).toArray)[((i:Int)).toNat]?=(ps[i]?).map λ(j:Nat)=>bS (j:Int):=by
  rw[f9,kT,bG]
 dsimp only;rw[F];cases h:ps[i]? with
 | some j=>
  have r:=D j h;dsimp only[kn,bS];refine aa (zcg (pl:=j) (x:=es[j]) n p q (aU r) ?_);refine aa (cD f 'k' λu k l=>?_);exact aj ⟨_,rfl,C j _ h (aU r) u l k⟩
 | none=>
  dsimp only[Option.map_none];refine aa (cD f 'k' λu k l=>?_);refine aa (cD k 'k' λN O G=>?_);refine QU (by simpa using B) λh' e H J=>⟨e,rfl,J,hz h h' λb m v z=>H b m (G.extBut b m v (l.extBut b m v z))⟩
end
section
variable{P:aM}{w:aV}{A:a7}{E:ae->af->Prop}{s:af}{a:ab}{o:Obj}{es:Array (Int×ae)}{ep:Nat}{t:j0}{I tt:ab}
abbrev BA(os:List Str):Nat->ae->Prop:=λi v=>∃tk:Tok,v=.str (os.getD i ⟨#[]⟩) tk
def IQ(h:∃ob,s.heap.get? I=XV ob/\ob.cls=.type "set_iterator")(q:Q (.ref I) s):ao (aw P w) A (pyIter (.ref I)) Q E s:=by
 have b:s.TypeIs (.ref I) "set_iterator":=h;refine jH b OU (b9 OU b ZC ?_ (X1 _));unfold dN.«dict_keyiterator.__iter__»;obtain⟨c,g,d,e,f⟩:=s
 wp_walk
 exact⟨_,rfl, "set_iterator",_,b,pf.lookup,q⟩
def IS(b:iM (strKind P w) l)(h:l[i]?=XV e):BA (l.map s9) i e.2:=by obtain⟨c,d⟩:=JQ b (aN h);refine⟨c,?_⟩;rw[aY,bG,h];exact d
def XR(k:o.data=.set es ep t)(l:t.fits es.size=YP)(F:iM (strKind P w) es.toList)(c:wL w=YP)(u:A.handled=X9)(p:a≠I):
  Walks P w A I [I,a] [I] es.size (BA ((pickOrder (w.params.setOrder a ep) es).toList.map s9)) (λi h=>(∃sl:Nat,h.get? I=XV (wA (bS sl) i a es.size ep))/\h.get? a=XV o) where
 sub:=λb c=>by simp at c;simp[c]
 frame:=λi h m d x=>⟨let ⟨sl,e⟩:=d.1;⟨sl,x I 'k' _ e⟩,x a 'k' _ d.2⟩
 item:=λi s Q E L d g=>by
  obtain⟨⟨sl,q⟩,f⟩:=d;have n:=Hv (w.params.setOrder a ep) es;have r:(pickOrder (w.params.setOrder a ep) es).size=es.size:=by rw[<- aA,n.length_eq,aA]
  have y:i<(pickOrder (w.params.setOrder a ep) es).size:=by lia
  refine Ga (R:=XV ((pickOrder (w.params.setOrder a ep) es)[i].2,sl)) f k l q p u (λB G H h=>Oi f k l c (by rw[aU y];exact h)) (λv j e m C J=>?_) λe=>by cases e
  cases e;refine g _ m s.toks (IS (F.perm n) (by rw[di];exact aU y)) ⟨⟨_,J⟩,?_⟩ λb D c z=>?_
  ·rw[C.2 a p];exact f
  ·rw[C.2 b (by simpa using c)];exact z
 done:=λs Q E d g=>by
  obtain⟨⟨sl,q⟩,f⟩:=d;have n:=Hv (w.params.setOrder a ep) es;have r:(pickOrder (w.params.setOrder a ep) es).size=es.size:=by rw[<- aA,n.length_eq,aA]
  refine Ga (R:=X9) f k l q p u (λB G H h=>Oi f k l c (by rw[kI 'd'];exact h)) (λv j e=>by cases e) λ_ m K=>g m s.toks λb D c z=>K b D (by simpa using c) z
 self:=λi s Q E d g=>IQ (let ⟨⟨sl,e⟩,_⟩:=d;⟨_,e,rfl⟩) g
def YK(D:o.data=.set es ep t)(F:t.fits es.size=YP)(M:iM (strKind P w) es.toList)(G:A.handled=X9)(N:a≠I)(O:tt≠I){ps:List Nat}(u:ps.Perm (aL es.size)):
  Walks P w A I [I,a,tt] [I] es.size (BA ((ps.filterMap λj=>es[j]?).map s9)) (λi h=>h.get? I=XV (wA (.ref tt) i a es.size ep)/\h.get? a=XV o/\h.get? tt=XV { cls:=.type "tuple",data:=.seq (ps.map λ(j:Nat)=>bS (j:Int)).toArray }) where
 sub:=λb f=>by simp at f;simp[f]
 frame:=λi h n c v=>⟨v I 'k' _ c.1,v a 'k' _ c.2.1,v tt 'k' _ c.2.2⟩
 item:=λi s Q E X c g=>by
  obtain⟨y,p,r⟩:=c;have k:ps.length=es.size:=by rw[u.length_eq];simp
  have B:∀j∈ps,j<es.size:=λj d=>bM.mp (u.mem_iff.mp d);refine Nr (first:=.ref tt) p D F y r G (λj x m H n C R=>?_) (λj e=>B j (aN e)) λe=>absurd (aT.mp e) 'd';have S:∀(l:List Nat),(∀j∈l,j<es.size)->(l.filterMap λj=>es[j]?)=l.map λj=>es.getD j default:=by
   intro l
   induction l with
   |nil=>intro _;rfl
   | cons q l ih=>
    intro h;have J:=h q al;rw[eR,aU J,ih λj d=>h j (ai _ d),bh];simp[Array.getD,J]
  have T:(ps.filterMap λj=>es[j]?)[i]?=XV x:=by
   rw[S ps B,bG,m];have d:=B j (aN m);rw[aU d] at H;have:es[j]=x:=ck H;simp[Array.getD,d,this]
  have U:iM (strKind P w) (ps.filterMap λj=>es[j]?):=λe V=>by
   obtain⟨j,_,d⟩:=gN.mp V;exact M e (by rw[<- di] at d;exact aN d)
  refine g _ n s.toks (IS U T) ⟨R,?_,?_⟩ λb K f z=>?_
  ·rw[C.2 a N];exact p
  ·rw[C.2 tt O];exact r
  ·rw[C.2 b (by simpa using f)];exact z
 done:=λs Q E c g=>by
  obtain⟨y,p,r⟩:=c;have k:ps.length=es.size:=by rw[u.length_eq];simp
  have L:ps[es.size]?=X9:=aT.mpr 'd';exact Nr (first:=.ref tt) p D F y r G (λj x m=>by rw[L] at m;cases m) (λj e=>by rw[L] at e;cases e) λ_ n W=>g n s.toks λb K f z=>W b K (by simpa using f) z
 self:=λi s Q E c g=>IQ ⟨_,c.1,rfl⟩ g
def Yn(xs:Array Nat)(h:xs.size<=1):eZ xs 0=0:=by
 unfold eZ;have:xs.size=0\/xs.size=1:=by lia
 rcases this with e|e
 ·rw[e];rfl
 ·rw[e];unfold il;rw[Y2 'd'];dsimp only;rw[Z5 'k'];unfold il;rfl
def Yg(xs:Array Nat)(p:Nat)(h:xs.size=1)(b:xs[0]?=XV p):eZ xs (p+1)=1:=by
 unfold eZ;rw[h];unfold il;rw[Y2 'd'];dsimp only;have e:xs.getD ((0+1)/2) (p+1)=p:=by
  show xs.getD 0 (p+1)=p;rw[Array.getD_eq_getD_getElem?,b];rfl
 rw[e,Y2 'd'];unfold il;rfl
def Z2(l:o.data=.set es ep t)(f:t.fits es.size=YP)(H:iM (strKind P w) es.toList)(c:wL w=Y1)(u:es.size<=1)(x:t.led=YP)(y:A.handled=X9)(n:a≠I):
  Walks P w A I [I,a] [I] es.size (BA (es.toList.map s9)) (λi h=>(∃sl:Nat,h.get? I=XV (wA (bS sl) i a es.size ep)/\eZ t.place sl=i)/\h.get? a=XV o) where
 sub:=λb c=>by simp at c;simp[c]
 frame:=λi h m d C=>⟨let ⟨sl,e,q⟩:=d.1;⟨sl,C I 'k' _ e,q⟩,C a 'k' _ d.2⟩
 item:=λi s Q E D d k=>by
  obtain⟨⟨sl,p,r⟩,g⟩:=d;have J:t.place.size=es.size:=by simp only[nZ,aQ,beq_iff_eq] at f;exact f.1
  have T:es.size=1:=by lia
  have K:i=0:=by lia
  subst K;have L:t.place.size=1:=by lia
  refine Ga (R:=XV (es[0].2,t.place[0]+1)) g l f p n y (λB M N h=>PB g l f c u x (by rw[r,aU D,aU 'd'];exact h)) (λv j e m F O=>?_) λe=>by cases e
  cases e;refine k _ m s.toks (IS H (by rw[di];exact aU D)) ⟨⟨_,O,Yg _ _ L (aU _)⟩,?_⟩ λb G c z=>?_
  ·rw[F.2 a n];exact g
  ·rw[F.2 b (by simpa using c)];exact z
 done:=λs Q E d k=>by
  obtain⟨⟨sl,p,r⟩,g⟩:=d;refine Ga (R:=X9) g l f p n y (λB M N h=>PB g l f c u x (by rw[r,kI (aD _)];exact h)) (λv j e=>by cases e) λ_ m S=>k m s.toks λb G c z=>S b G (by simpa using c) z
 self:=λi s Q E d k=>IQ (let ⟨⟨sl,e,_⟩,_⟩:=d;⟨_,e,rfl⟩) k
end
section
variable{P:aM}{w:aV}{A:a7}{E:ae->af->Prop}{s:af}{a:ab}{ks:List Str}
theorem NN(b:Array (Int×ae)):∀(l:List Nat),(∀j∈l,j<b.size)->(l.filterMap λj=>b[j]?).length=l.length
 |[],_=>rfl
 | q::l,h=>by
  rw[eR,aU (h q al)];show(_::_).length=_;rw[aO,aO,NN b l λj c=>h j (ai _ c)]
structure ItX(P:aM)(w:aV)(a:ab)(ks:List Str)(s:af)(I:ab)(s1:af):Prop where
 ex:∃(os:List Str)(fp:List ab)(St:Nat->aX->Prop),os.Perm ks/\I∈fp/\(∀b∈fp,b<s1.heap.objs.size)/\(∀b∈fp,b=a\/s.heap.objs.size<=b)/\(∀B:a7,B.handled=X9->Walks P w B I fp [I] os.length (BA os) St)/\St 0 s1.heap
 keep:∀b o,s.heap.get? b=XV o->s1.heap.get? b=XV o
 ty:∃ob,s1.heap.get? I=XV ob/\ob.cls=.type "set_iterator"
 new:s.heap.objs.size<=I
 gens:s1.gens=s.gens
 os:s1.os=s.os
def U3(hS:oM P w a ks s.heap)(h:∀I V,ItX P w a ks s I V->Q (.ref I) V):ao (aw P w) A (pyIter (.ref a)) Q E s:=by
 obtain⟨o,c,q,t,u,hx,z,S,N,hn,k,x,hl,rz⟩:=hS;have W:s.TypeIs (.ref a) "set":=⟨o,u,hx.1⟩;have hsz:c.size=ks.length:=by rw[<- N.length_eq];simp
 have l:a<s.heap.objs.size:=aK u;refine jH W F.slot_set_iter (b9 F.slot_set_iter W zeI ?_ (F.args_set_iter_1 _));unfold dN.«frozenset.__iter__» og slotArgs;simp only[nj,gC,bJ,↓reduceIte,bind_assoc,eD,bne_self_eq_false];unfold j3 n9;refine aa (aj (aa (aj (aa (aa (i9 u z x (aj ?_)))))));refine aa (W6 u z x rz ?_);have H:∀(first:ae)(p:aX)(d:Drawn),(∀b C,s.heap.get? b=XV C->p.get? b=XV C)->s.heap.objs.size<=p.objs.size->
   (∃(J:List Str)(D:List ab)(O:Nat->aX->Prop),J.Perm ks/\p.objs.size∈D/\(∀b∈D,b<p.objs.size+1)/\(∀b∈D,b=a\/s.heap.objs.size<=b)/\(∀B:a7,B.handled=X9->Walks P w B p.objs.size D [p.objs.size] J.length (BA J) O)/\O 0 (p.push (wA first 0 a c.size q)))->
   ao (aw P w) A.in1 (setEpoch a >>= λe=>newFields "set_iterator" [first,bS 0,.ref a,bS c.size,bS e] >>= λv=>ret v) (λf X=>∃r,f=.done (.ret r)/\∃Y r',X.TypeIs r Y/\typeLookup (.type Y) "__next__" = pure (XV r')/\Q r X) E { s with heap:=p,drawn:=d }:=by
  intro first p d Z hz ⟨J,D,O,p1,p2,p3,p6,p4,p5⟩
  refine aa (wpAny_setEpoch_of (Z a o u) z x ?_);unfold newFields;refine aa (cg ?_ (by size_fits));have g:(p.push (wA first 0 a c.size q)).get? p.objs.size=XV (wA first 0 a c.size q):=aJ _ rfl;refine aj ⟨_,rfl, "set_iterator",_,⟨_,g,rfl⟩,pf.lookup,h _ _ ⟨⟨J,D,O,p1,p2,λb k=>?_,p6,p4,p5⟩,λb C e=>ag _ (Z b C e),⟨_,g,rfl⟩,hz,rfl,rfl⟩⟩;rw[dh];exact p3 b k
 cases T:(!wL w&&decide (c.size>1)) with
 | true=>
  rw[Y2 rfl];refine aa (NA c.size (aL c.size) _ _ 'k' λy d K=>aa (jf ?_ ?_))
  ·have L:(s.heap.push { cls:=.type "tuple",data:=.seq (y.map λ(j:Nat)=>bS (j:Int)).toArray }).objs.size=s.heap.objs.size+1:=dh ..;refine H (.ref s.heap.objs.size) _ d (λb C e=>ag _ e) (by rw[L];exact dZ _) ?_;refine⟨(y.filterMap λj=>c[j]?).map s9,[(s.heap.push { cls:=.type "tuple",data:=.seq (y.map λ(j:Nat)=>bS (j:Int)).toArray }).objs.size,a,s.heap.objs.size],(λi h=>h.get? (s.heap.push { cls:=.type "tuple",data:=.seq (y.map λ(j:Nat)=>bS (j:Int)).toArray }).objs.size=XV (wA (.ref s.heap.objs.size) i a c.size q)/\h.get? a=XV o/\h.get? s.heap.objs.size=XV { cls:=.type "tuple",data:=.seq (y.map λ(j:Nat)=>bS (j:Int)).toArray }),?_,by simp,?_,?_,λB M=>?_,aJ _ rfl,ag _ (ag _ u),ag _ (aJ _ rfl)⟩
   ·refine(List.Perm.map s9 ?_).trans N;have e1:(aL c.size).filterMap (λj=>c[j]?)=c.toList:=by
     apply mL;intro i;have LW:∀n,n<=c.size->(aL n).filterMap (λj=>c[j]?)=c.toList.take n:=by
      intro n
      induction n with
      |zero=>intro _;simp
      | succ n ih=>
       intro HP;rw[i0,List.filterMap_append,ih 'd',eR,List.filterMap_nil,aU 'd',jh,di,aU 'd'];rfl
     rw[LW c.size (aD _),cE 'k']
    rw[<- e1];exact K.filterMap _
   ·intro b k;rw[L] at k ⊢;simp only[am,ba,or_false] at k;rcases k with rfl|rfl|rfl
    ·exact cH _
    ·exact cZ (cZ l)
    ·exact cZ (cH _)
   ·intro b k;rw[L] at k;simp only[am,ba,or_false] at k;rcases k with rfl|rfl|rfl
    ·exact .inr (dZ _)
    ·exact .inl rfl
    ·exact .inr (aD _)
   ·have m:((y.filterMap λj=>c[j]?).map s9).length=c.size:=by
     have U:=NN c y λj hj=>bM.mp (K.mem_iff.mp hj);rw[au,U,K.length_eq];simp
    rw[m];exact YK z x S M (by rw[L];exact bo (cZ l)) (by rw[L];exact bo (cH _)) K
  ·rw[au,K.length_eq,eJ];exact jJ k
 | false=>
  rw[Z5 'k'];have this:=H (bS 0) s.heap s.drawn (λb C e=>e) (aD _);have U:({ s with heap:=s.heap,drawn:=s.drawn }:af)=s:=by cases s;rfl
  rw[U] at this;refine this ?_;by_cases G:wL w=YP
  ·refine⟨(pickOrder (w.params.setOrder a q) c).toList.map s9,[s.heap.objs.size,a],(λi h=>(∃R:Nat,h.get? s.heap.objs.size=XV (wA (bS R) i a c.size q))/\h.get? a=XV o),((Hv _ c).map s9).trans N,by simp,?_,?_,λB M=>?_,⟨0,aJ _ rfl⟩,ag _ u⟩
   ·intro b k;simp only[am,ba,or_false] at k;rcases k with rfl|rfl
    ·exact cH _
    ·exact cZ l
   ·intro b k;simp only[am,ba,or_false] at k;rcases k with rfl|rfl
    ·exact .inr (aD _)
    ·exact .inl rfl
   ·have m:((pickOrder (w.params.setOrder a q) c).toList.map s9).length=c.size:=by rw[au,(Hv _ c).length_eq];simp
    rw[m];exact XR z x S G M (bo l)
  ·have G:wL w=Y1:=by simpa using G
   have p:c.size<=1:=by
    rw[G] at T;simp at T;exact T
   have hpz:t.place.size=c.size:=by simp only[nZ,aQ,beq_iff_eq] at x;exact x.1
   refine⟨c.toList.map s9,[s.heap.objs.size,a],(λi h=>(∃R:Nat,h.get? s.heap.objs.size=XV (wA (bS R) i a c.size q)/\eZ t.place R=i)/\h.get? a=XV o),N,by simp,?_,?_,λB M=>?_,⟨0,aJ _ rfl,Yn _ 'd'⟩,ag _ u⟩
   ·intro b k;simp only[am,ba,or_false] at k;rcases k with rfl|rfl
    ·exact cH _
    ·exact cZ l
   ·intro b k;simp only[am,ba,or_false] at k;rcases k with rfl|rfl
    ·exact .inr (aD _)
    ·exact .inl rfl
   ·have m:(c.toList.map s9).length=c.size:=by simp
    rw[m];exact Z2 z x S G p (hl G) M (bo l)
end
section
variable{P:aM}{w:aV}{A:a7}{E:ae->af->Prop}{s:af}{a:ab}{ks:List Str}
def U7(b:s.TypeIs (.ref a) "set")(h:Q Y1 s):ao (aw P w) A (ju (.ref a)) Q E s:=by
 unfold ju;refine aa (wpAny_specialOf b F.slot_set_len.lookup ?_);have e:splitId "set.__len__" = XV ("set", "__len__"):=by kernel_rfl
 have c:=sub_set_self;obtain⟨f,g,d,i,j⟩:=s;dsimp only;rw[e];dsimp only;refine aa (jV b c ?_);rw[Z5 'k',Y2 'b'];exact aa (lX b (aj h))
theorem RW:∀(b:List Str)(vs:List ae),vs.length=b.length->(∀j v,vs[j]?=XV v->BA b j v)->eu vs b
 |[],[],_,_=>.nil
 |[],_::_,h,_=>by simp at h
 |_::_,[],h,_=>by simp at h
 | x::b,v::vs,h,q=>by
  obtain⟨c,e⟩:=q 0 v rfl;have e:v=.str x c:=e;subst e;exact .cons x c (RW b vs (by simpa using h) λj u z=>by
   obtain⟨d,f⟩:=q (j+1) u (by simpa using z);exact⟨d,by simpa [List.getD] using f⟩)
def zeB(C:A.handled=X9)(D:oM P w a ks s.heap)(U:ks.length<=1000)
  (h:∀(vs:List ae)(i:List Str)k,i.Perm ks->eu vs i->s.heap.objs.size<=k.heap.objs.size->(∀b o,s.heap.get? b=XV o->k.heap.get? b=XV o)->k.gens=s.gens->k.os=s.os->Q vs k):
  ao (aw P w) A (collect (.ref a)) Q E s:=by
 obtain⟨o,es,ep,t,u,y,r⟩:=id D;have hT:s.TypeIs (.ref a) "set":=⟨o,u,y.1⟩;have f:a<s.heap.objs.size:=aK u;unfold collect;refine aa (wpAny_runValue (eG F.entry_proto_collect ?_));rw[dB F.plain_proto_collect _];show ao _ A.in1 (newList [] >>= λl=>again (.builtin "list.__iadd__" ⟨[l,.ref a],[]⟩)) _ _ s;refine aa (cg (aj ⟨d7 mM _,eG F.entry_list_iadd ?_⟩));rw[dB mM _];have V:(s.heap.push { cls:=.type "list",data:=.seq ([]:List ae).toArray }).get? s.heap.objs.size=XV { cls:=.type "list",data:=.seq ([]:List ae).toArray }:=aJ _ rfl;have Y:oM P w a ks (s.heap.push { cls:=.type "list",data:=.seq ([]:List ae).toArray }):=D.keep λo e=>ag _ e;have Z:Shared.TypeIs { s with heap:=s.heap.push { cls:=.type "list",data:=.seq ([]:List ae).toArray } } (.ref a) "set":=⟨o,ag _ u,y.1⟩;show ao _ A.in1 (jv (.ref s.heap.objs.size) (.ref a) (.ref s.heap.objs.size)) _ _ _;unfold jv;refine aa (lX Z ?_);have h1:j4 (.ref s.heap.objs.size) (.ref a)=Y1:=by simp[j4,eB f]
 rw[Z5 (by rw[h1];decide)];refine aa (U3 (s:={ s with heap:=s.heap.push { cls:=.type "list",data:=.seq ([]:List ae).toArray } }) Y λI k X=>?_);obtain⟨⟨i,fp,St,G,p2,p3,p6,H,p5⟩,z,ty,J,gn,oo⟩:=X;refine aa (bD (U7 ⟨o,z a o (ag _ u),y.1⟩ ?_));rw[Y2 'b'];refine aa (dG ?_);refine aa ?_;obtain⟨x,g,d,tk,oss⟩:=k;have K:x.get? s.heap.objs.size=XV { cls:=.type "list",data:=.seq ([]:List ae).toArray }:=z _ _ V;show ao _ A.in1 (updateSeq s.heap.objs.size (·.push .none) >>= λ_=>updateSeq s.heap.objs.size (·.pop)) _ _ _;refine aa (dW K rfl ?_);have L:=bI (bu (·.push gk)) K rfl;refine dW L rfl ?_;have g3:=bI (bu (·.pop)) L rfl;have M:(om { s with heap:=s.heap.push { cls:=.type "list",data:=.seq ([]:List ae).toArray } }).objs.size=s.heap.objs.size+1:=dh ..;have N:s.heap.objs.size∉fp:=λm=>by
  rcases p6 _ m with e|e
  ·exact bz _ (e▸f)
  ·rw[M] at e;exact Nat.not_succ_le_self _ e
 have W:=(H A.in1 (by simpa using C)).toS;have O:∀b c,b≠s.heap.objs.size->x.get? b=XV c->((x.update s.heap.objs.size (bu (·.push gk))).update s.heap.objs.size (bu (·.pop))).get? b=XV c:=
  λb c p e=>(bj _ _ (cS p)).trans ((bj _ _ (cS p)).trans e)
 refine aj ⟨d7 F.plain_extend_loop _,codeAny_extend_loopS W (aE (by rw[G.length_eq];exact U) 'u') _ N _ i.length 0 _ _ _ rfl (bX _) ((H A.in1 (by simpa using C)).frame 0 x _ p5 λb p c e=>O b c (λq=>N (q▸p)) e) g3 (ItemsOf.nil _) λR n c' B S T=>?_⟩;show ao _ A (load s.heap.objs.size >>= _) _ _ R;refine aa (wpAny_load S (aj ?_));have sU:eu n.toList i:=RW i n.toList (by simpa using T.1) λj v e=>T.2 j v (by rw[<- di];exact e);refine h n.toList i R G sU (fJ (aK S)) (λb c e=>B.heap b c ?_ (O b c ?_ (z b c (ag _ e)))) (B.gens.trans gn) (B.os.trans oo)
 ·simp only[am,ba,or_false,not_or];refine⟨λq=>absurd (aK e) (by rw[q];exact bz _),λq=>?_⟩;have p:=aK e;rw[M] at J;exact absurd (a9 p (mC J)) (by rw[q];exact bz _)
 ·exact λq=>absurd (aK e) (by rw[q];exact bz _)
end
end DL
namespace DL
open PySem PyProof.Rows
section
variable{P:aM}{w:aV}{A:a7}{E:ae->af->Prop}{s:af}{a:ab}{ks:List Str}
def Yk(x:A.handled=X9)(y:oM P w a ks s.heap)(R:ks.length<1000)
  (h:∀(f:Array ae)(g:List Str)l d c,g.Perm ks->sortedS g=YP->eu f.toList g->s.heap.objs.size<=l->d.heap.get? l=XV { cls:=.type "list",data:=.seq f c }->(∀b o,s.heap.get? b=XV o->d.heap.get? b=XV o)->d.gens=s.gens->d.os=s.os->Q (.ref l) d):
  ao (aw P w) A (call (.builtin "sorted") [.ref a]) Q E s:=by
 refine gL mT mj ml (mm _) ?_;unfold dN.«sorted»;refine aa (m:=checkCount "sorted" 1 1 _) (aj ?_);refine aa (zeB (by simpa using x) y 'd' λi g d r k n z B C=>?_);have j:i.length=g.length:=k.length;have D:i.length<=4000000:=by rw[j,r.length_eq];lia
 refine aa (gz ?_);have p:(d.heap.push (seqObj "list" i.toArray 0)).get? d.heap.objs.size=XV (seqObj "list" i.toArray 0):=aJ _ rfl;refine aa (bD (b9 lf ⟨_,p,rfl⟩ ku (TS.list_sort_big lL p k.keysOf (λS T t e=>keyKind_strs (by rw[<- e];exact k)) D λF G H=>⟨_,rfl,?_⟩) (lg _)));obtain⟨I,J,K,L⟩:=sorted_out_str k G H;refine aj ⟨_,rfl,?_⟩;have M:=bI (bu λ_=>#[]) p rfl;have N:=ag (seqObj "list" #[] 0) (ag (seqObj "tuple" i.toArray 0) M);have O:=bI (bu λ_=>(Z6 F).map (·.2)) N rfl;refine h _ I _ _ _ (K.trans r) L J ?_ O (λb o e=>?_) B C
 ·exact n
 ·have u:=z b o e;have v:d.heap.objs.size≠b:=λq=>absurd (aK u) (by rw[<- q];exact bz _);exact(bj _ _ v).trans (ag _ (ag _ ((bj _ _ v).trans (ag _ u))))
end
end DL
namespace DL
open PySem L2 PyProof.Rows
noncomputable def vn(x:List Nat):List (List Nat)->List (List Nat)
 |[]=>[x]
 |y::r=>if x<y then x::y::r else if x=y then y::r else y::vn x r
def qi(ss:List (List Nat)):List (List Nat):=ss.foldl (λl x=>vn x l) []
theorem pi:∀{l:List (List Nat)},y∈vn x l↔y=x\/y∈l
 |[]=>by simp[vn]
 | z::r=>by
  unfold vn;split
  ·simp
  ·split
   ·rename_i h;subst h;simp
   ·rw[am,pi,am];exact⟨λh=>by rcases h with h|h|h<;>simp[h],λh=>by rcases h with h|h|h<;>simp[h]⟩
theorem QB:∀{l:List (List Nat)},l.Pairwise (· < ·)->(vn x l).Pairwise (· < ·)
 |[],_=>by simp[vn]
 | z::r,h=>by
  obtain⟨b,c⟩:=bK.mp h;unfold vn;split
  ·rename_i a;exact bK.mpr ⟨λy hy=>by
    rcases am.mp hy with rfl|hy
    ·exact a
    ·exact iz a (b y hy),h⟩
  ·rename_i a;split
   ·exact h
   ·rename_i d;refine bK.mpr ⟨λy hy=>?_,QB c⟩;rcases pi.mp hy with rfl|hy
    ·exact cq λq=>d (jZ (iu.mp q) (iu.mp a))
    ·exact b y hy
def vw(a:List (List Nat)):y∈qi a↔y∈a:=by
 have:∀(a l:List (List Nat)),y∈a.foldl (λl x=>vn x l) l↔y∈l\/y∈a:=by
  intro a
  induction a with
  |nil=>intro l;simp
  |cons x a ih=>intro l;rw[eF,ih,pi,am];exact⟨λh=>by rcases h with(h|h)|h<;>simp[h],λh=>by rcases h with h|h|h<;>simp[h]⟩
 rw[qi,this];simp
def GS(a:List (List Nat)):(qi a).Pairwise (· < ·):=by
 have:∀(a l:List (List Nat)),l.Pairwise (· < ·)->(a.foldl (λl x=>vn x l) l).Pairwise (· < ·):=by
  intro a
  induction a with
  |nil=>intro l h;exact h
  |cons x a ih=>intro l h;exact ih _ (QB h)
 exact this a [] eH
theorem J7:∀{l m:List (List Nat)},l.Pairwise (· < ·)->m.Pairwise (· < ·)->(∀x,x∈l↔x∈m)->l=m
 |[],[],_,_,_=>rfl
 |[],y::m,_,_,h=>absurd ((h y).mpr al) 'k'
 |x::l,[],_,_,h=>absurd ((h x).mp al) 'k'
 | x::l,y::m,hl,hm,h=>by
  obtain⟨b,d⟩:=bK.mp hl;obtain⟨c,f⟩:=bK.mp hm;have g:x=y:=by
   rcases am.mp ((h x).mp al) with e|e
   ·exact e
   ·rcases am.mp ((h y).mpr al) with e'|e'
    ·exact e'.symm
    ·exact absurd (iz (c x e) (b y e')) (fG _)
  subst g;rw[J7 d f λz=>⟨λa=>by
    rcases am.mp ((h z).mp (ai _ a)) with e|e
    ·subst e;exact absurd (b z a) (fG _)
    ·exact e,λa=>by
    rcases am.mp ((h z).mpr (ai _ a)) with e|e
    ·subst e;exact absurd (c z a) (fG _)
    ·exact e⟩]
abbrev toS(cs:List Nat):Str:=⟨cs.toArray⟩
theorem Kd:∀(p:Str)(l:List Str),risingS p l=YP->(p::l).Nodup->((p::l).map (·.cps.toList)).Pairwise (· < ·)
 |p,[],_,_=>by simp
 | p,x::r,h,nd=>by
  unfold risingS at h;rw[aQ,eL,ltCps_eq,decide_eq_false_iff_not] at h;obtain⟨f,g⟩:=bw.mp nd;have a:=Kd x r h.2 g;have b:p.cps.toList<x.cps.toList:=cq λq=>f (by
   have:=jZ (iu.mp h.1) (iu.mp q);have e:p=x:=by
    obtain⟨c⟩:=p;obtain⟨d⟩:=x;have this:c.toList=d.toList:=this;rw[show c=d from m9.mp this]
   rw[e];exact al)
  rw[bh];refine bK.mpr ⟨λy hy=>?_,a⟩;rw[bh] at hy a;rcases am.mp hy with rfl|hy
  ·exact b
  ·exact iz b ((bK.mp a).1 y hy)
def Wf{b:List (List Nat)}{a:List Str}(d:a.Perm (vY (b.map toS)))(e:(vY (b.map toS)).Nodup)(f:sortedS a=YP):a=(qi b).map toS:=by
 have g:(a.map (·.cps.toList)).Pairwise (· < ·):=by
  cases a with
  |nil=>exact eH
  |cons p l=>exact Kd p l f (d.nodup_iff.mpr e)
 have h:a.map (·.cps.toList)=qi b:=J7 g (GS b) λx=>by
  rw[vw,aB];constructor
  ·rintro⟨o,i,rfl⟩;have:=(OB _).mp (d.mem_iff.mp i);obtain⟨m,j,rfl⟩:=aB.mp this;exact j
  ·intro k;exact⟨toS x,d.mem_iff.mpr ((OB _).mpr (aB.mpr ⟨x,k,rfl⟩)),rfl⟩
 rw[<- h,bi];refine(mU a).symm.trans (gF λo _=>?_);obtain⟨c⟩:=o;rfl
def oM.nd(x:oM P w a ks h):ks.Nodup:=by obtain⟨_,_,_,_,_,_,_,_,_,b,_⟩:=x;exact b
section
variable{X:Cx}{t:DA}
theorem GZ:∀{vs:List ae}{a:List Str},eu vs a->oA (a.map V.str) vs
 |_,_,.nil=>.nil
 |_,_,.cons y t h=>.cons ⟨t,rfl⟩ (GZ h)
def zc6(x:X.calm=YP):oJ X (.builtin "sorted") (λxs H Q=>∃a ks,xs=[.ref a]/\H a=XV (.ext (oM X.prog X.w a ks))/\ks.length<1000/\∀l d,d.Perm ks->ks.Nodup->sortedS d=YP->H l=X9->Q (.ref l) (upd H l (.lst (d.map V.str)))):=by intro k s G H xs J Q I r h;obtain⟨a,ks,rfl,y,m,q⟩:=h;obtain⟨u,rfl,z⟩:=ue r;cases z;have n:oM X.prog X.w a ks s.heap:=(I.hok a _ y).1;refine wT I (Yk (I.ok.hd x) n m λf d l A c o B C g D p E F K=>?_);have v:H l=X9:=I.hok.fresh g;have e:d.length<=KB:=aE (fJ (by rw[o.length_eq];exact m)) 'u';have i:oN X.prog X.w (upd H l (.lst (d.map V.str))) A.heap l (.lst (d.map V.str)):=⟨by rw[au];exact e,f.toList,c,GZ C,by rw[D]⟩;have j:=I.hok.laid p g i;refine⟨.ref l,_,?_,rfl,q l d o n.nd B v⟩;exact I.call' F (Un.laid p g v) j (by rw[E];exact I.bare) (λb(hb:b∈([]:List ab))=>absurd hb (ba))
end
def yb(te:DE):Em:=λσ O X8=>(te σ O).bnd λv O1=>match v with
 |.str cs=>if X8.length<1000 then .ok (X8++[.str cs]) O1 else .bad
 |_=>.bad
def C4(elt:aR):vo where
 ex:=λgens scope pos=>.SetComp elt gens scope pos
 emit:=λX8 env=>do let v <- eval elt env;standAt elt.pos;let _ <- call (.builtin "set.add") [X8,v]
 new:=newSet (.type "set")
 ho:=λP w a=>.ext (oM P w a [])
 G:=λ_ P w A _ H _ X8=>∃ss:List (List Nat),X8=ss.map D.str/\H A=XV (.ext (oM P w A (vY (ss.map toS))))
def MD(S:oM P w a ks h):oN P w H h a (.ext (oM P w a ks)):=
 ⟨S,let ⟨o,_,_,_,ho,_⟩:=S;⟨o,ho⟩,λb c x k=>x.keep k⟩
def zf2(c:aR):zU (C4 c) where
 cl:=λ_ _ _=>rfl
 turn:=λd b g k n i j u l o m f=>by
  show compTurn (.SetComp c d b g) k n i j=_;unfold compTurn yR;rcases f with f|⟨v,y,z,f⟩
  ·simp only[m,f];rfl
  ·simp only[m,f,bne_self_eq_false,bJ,if_false,bind_assoc,pure_bind]
   first|rfl|congr 1
 keep:=λ⟨p,e,q⟩ r x=>⟨p,e,x.keep _ _ q r⟩
 new:=λ{P w A E Q s}h=>by
  unfold C4 newSet setsByText;refine aa (aa (eV (aj ?_)));dsimp only;simp only[newObj];refine aa (wpAny_alloc (aj (h (VR w) rfl λH h a _ e=>MD ?_)));exact⟨_,#[],0,_,e,⟨rfl,rfl,rfl⟩,rfl,λe t=>by simp at t,by simp,by simp,by decide,by rfl,λe=>by show(!wL w)=YP;rw[e];rfl,λe=>absurd rfl e⟩
 g0:=⟨[],rfl,rA⟩
 q1:=λ_ _ _ _ _ _ _=>rfl
 u1:=λ_ _ _ _ _ _ _ _=>rfl
 d1:=λ_ _ _ _ _ _ _ _ _=>rfl
 u2:=λ_ _ _ _ _ _ _ _=>rfl
 d2:=λ_ _ _ _ _ _ _ _ _=>rfl
def M4(g:H A=XV (.ext (oM P w A ks)))(S:oM P w A ks h):∀a,oK H a->oK (upd H A o) a:=by
 rintro a ⟨l,b,m,n⟩;have p:a≠A:=by rintro rfl;rw[g] at b;cases b
 refine⟨l,by rw[qf p];exact b,m,λd r e=>?_⟩;obtain⟨c,s,rfl,f,i⟩:=n d r e;have u:c≠A:=by
  rintro rfl;rw[g] at f;cases f;obtain⟨q,z,B,C,t,v,j,k,_⟩:=i h S;cases v;obtain⟨D,E,F,G,x,_,y,_⟩:=S;rw[x] at j;cases j;rw[y] at k;cases k
 exact⟨c,s,rfl,by rw[qf u];exact f,i⟩
section
variable{X:Cx}{A:ab}{X4:List ab}{elt:aR}{gens:List bH}{te:DE}
def zdO(J:X.xe=λ_ _=>False)(L:PD X qr elt te)(M:gens[k]?=X9):ym X Z (C4 elt) A X4 e gens (yb te) k []:=by
 intro a s z H i F O N Q E _ B q;unfold yR;rw[M];show ao _ _ (do let v <- eval elt X.env;standAt elt.pos;let _ <- call (.builtin "set.add") [.ref A,v]) _ _ s;obtain⟨f,rfl,P⟩:=B.grown;cases j:te F O with
 | ok d O1=>
  have l:=q;unfold tQ yb at l;rw[j] at l;cases d with
  | str cs=>
   have n:xE X (C4 elt) A X4 a z H i (qm []) (if (f.map D.str).length<1000 then .ok (f.map D.str++[.str cs]) O1 else .bad) Q:=l;by_cases C:(f.map D.str).length<1000
   ·rw[Y2 C] at n;refine aa (yZ J (L.out a s z H (λv p=>∃g,Ext H i p g/\ou X.K p (A::X4) g O1/\X6 X.K p (A::X4) g (.str cs) v) B.inv ⟨A::X4,i,F,O,B.env,B.cells,by rw[j];exact λv H' R x c r=>⟨R,x,c,r⟩⟩)
     λu T ⟨v,p,G,U,g,x,c,r⟩=>?_)
    have V:A∉i:=λm=>B.cells.nh A m 'k';have y:=x.keep A _ P V;unfold X6 at r;subst r;obtain⟨t,rfl⟩:=U;have S:oM X.prog X.w A (vY (f.map toS)) T.heap:=(G.hok A _ y).1;have W:(vY (f.map toS)).length+1<scanBound:=by
     have Y:=Pc (f.map toS);rw[au] at Y C;unfold scanBound;lia
    refine aa (dM (aa (Zb S W λI sb h=>aj ?_)));rw[<- Zo] at h;have h:oM X.prog X.w A (vY ((f++[cs]).map toS)) I:=by rw[bT];exact h
    have An:∃u,I.get? A=XV u:=let ⟨o,_,_,_,ho,_⟩:=h;⟨o,ho⟩;exact n _ z _ g (G.write (x:=A) (e:=A) (by rw[y];exact trivial) (.inl rfl) (λb u hb hu=>(sb.2 b hb).trans hu) An (MD h)) (x.ea.trans (.putX (M4 y S))) (c.putX (M4 y S)) ⟨f++[cs],by simp,rA⟩ rfl λ_ _=>rfl
   ·rw[Z5 C] at n;exact n.elim
  |_=>exact ak l
 | exc c O1=>
  unfold tQ yb at q;rw[j] at q;exact q.elim
 | bad=>
  unfold tQ yb at q;rw[j] at q;exact q.elim
end
section
variable{X:Cx}{Ex:Nat->Hp->Prop}
def zbr(ext:List Str)(h:X.calm=YP)(i:sZ X Ex tg iter it0)(j:vk X.env.scope scope (X.N++ext) (qm (⟨it0,g,ts⟩::cs)))
  (k:∀cells C s H a,PG (ql X (X.N++ext) scope cells C s H a) tg (g.rd X.K)/\bU (λe t=>qZ (ql X (X.N++ext) scope cells C s H a) qr e t) ifs ts/\oO (ql X (X.N++ext) scope cells C s H a) gs cs/\PD (ql X (X.N++ext) scope cells C s H a) qr elt te)
  (l:∀x,bF iter X.env x=pure x:=by intro _;rfl):PE X (.SetComp elt (⟨tg,iter,ifs,0⟩::gs) scope pos) (λd H Q=>∃X4 μ σ O,oz X.K H X4 μ σ d/\ou X.K H X4 μ O/\CV (C4 elt) Ex X.K X.prog X.w H X4 μ (wo ext.length it0 g ts cs (yb te) σ O) λL H'=>Q (.ref L) H'):=by
 rintro f s d H Q I ⟨X4,μ,σ,O,n,o,q⟩;show ao _ _ (comprehension (.SetComp elt (⟨tg,iter,ifs,0⟩::gs) scope pos) scope X.env _ (newSet (.type "set")) Y1 (eval iter X.env)) _ _ s;refine Cf (zf2 elt) (use:=X9) h i j (λcells p s H a _ _ _=>let ⟨h1,h2,h3,h4⟩:=k cells p s H a;⟨h1,h2,h3,λ_ _ _ r=>zdO rfl h4 r⟩) l I n o ?_;cases b:wo ext.length it0 g ts cs (yb te) σ O with
 |bad=>rw[b] at q;exact q
 |exc c' O'=>rw[b] at q;exact q
 | ok X8 O'=>
  rw[b] at q;intro L H' u v x c y P C z A B D E F G;obtain⟨m,J⟩:=A;exact⟨m,J,λR M=>⟨.ref L,H',Inv.bare z M B D E F G,rfl,q L H' u v x c y⟩⟩
theorem DP{K:ah}{H:Hp}{X4 μ:List ab}:∀a:List (List Nat),oy K H X4 μ (a.map D.str) (a.map λcs=>V.str (toS cs))
 |[]=>.nil
 |cs::r=>.cons JA (DP r)
def MU(o:Bool)(r:R (List D)):R D:=r.bnd λX8 O1=>match uu X8 with
 |some ss=>if ss.length<1000 then (if o=YP then .ok (.own O1.length) (O1++[(qi ss).map .str]) else .ok (.lst ((qi ss).map .str)) O1) else .bad
 |none=>.bad
def AB(o:Bool)(ext:Nat)(it0:DI)(g:Tg)(ts:List DT)(cs:List Cl)(te:DE):DE:=λσ O=>MU o (wo ext it0 g ts cs (yb te) σ O)
theorem strL_map:∀a:List (List Nat),uu (a.map D.str)=XV a
 |[]=>rfl
 |cs::r=>by show(uu (r.map D.str)).map _=_;rw[strL_map r];rfl
def YS{P:aM}{w:aV}{H H':Hp}{X4 μ h:List ab}{b:Ow}{L:ab}{Q:VK}{o:Bool}{d:List (List Nat)}{K:ah}(x:Ext H μ H' h)(c:ou K H' X4 h b)(i:H' L=XV (.ext (oM P w L (vY (d.map toS)))))(j:d.length<1000)
  (q:q9 Ex K H X4 μ (if o=YP then .ok (.own b.length) (b++[(qi d).map .str]) else .ok (.lst ((qi d).map .str)) b) Q):
  ∃a ks,[V.ref L]=[V.ref a]/\H' a=XV (.ext (oM P w a ks))/\ks.length<1000/\∀l g,g.Perm ks->ks.Nodup->sortedS g=YP->H' l=X9->Q (.ref l) (upd H' l (.lst (g.map V.str))):=by
 refine⟨L,_,rfl,i,gX (Pc _) (by rw[au];exact j),λl g k m n f=>?_⟩;have e:=Wf k m n;subst e;rw[bi];cases o with
 |true=>exact post.ok (show q9 Ex K H X4 μ (.ok (.own b.length) (b++[(qi d).map .str])) Q from q) (x.trans (.cell f)) (c.cell f (DP _)) (Hc c.len)
 |false=>exact post.ok (show q9 Ex K H X4 μ (.ok (.lst ((qi d).map .str)) b) Q from q) (x.trans (.laid f)) (c.laid f) (X6.newL c f (DP _))
def XW(o:Bool)(ext:List Str)(h:X.calm=YP)(k:Gl X x)(l:X.mg x=X9)(m:bC x=XV (.builtin "sorted"))(n:sZ X Ex tg iter it0)(r:vk X.env.scope scope (X.N++ext) (qm (⟨it0,g,ts⟩::cs)))
  (u:∀cells C s H d,PG (ql X (X.N++ext) scope cells C s H d) tg (g.rd X.K)/\bU (λe t=>qZ (ql X (X.N++ext) scope cells C s H d) qr e t) ifs ts/\oO (ql X (X.N++ext) scope cells C s H d) gs cs/\PD (ql X (X.N++ext) scope cells C s H d) qr elt te)
  (v:∀x,bF iter X.env x=pure x:=by intro _;rfl) (w:x ≠ "__name__":=by decide) (y:(x==("__debug__":Str))=Y1:=by decide):
  PD X Ex (.Call (.Name x p) [.SetComp elt (⟨tg,iter,ifs,0⟩::gs) scope pos] [] Eg) (AB o ext.length it0 g ts cs te):=
 r9 (JZ (zc6 h) k l m (Dj (zbr ext h n r u v) Gi (by rfl)) w y (by rfl) (by rfl)) λa i j O F H Q z A q=>by
  refine⟨a,i,j,O,z,A,?_⟩;unfold AB at q;cases f:wo ext.length it0 g ts cs (yb te) j O with
  |bad=>rw[f] at q;exact q
  |exc c' O'=>rw[f] at q;exact q
  | ok X8 O'=>
   rw[f] at q;rintro L G I J x c ⟨b,rfl,B⟩;have q:q9 Ex X.K H a i (match uu (b.map D.str) with|some b=>if b.length<1000 then (if o=YP then .ok (.own O'.length) (O'++[(qi b).map .str]) else .ok (.lst ((qi b).map .str)) O') else .bad|none=>.bad) Q:=q;rw[strL_map] at q;obtain⟨E,q⟩:=post.ite q;exact YS x c.unhide B E q
end
section
end
end DL
namespace DL
open PySem L2
structure Nx(l:List Str):Prop
section
variable{X:Cx}{Ex:Nat->Hp->Prop}{elt tg iter:aR}{ifs:List aR}{gs:List bH}{scope:cO}{pos rP py Eg p:Pos}{x y:Str}{i k:Nat}{ext:List Str}{it0:DI}{g:Tg}{ts:List DT}{cs:List Cl}{te:DE}
abbrev C2(X:Cx)(ext:List Str)(scope:cO)(tg:aR)(g:Tg)(ifs:List aR)(ts:List DT)(gs:List bH)(cs:List Cl)(elt:aR)(te:DE):Prop:=∀cells C s H fp,PG (ql X (X.N++ext) scope cells C s H fp) tg (g.rd X.K)/\bU (λe t=>qZ (ql X (X.N++ext) scope cells C s H fp) qr e t) ifs ts/\oO (ql X (X.N++ext) scope cells C s H fp) gs cs/\PD (ql X (X.N++ext) scope cells C s H fp) qr elt te
def J0(_:Nx ext)(o:Bool)(a:X.calm=YP)(b:vk X.env.scope scope (X.N++ext) (qm (⟨it0,g,ts⟩::cs)))(c:sZ X Ex tg iter it0)(d:C2 X ext scope tg g ifs ts gs cs elt te)(e:ext.length=k:=by rfl)(f:∀x,bF iter X.env x=pure x:=by intro _;rfl):
  PD X Ex (.ListComp elt (⟨tg,iter,ifs,0⟩::gs) scope pos) (pV o k it0 g ts cs te):=e▸WU o ext a c b d f
def KD(_:Nx ext)(o:Bool)(a:X.calm=YP)(b:X.N.Nodup)(c:X.N[i]?=XV y)(d:X.env.scope.names.lookup y=XV .local)(e:vk X.env.scope scope (X.N++ext) (qm (⟨it0,g,ts⟩::cs)))(f:sZ X Ex tg iter it0)(h:C2 X ext scope tg g ifs ts gs cs elt te)
  (j:swapsWith (.ListComp elt (⟨tg,iter,ifs,0⟩::gs) scope pos) (XV (.Name y py)) rP.line X.env=pure YP) (l:ext.length=k:=by rfl) (m:∀x,bF iter X.env x=pure x:=by intro _;rfl):
  rM X Ex (.Assign [.Name y py] (.ListComp elt (⟨tg,iter,ifs,0⟩::gs) scope pos) rP) (pZ i (pV o k it0 g ts cs te)):=l▸z9x o ext a b c d f e h j m
def JY(_:Nx ext)(o:Bool)(a:X.calm=YP)(b:Gl X x)(c:X.mg x=X9)(d:bC x=XV (.builtin "sorted"))(e:vk X.env.scope scope (X.N++ext) (qm (⟨it0,g,ts⟩::cs)))(f:sZ X Ex tg iter it0)(h:C2 X ext scope tg g ifs ts gs cs elt te)(j:ext.length=k:=by rfl)(l:∀x,bF iter X.env x=pure x:=by intro _;rfl)
  (m:x ≠ "__name__":=by decide) (n:(x==("__debug__":Str))=Y1:=by decide):PD X Ex (.Call (.Name x p) [.SetComp elt (⟨tg,iter,ifs,0⟩::gs) scope pos] [] Eg) (AB o k it0 g ts cs te):=j▸XW o ext a b c d f e h l m n
end
noncomputable def uz(c:DT)(b:DS):Nat->Sg->Ow->RS
 |0,_,_=>.bad
 | f+1,σ,O=>(c σ O).bnS λk O1=>if k=YP then (match b σ O1 with
   |.nx σ' O'=>uz c b f σ' O'
   |.ct σ' O'=>uz c b f σ' O'
   |.bk σ' O'=>.nx σ' O'
   |r=>r) else .nx σ O1
def C9(f:Nat)(c:DT)(b:DS):DS:=uz c b f
section
variable{X:Cx}{Ex:Nat->Hp->Prop}{pos:Pos}
def zbL(f:Nat)(y:kl (aw X.prog X.w) X.A X.env X.xe)(B:qZ X Ex c tc)(C:tF X Ex body tb):rM X Ex (.While c body [] pos) (C9 f tc tb):=
 w9 (zeF y B.out C.out) λa g b O E h H j l q=>by
  refine⟨λm h H=>∃a g b O,oz X.K H a g b h/\ou X.K H a g O/\oB Ex X.K H a g (uz tc tb m b O) E,⟨f,a,g,b,O,j,l,q⟩,?_⟩;rintro m h H ⟨a,g,b,O,j,l,q⟩;cases m with
  |zero=>exact ak q
  | succ f=>
   refine xj.goS j l q λk n t o u G v p=>?_;cases k with
   |false=>exact p h t o .refl u v
   | true=>
    rw[Y2 rfl];refine⟨λh H=>∃a g b O,oz X.K H a g b h/\ou X.K H a g O/\oB Ex X.K H a g (uz tc tb f b O) E,λ_ _ z=>⟨f,cH _,z⟩,a,o,b,n,u,v,?_⟩;have p:oB Ex X.K t a o (match tb b n with|.nx σ' O'=>uz tc tb f σ' O'|.ct σ' O'=>uz tc tb f σ' O'|.bk σ' O'=>.nx σ' O'|r=>r) E:=p;cases i:tb b n with
    |nx σ' O'=>rw[i] at p;exact λD F s x e c=>⟨a,s,σ',O',e,c,oB.ext p x⟩
    |ct σ' O'=>rw[i] at p;exact λD F s x e c=>⟨a,s,σ',O',e,c,oB.ext p x⟩
    |bk σ' O'=>rw[i] at p;exact p
    |rt d O'=>rw[i] at p;exact p
    |exc c' O'=>rw[i] at p;exact p
    |bad=>rw[i] at p;exact p
end
end DL
namespace DL
open PySem L2 PyProof.Rows
abbrev DK:=Sum Int (List Nat)
noncomputable def v_:D->Option DK
 |.int i=>XV (.inl i)
 |.str cs=>XV (.inr cs)
 |_=>X9
def BG(k:DK):D->Bool
 |.map [j] _=>decide (j=k)
 |_=>Y1
def Cu:List D->List DK
 |.map [k] _::r=>k::Cu r
 |_=>[]
def Cv:List D->List D
 |.map _ [d]::r=>d::Cv r
 |_=>[]
def sE(p:DK×D):D:=.map [p.1] [p.2]
theorem JK:∀ps:List (DK×D),Cu (ps.map sE)=ps.map (·.1)
 |[]=>rfl
 |p::r=>by show p.1::Cu (r.map sE)=_;rw[JK r];rfl
theorem Js:∀ps:List (DK×D),Cv (ps.map sE)=ps.map (·.2)
 |[]=>rfl
 |p::r=>by show p.2::Cv (r.map sE)=_;rw[Js r];rfl
def Gq:∀{a b:DK},kD a=kD b->a=b
 |.inl i,.inl j,h=>by cases h;rfl
 | .inr x,.inr y,h=>by
  have h:(⟨x.toArray⟩:Str)=⟨y.toArray⟩:=ip h;have h:x.toArray=y.toArray:=congrArg Str.cps h;have:x=y:=by simpa using h
  rw[this]
 |.inl _,.inr _,h=>by cases h
 |.inr _,.inl _,h=>by cases h
def Ap(tk tv:DE):Em:=λσ O X8=>(tk σ O).bnd λx O1=>match v_ x with
 |some k=>(tv σ O1).bnd λd O2=>if X8.length<1000/\X8.any (BG k)=Y1 then .ok (X8++[.map [k] [d]]) O2 else .bad
 |none=>.bad
def BU(ke ve:aR):vo where
 ex:=λgens scope pos=>.DictComp ke ve gens scope pos
 emit:=λX8 env=>do
  let kv <- eval ke env;let vv <- holding [kv] (eval ve env)
  match X8 with
  | .ref d=>do
   standAt { ke.pos with endLine:=ve.pos.endLine,endCol:=ve.pos.endCol }
   holding [kv,vv] (dictSet d kv vv)
  |_=>unsupported "internal:dictcomp"
 new:=newDict
 ho:=λ_ _ _=>.dK []
 G:=λK _ _ A X4 H μ X8=>∃(ps:List (DK×D))(vs:List V),X8=ps.map sE/\H A=XV (.dK ((ps.map λp=>kD p.1).zip vs))/\ps.length=vs.length/\oy K H (A::X4) μ (ps.map (·.2)) vs
def P0(j l:aR):zU (BU j l) where
 cl:=λ_ _ _=>rfl
 turn:=λc b f k o g i z m p n d=>by
  show compTurn (.DictComp j l c b f) k o g i=_;unfold compTurn yR;rcases d with d|⟨A,B,C,d⟩
  ·simp only[n,d];rfl
  ·simp only[n,d,bne_self_eq_false,bJ,if_false,bind_assoc,pure_bind]
   first|rfl|congr 1
 keep:=λ⟨q,r,e,s,t,u⟩ v x=>⟨q,r,e,x.keep _ _ s v,t,u.ext x⟩
 new:=λh=>cg (h _ rfl λH h a w e=>by
  refine⟨bX _,beq_eq_false_iff_ne.mpr (cS (bo w)),[],.nil,?_⟩;exact⟨_,#[],0,e,⟨rfl,rfl,rfl⟩,rfl,λ_ y=>by simp at y,Pairs.nil,ie⟩)
 g0:=⟨[],[],rfl,rA,rfl,.nil⟩
 q1:=λ_ _ _ _ _ _ _=>rfl
 u1:=λ_ _ _ _ _ _ _ _=>rfl
 d1:=λ_ _ _ _ _ _ _ _ _=>rfl
 u2:=λ_ _ _ _ _ _ _ _=>rfl
 d2:=λ_ _ _ _ _ _ _ _ _=>rfl
def xA(g:H A=XV (.dK k_)):∀a,oK H a->oK (upd H A o) a:=by
 rintro a ⟨h,b,i,j⟩;have k:a≠A:=by rintro rfl;rw[g] at b;cases b
 refine⟨h,by rw[qf k];exact b,i,λd l e=>?_⟩;obtain⟨c,m,rfl,f,n⟩:=j d l e;have p:c≠A:=by rintro rfl;rw[g] at f;cases f
 exact⟨c,m,rfl,by rw[qf p];exact f,n⟩
theorem Qz:∀(ps:List (DK×D))(vs:List V),(ps.map sE).any (BG k)=Y1->uw ((ps.map λp=>kD p.1).zip vs) (kD k)=X9
 |[],_,_=>rfl
 |_::_,[],_=>rfl
 | p::r,v::vs,h=>by
  rw[bh,fQ,fD] at h;obtain⟨a,b⟩:=h;have n:¬ p.1=k:=λe=>by
   have:decide (p.1=k)=Y1:=a;rw[decide_eq_true e] at this;cases this
  show uw ((kD p.1,v)::(r.map λp=>kD p.1).zip vs) (kD k)=X9;rw[Ci (p:=(kD p.1,v)) (λe=>n (Gq e))];exact Qz r vs b
def IM{K:ah}{H:Hp}{X4 μ:List ab}{x:D}{k:DK}{v:V}(e:v_ x=XV k)(h:X6 K H X4 μ x v):v=kV (kD k):=by
 cases x with
 |int i=>cases e;unfold X6 at h;exact h
 |str cs=>cases e;unfold X6 at h;exact h
 |_=>cases e
section
variable{X:Cx}{A:ab}{X4:List ab}{ke ve:aR}{gens:List bH}{tk tv:DE}
def zcS{Z:L2.St->Hp->List ab->Prop}{k:Nat}{e:aR}(Y:X.xe=λ_ _=>False)(L:PD X qr ke tk)(M:PD X qr ve tv)(hk:gens[k]?=X9):ym X Z (BU ke ve) A X4 e gens (Ap tk tv) k []:=by
 intro b s i H j l O X8 Q E _ B q;unfold yR;rw[hk];show ao _ _ (do
  let kv <- eval ke X.env;let vv <- holding [kv] (eval ve X.env)
  (do
   standAt { ke.pos with endLine:=ve.pos.endLine,endCol:=ve.pos.endCol }
   holding [kv,vv] (dictSet A kv vv))) _ _ s
 obtain⟨a,n,rfl,hA,N,dA⟩:=B.grown;unfold tQ Ap at q;cases D:tk l O with
 |exc c O1=>rw[D] at q;exact q.elim
 |bad=>rw[D] at q;exact q.elim
 | ok x O1=>
  rw[D] at q;have f:xE X (BU ke ve) A X4 b i H j (qm []) (match v_ x with
   |some k=>(tv l O1).bnd λd o=>if (a.map sE).length<1000/\(a.map sE).any (BG k)=Y1 then .ok (a.map sE++[.map [k] [d]]) o else .bad
   |none=>.bad) Q:=q
  cases P:v_ x with
  |none=>rw[P] at f;exact f.elim
  | some kk=>
   rw[P] at f;dsimp only at f;refine aa (yZ Y (L.out b s i H (λv g=>∃h,Ext H j g h/\ou X.K g (A::X4) h O1/\X6 X.K g (A::X4) h x v) B.inv ⟨A::X4,j,l,O,B.env,B.cells,by rw[D];exact λv H' R x c r=>⟨R,x,c,r⟩⟩)
    λu s1 ⟨v,g,I1,ru,h,x1,c1,r1⟩=>?_)
   cases F:tv l O1 with
   |exc c o=>rw[F] at f;exact f.elim
   |bad=>rw[F] at f;exact f.elim
   | ok d o=>
    rw[F] at f;have G:xE X (BU ke ve) A X4 b i H j (qm []) (if (a.map sE).length<1000/\(a.map sE).any (BG kk)=Y1 then .ok (a.map sE++[.map [kk] [d]]) o else .bad) Q:=f;by_cases I:(a.map sE).length<1000/\(a.map sE).any (BG kk)=Y1
    ·rw[Y2 I] at G;refine aa (bD (yZ Y (M.out b s1 i g (λv J=>∃t,Ext g h J t/\ou X.K J (A::X4) t o/\X6 X.K J (A::X4) t d v) I1 ⟨A::X4,h,l,O1,B.env.ext x1,c1,by rw[F];exact λv H' R x c r=>⟨R,x,c,r⟩⟩)
      λu2 s2 ⟨S,J,I2,T,t,x2,c2,r2⟩=>?_))
     refine aa (dM (bD ?_));have nA:A∉j:=λm=>B.cells.nh A m 'k';have U:=x1.trans x2;have w:=U.keep A _ hA nA;have V:=dA.ext U;have ek:=IM P r1;subst ek;obtain⟨z,hd,ws,y,dd⟩:=IL I2.hok w;have C:((a.map λp=>kD p.1).zip n).length=a.length:=by rw[nE,au,<- N,Nat.min_self]
     have W:a.length<1000:=by have:=I.1;rwa [au] at this
     have hz:ws.length<=KB:=by rw[<- y.length];exact z
     refine wpAny_dictSet_pairs (hsz:=hz) (IG ru) dd λh' Bx sb=>?_;have he:∃q,h'.get? A=XV q:=let ⟨q,_,_,hq,_⟩:=Bx;⟨q,hq⟩;have zx:(zI ((a.map λp=>kD p.1).zip n) (kD kk) S).length<=KB:=aE (z9m _ _ _) (by rw[C];exact aE W 'u');have I3:=OH (t':=s2.toks+1) (ob:=.dK (zI ((a.map λp=>kD p.1).zip n) (kD kk) S)) I2 (by rw[w];exact fX) sb he (IU zx hd (y.put _ T) Bx);rw[zeO _ (Qz a n I.2)] at I3;refine G _ i _ t I3 (U.ea.trans (.putX (xA w))) (c2.putX (xA w)) ⟨a++[(kk,d)],n++[S],by rw[bT];rfl,?_,by simp[N],?_⟩ rfl λ_ _=>rfl
     ·rw[rA,bT,List.zip_append (by rw[au];exact N)];rfl
     ·rw[bT];exact(V.append (.cons r2 .nil)).mv (Ea.putX (A:=A) (xA w)).mv
    ·rw[Z5 I] at G;exact G.elim
end
def Inv.swapK(I:L2.Inv X X5 σ H s)(e:H a=XV u0)(h:(∃i,u0=.dK i) \/ ∃o i,u0=.frz o (.dK i))(r:∀o u,X.H₀ a≠XV (.frz o u))(j:oN X.prog X.w (upd H a u1) s.heap a u1):L2.Inv X X5 σ (upd H a u1) s:=by
 have k:∀{b:ab}{d:List V},H b=XV (.tup d)->b≠a:=λ{b d}z q=>by
  rw[q,e] at z;rcases h with⟨_,rfl⟩|⟨_,_,rfl⟩<;>cases z
 have f:∀{b:ab},H b=X9->upd H a u1 b=X9:=λ{b}z=>by rw[qf (cS (sk e z))];exact z
 refine⟨I.ok,I.os,I.bare,⟨I.base.keep,I.base.slot,λb o g n t=>f (I.base.free b o g n t),I.base.there,λb d g=>?_,λb o u g=>?_,λb v g=>?_⟩,I.loc,I.cell,f I.free,λx c g=>f (I.freeC x c g),λp y=>let ⟨g1,g2,g3⟩:=I.pin p y;⟨g1,f g2,g3⟩,λb u g=>?_,I.len,I.tk⟩
 ·have z:=I.base.tups b d g;rw[qf (k z)];exact z
 ·have n:b≠a:=λq=>r o u (q▸g);rw[qf n];exact I.base.frzs b o u g
 ·obtain⟨m,z⟩:=I.base.tbls b v g;refine⟨m,?_⟩;rw[qf (λq=>?_)];exact z;rw[q,e] at z;rcases h with⟨_,rfl⟩|⟨_,_,rfl⟩<;>cases z
 ·by_cases l:b=a
  ·subst l;rw[rA] at g;cases g;exact j
  ·rw[qf l] at g;refine(I.hok b u g).stay (λ_ _ _ z=>z) (λA z=>?_) λA d z=>?_
   ·rw[qf (λq=>?_)];exact z;rw[q,e] at z;rcases h with⟨_,rfl⟩|⟨_,_,rfl⟩<;>cases z
   ·rw[qf (k z)];exact z
def Inv.nofrz(I:L2.Inv X X5 σ H s)(e:H a=XV (.dK k_)):∀o u,X.H₀ a≠XV (.frz o u):=λo u z=>by
 have:=I.base.frzs a o u z;rw[e] at this;cases this
def Inv.frzK(I:L2.Inv X X5 σ H s)(e:H a=XV (.dK k_)):∃o,L2.Inv X X5 σ (upd H a (.frz o (.dK k_))) s:=by obtain⟨z,d,f,b,c⟩:=IL I.hok e;obtain⟨o,h,i,g,r⟩:=id c;exact⟨o,Inv.swapK I e (.inl ⟨_,rfl⟩) (Inv.nofrz I e) ⟨g,z,d,f,b,c⟩⟩
def Inv.thawK(I:L2.Inv X X5 σ H s)(e:H a=XV (.frz o (.dK k_)))(c:∀o u,X.H₀ a≠XV (.frz o u)):L2.Inv X X5 σ (upd H a (.dK k_)) s:=by obtain⟨z,d,f,b,g⟩:=F_ I.hok (.inr ⟨o,e⟩);exact Inv.swapK I e (.inr ⟨_,_,rfl⟩) c ⟨z,d,f,b,g⟩
def RF{K:ah}{H:Hp}{X4 μ:List ab}{O:Ow}{L:ab}{ps:List (DK×D)}{vs:List V}{o:Obj}(c:ou K H (L::X4) μ O)(a:L∉X4)(h:H L=XV (.frz o (.dK ((ps.map λp=>kD p.1).zip vs))))(b:ps.length=vs.length)(q:oy K H (L::X4) μ (ps.map (·.2)) vs):
  X6 K H X4 μ (.map (Cu (ps.map sE)) (Cv (ps.map sE))) (.ref L):=by rw[JK,Js];unfold X6;exact⟨L,vs,rfl,⟨o,by rw[bi];exact h⟩,a,λm=>c.nh L m 'k',by rw[au];exact b,q.mv .unhide⟩
def w_(ext:Nat)(it0:DI)(g:Tg)(ts:List DT)(cs:List Cl)(tk tv:DE):DE:=λσ O=>(wo ext it0 g ts cs (Ap tk tv) σ O).bnd λX8 O1=>.ok (.map (Cu X8) (Cv X8)) O1
section
variable{X:Cx}{Ex:Nat->Hp->Prop}
def ME{f h d a:aR}{b:List aR}{gs:List bH}{scope:cO}{pos:Pos}{ext:List Str}{g:Tg}{ts:List DT}{cs:List Cl}{tk tv:DE}
  (i:∀cells C s H c,PG (ql X (X.N++ext) scope cells C s H c) d (g.rd X.K)/\bU (λe t=>qZ (ql X (X.N++ext) scope cells C s H c) qr e t) b ts/\oO (ql X (X.N++ext) scope cells C s H c) gs cs/\PD (ql X (X.N++ext) scope cells C s H c) qr f tk/\PD (ql X (X.N++ext) scope cells C s H c) qr h tv) {Z:ab->Hp->L2.St->Hp->List ab->Prop} (cells Cn s H c):
  PG (ql X (X.N++ext) scope cells Cn s H c) d (g.rd X.K)/\bU (λe t=>qZ (ql X (X.N++ext) scope cells Cn s H c) qr e t) b ts/\oO (ql X (X.N++ext) scope cells Cn s H c) gs cs/\∀A X4 k,(⟨d,a,b,0⟩::gs:List bH)[k]?=X9->ym (ql X (X.N++ext) scope cells Cn s H c) (Z A H) (BU f h) A X4 ((BU f h).ex (⟨d,a,b,0⟩::gs) scope pos) (⟨d,a,b,0⟩::gs) (Ap tk tv) k []:=
 let ⟨h1,h2,h3,h4,h5⟩:=i cells Cn s H c
 ⟨h1,h2,h3,λ_ _ _ j=>zcS rfl h4 h5 j⟩
def ZX(ext:List Str)(B:X.calm=YP)(D:sZ X Ex tg iter it0)(E:vk X.env.scope scope (X.N++ext) (qm (⟨it0,g,ts⟩::cs)))
  (F:∀cells C s H a,PG (ql X (X.N++ext) scope cells C s H a) tg (g.rd X.K)/\bU (λe t=>qZ (ql X (X.N++ext) scope cells C s H a) qr e t) ifs ts/\oO (ql X (X.N++ext) scope cells C s H a) gs cs/\PD (ql X (X.N++ext) scope cells C s H a) qr ke tk/\PD (ql X (X.N++ext) scope cells C s H a) qr ve tv)
  (G:∀x,bF iter X.env x=pure x:=by intro _;rfl):PD X Ex (.DictComp ke ve (⟨tg,iter,ifs,0⟩::gs) scope pos) (w_ ext.length it0 g ts cs tk tv):=by
 refine⟨?_⟩;rintro j s d_ H Q I ⟨f,μ,M,O,P,k,q⟩;show ao _ _ (comprehension (.DictComp ke ve (⟨tg,iter,ifs,0⟩::gs) scope pos) scope X.env _ newDict Y1 (eval iter X.env)) _ _ s;unfold w_ at q;refine Cf (P0 ke ve) (use:=X9) B D E (λcells R s H a _ _ _=>ME F cells R s H a) G I P k ?_;cases h:wo ext.length it0 g ts cs (Ap tk tv) M O with
 |bad=>rw[h] at q;exact q
 |exc c' O'=>rw[h] at q;exact q
 | ok X8 O'=>
  rw[h] at q;rintro L l r v x c ⟨w,y,rfl,i,S,T⟩ s' C U V W Y Z ce pn;obtain⟨m,hn⟩:=V;have n1:L∉f:=λm=>k.ht L m v;refine⟨m,hn,λh' xR=>?_⟩;obtain⟨o,J⟩:=Inv.frzK (Inv.bare U xR W Y Z ce pn) i;have z:Ea L l r (upd l L (.frz o (.dK ((w.map λp=>kD p.1).zip y)))) r:=.putX (xA i);have A:=c.putX (o:=.frz o (.dK ((w.map λp=>kD p.1).zip y))) (xA i);have d:=x.ea.trans z;exact⟨.ref L,_,J,rfl,post.ok q ⟨d.pre,λb u g n ht=>d.kept b u g n (sk g v) ht,d.fresh,d.there,d.tab⟩ A.unhide (RF A n1 rA S (T.mv z.mv))⟩
end
def AH:Ow->List D->R D:=λO xs=>match xs with
 | [x]=>match tJ O x with
  | some ds=>match uu ds with
   |some ss=>if ss.Nodup/\ss.length<64 then .ok (.lst ((qi ss).map .str)) O else .bad
   |none=>.bad
  |none=>.bad
 |_=>.bad
def Pk{b:List (List Nat)}{a:List Str}(d:a.Perm (b.map toS))(f:b.Nodup)(g:sortedS a=YP):a=(qi b).map toS:=by
 have i:(b.map toS).Nodup:=by
  rw[List.nodup_iff_pairwise_ne] at f ⊢;rw[fy];refine f.imp λh e=>h ?_;have e:(toS _).cps=(toS _).cps:=congrArg Str.cps e;simpa using e
 have j:(a.map (·.cps.toList)).Pairwise (· < ·):=by
  cases a with
  |nil=>exact eH
  |cons p l=>exact Kd p l g (d.nodup_iff.mpr i)
 have k:a.map (·.cps.toList)=qi b:=J7 j (GS b) λx=>by
  rw[vw,aB];constructor
  ·rintro⟨o,m,rfl⟩;obtain⟨r,n,rfl⟩:=aB.mp (d.mem_iff.mp m);exact n
  ·intro q;exact⟨toS x,d.mem_iff.mpr (aB.mpr ⟨x,q,rfl⟩),rfl⟩
 rw[<- k,bi];refine(mU a).symm.trans (gF λo _=>?_);obtain⟨c⟩:=o;rfl
section
variable{X:Cx}{Ex:Nat->Hp->Prop}{H:Hp}{X4 μ:List ab}
def Nd(K:ah):List V->Hp->VK->Prop:=λxs H Q=>∃p ss,xs=[.ref p]/\qJ K H p (ss.map λcs=>V.str ⟨cs.toArray⟩)/\ss.Nodup/\ss.length<64/\∀l,H l=X9->Q (.ref l) (upd H l (.lst ((qi ss).map λcs=>V.str ⟨cs.toArray⟩)))
def zdU:oJ X (.builtin "sorted") (Nd X.K):=by
 intro g s E H F G Q I r h;obtain⟨p,a,rfl,m,n,i,q⟩:=h;obtain⟨u,rfl,t⟩:=ue r;cases t;obtain⟨d,j,v,J⟩:=I.list m;have w:(a.map λf=>V.str ⟨f.toArray⟩)=(a.map toS).map V.str:=by rw[bi];rfl
 have x:eu d (a.map toS):=GX (by rw[<- w];exact j);have b:d.length=a.length:=by have:=j.length;simpa using this.symm
 refine sorted_strs v.isList x (by rw[b];exact i) λc L y k A=>?_;have e:=Pk k n A;subst e;obtain⟨e,B⟩:=sortedAll_at s.heap d c;have C:H (s.heap.objs.size+1)=X9:=I.hok.fresh (dZ _);refine⟨.ref _,_,I.laid (t':=s.toks) (o:=.lst ((qi a).map λf=>V.str ⟨f.toArray⟩)) (λ_ _ z=>sortedAll_old z) (dZ _) ?_,rfl,q _ C⟩;have l:=GZ y;rw[bi] at l;refine⟨?_,c.toList,e,l,by rw[B]⟩;have D:(qi a).length=a.length:=by have:=k.length_eq;simpa using this
 rw[au,D];exact aE (fJ i) 'u'
def YV:uy X Ex (Nd X.K) AH:=by
 intro H X4 μ O n o Q c d q;unfold AH at q;split at q
 ·rename_i x;obtain⟨v,rfl,b⟩:=tW d;split at q
  ·rename_i r e;obtain⟨p,s,rfl,f,g⟩:=vt c b e;split at q
   ·rename_i h i;obtain⟨⟨j,k⟩,q⟩:=post.ite q;have m:=GI g i;subst m;exact⟨p,h,rfl,f,j,k,λl a=>post.ok q (.laid a) (c.laid a) (X6.newL c a (DP _))⟩
   ·exact ak q
  ·exact ak q
 ·exact ak q
end
def wb(k:DK):List DK->List D->Option D
 |j::ks,d::ds=>if j=k then XV d else wb k ks ds
 |_,_=>X9
theorem QK{K:ah}{H:Hp}{X4 μ:List ab}{k:DK}{d:D}:∀{ks:List DK}{ds:List D}{vs:List V},ks.length=vs.length->oy K H X4 μ ds vs->wb k ks ds=XV d->∃v,uw ((ks.map kD).zip vs) (kD k)=XV v/\X6 K H X4 μ d v
 |[],_,_,_,_,h=>by unfold wb at h;cases h
 |_::_,[],_,_,_,h=>by unfold wb at h;cases h
 |j::ks,d'::ds,[],hl,_,_=>by cases hl
 | j::ks,d'::ds,v::vs,hl,dd,h=>by
  obtain⟨f,g,a,b,c⟩:=(show ∃w r,v::vs=w::r/\X6 K H X4 μ d' w/\oy K H X4 μ ds r from dd);cases a;unfold wb at h;show ∃w,uw ((kD j,v)::(ks.map kD).zip vs) (kD k)=XV w/\_;by_cases e:j=k
  ·rw[Y2 e] at h;cases h;exact⟨v,DD (p:=(kD j,v)) (congrArg kD e),b⟩
  ·rw[Z5 e] at h;rw[Ci (p:=(kD j,v)) (λz=>e (Gq z))];exact QK (mo hl) c h
def sG(td ty:DE):DE:=λσ O=>(td σ O).bnd λx O1=>match x with
 | .map ks ds=>(ty σ O1).bnd λy O2=>match v_ y with
  | some k=>match wb k ks ds with
   |some d=>.ok d O2
   |none=>.bad
  |none=>.bad
 |_=>.bad
section
variable{X:Cx}{Ex:Nat->Hp->Prop}{o i:aR}{pos:Pos}{td ty:DE}
def ZM{o i:aR}{pos:Pos}{td ty:TE}(n:PE X o td)(p:PE X i ty)(q:FX i):PE X (.Subscript o i pos) (λσ H Q=>td σ H λx d=>ty σ d λy c=>∃a f k v,x=.ref a/\Rd c a (.dK f)/\y=kV k/\uw f k=XV v/\Q v c):=by intro b s σ H Q I h;refine zev (T := "dict") jP.lookup q (qc (n b s σ H _ I h) λu r ⟨x,d,t,w,A⟩=>qc (p b r σ d _ t A) λK L ⟨y,c,j,B,a,f,k,v,C,e,D,l,E⟩=>?_);subst C D;obtain rfl:u=fU a:=w;obtain⟨z,M,F,g,m⟩:=F_ j.hok e;obtain⟨N,G,J⟩:=o0.some_of (v:=v) (o:=valueAt F k) (by rw[<- l];exact g.val k);exact⟨m.mapOf.typeIs,wpAny_getItem_of (IG B) m.mapOf G ⟨v,c,j.tok _,J,E⟩⟩
def YI(g:PD X Ex o td)(h:PD X Ex i ty)(j:FX i):PD X Ex (.Subscript o i pos) (sG td ty):=
 r9 (ZM g.out h.out j) λl G I O J H Q m n q=>rd.go m n q λd K v L M s x t r p=>by
  cases d with
  | map ks ds=>
   refine rd.go s t p λy N w P R S u z A b=>?_;have f:=X6.ext u r;unfold X6 at f;obtain⟨a,T,rfl,B,U,V,C,D⟩:=f;cases c:v_ y with
   |none=>rw[c] at b;exact b.elim
   | some k=>
    rw[c] at b;dsimp only at b;cases e:wb k ks ds with
    |none=>rw[e] at b;exact b.elim
    | some d=>
     rw[e] at b;obtain⟨v,E,F⟩:=QK C D e;exact⟨a,_,kD k,v,rfl,.inr B,IM c A,E,post.here b z F⟩
  |_=>exact ak p
end
section
variable{X:Cx}{Ex:Nat->Hp->Prop}
def Wk:bC "sum" = XV (.builtin "sum"):=by boot_by_name
def zeq(f:X.calm=YP):oJ X (.builtin "sum") (λxs H Q=>∃(p:ab)(ns:List Int),xs=[.ref p]/\qJ X.K H p (ns.map V.int)/\Q (.int ns.sum) H):=by
 intro b s t H xs v Q I r h;obtain⟨p,ns,rfl,g,q⟩:=h;obtain⟨u,rfl,i⟩:=ue r;cases i;obtain⟨w,j,k,x⟩:=I.list g;have c:=Rp j;obtain⟨a,d⟩:=c.allInts.items;have l:ns=a.toList.map (·.1):=by rw[<- c.numsOf,<- lQ,<- d]
 have e:=k.isList;rw[d] at e;refine wT I (sum_intListG (I.ok.hd f) e λy m t' n z=>?_);have o:preSum (numAt a) a.size=ns.sum:=by
  rw[preSum_eq,cE 'k',l]
 rw[o];exact⟨.int _,H,I.kept (t':=m) n,⟨_,rfl⟩,q⟩
def yL:Ow->List D->R D:=λO xs=>match xs with
 | [x]=>match tJ O x with
  | some ds=>match xB ds with
   |some ns=>.ok (.int ns.sum) O
   |none=>.bad
  |none=>.bad
 |_=>.bad
def Wr:uy X Ex (λxs H Q=>∃(p:ab)(ns:List Int),xs=[.ref p]/\qJ X.K H p (ns.map V.int)/\Q (.int ns.sum) H) yL:=by
 intro H a i O xs j Q c d q;unfold yL at q;split at q
 ·rename_i x;obtain⟨v,rfl,b⟩:=tW d;split at q
  ·rename_i k e;obtain⟨p,l,rfl,f,g⟩:=vt c b e;split at q
   ·rename_i ns h;refine⟨p,ns,rfl,?_,post.here q c sR⟩;rw[<- JJ g h];exact f
   ·exact ak q
  ·exact ak q
 ·exact ak q
end
section
variable{X:Cx}{Ex:Nat->Hp->Prop}
def Kj(_:Nx ext)(b:X.calm=YP)(c:vk X.env.scope scope (X.N++ext) (qm (⟨it0,g,ts⟩::cs)))(d:sZ X Ex tg iter it0)
  (f:∀cells C s H a,PG (ql X (X.N++ext) scope cells C s H a) tg (g.rd X.K)/\bU (λe t=>qZ (ql X (X.N++ext) scope cells C s H a) qr e t) ifs ts/\oO (ql X (X.N++ext) scope cells C s H a) gs cs/\PD (ql X (X.N++ext) scope cells C s H a) qr ke tk/\PD (ql X (X.N++ext) scope cells C s H a) qr ve tv)
  (h:ext.length=k:=by rfl) (i:∀x,bF iter X.env x=pure x:=by intro _;rfl):PD X Ex (.DictComp ke ve (⟨tg,iter,ifs,0⟩::gs) scope pos) (w_ k it0 g ts cs tk tv):=h▸ZX ext b d c f i
end
end DL
namespace DL
open PySem L2
open PyProof.Rows (AllBare)
structure znf(Cl:Nat->ae)(P:aM)(w:aV)(K:ah)(mg:Str->Option ae)(base:aX)(x:Str)(k n:Nat)(Pt:ab)(F:List D->Ow->R D):Prop where
 ex:∃f fd ps,mg x=XV (.ref f)/\cT K (.ref f)=YP/\Binds K fd ps []/\oP P w K mg base (Mz P w Cl) k f fd ps (yK K (Xk Cl) n Pt F)
structure yN(K:ah)(mg:Str->Option ae)(x:Str)(st:er)(c:ab):Prop where
 ex:∃f fd,mg x=XV (.ref f)/\L2.Fun K x x st f fd/\fd.code=.ref c
def tN(Pt iT n:Nat)(F:List D->Ow->R D)(t:DA):DE:=λσ O=>match σ[iT]? with
 |some (XV (.tab p))=>if p=Pt then j_ n F t σ O else .bad
 |_=>.bad
structure Ic where
 params:iJ
 body:aR
 scope:cO
 tE:DE
def VX(X:Cx)(L:Ic)(c:ab)(ct:ae):Obj:={ cls:=.type "function",data:=.func (dO "<lambda>" (X.env.qual ++ "<lambda>") L.params L.body L.scope (rN X.env.cells L.scope.names []) ((X.mg "__name__").getD .none) (.ref c) ct) }
def pd(X:Cx)(L:Ic)(H:Hp)(a:ab):Prop:=∃c φ ct,H a=XV (.ext λh=>h.get? a=XV (VX X L c ct))/\H c=XV (.ext φ)/\∀h:aX,φ h->∃q,h.CodeRec (.ref c) q
structure zow(Cl:Nat->ae)(X:Cx)(k:Nat)(L:Ic):Prop where
 ls:zf9 X.env.scope L.scope
 df:defaultsOf L.params X.env=([],[])
 bl:∀(name qual:Str)(cl:List (Str×ab))(pm cd ct:ae),bindArgs (dO name qual L.params L.body L.scope cl pm cd ct) ⟨[],[]⟩=pure []
 E:∀(q:Str)(lam:ab)(cd:ae)(cl:List (Str×ab))(A:a7)(outer:List Env)(s:af)(H:Hp)(E:XK),oH k (A.deeper (wU q L.scope s.heap.objs.size lam cd cl))->PD (cxL (Mz X.prog X.w Cl) X.prog X.w X.K X.mg X.base X.N (wU q L.scope s.heap.objs.size lam cd cl) A outer s H E) (Xk Cl E) L.body L.tE
section
variable{X:Cx}{H H':Hp}
def pd.ext(h:pd X L H a)(x:Ext H [] H' []):pd X L H' a:=by obtain⟨c,b,d,e,f,g⟩:=h;exact⟨c,b,d,x.keep _ _ e 'k',x.keep _ _ f 'k',g⟩
end
structure Ii(X:Cx)(H0:Hp)(l:ab)(ls:List Ic)(as:List ab)(H:Hp):Prop where
 nl:H0 l=X9
 ea:Ea l H0 [] H []
 at_:H l=XV (.lst (as.map V.ref))
 lam:bU (λL a=>pd X L H a) ls as
 nd:as.Nodup
def Ii.ext(b:Ii X H0 l ls as H)(μ:List ab):Ext H0 μ H μ:=
 ⟨⟨[],by simp⟩,λc o h _ a=>b.ea.kept c o h 'k' (sk h b.nl) a,λ_ m=>.inl m,b.ea.there,b.ea.tab⟩
def Ii.cells(b:Ii X H0 l ls as H)(c:ou K H0 X4 μ O):ou K H X4 μ O:=by refine⟨c.len,c.nd,c.nh,λa m=>b.ea.there a (c.ht a m),λk a e=>?_⟩;obtain⟨f,g,h,d,i⟩:=c.at_ k a e;exact⟨f,g,h,b.ea.kept a _ d 'k' (sk d b.nl) (by intro j z;cases z),i.ext (b.ext μ)⟩
def oz.take(e:oz K H X4 μ σ d_)(n:Nat):oz K H X4 μ (σ.take n) (d_.take n):=
 ⟨by simp[e.len],λi d h=>by
  rw[jq] at h;split at h
  ·rename_i a;obtain⟨v,b,c⟩:=e.at_ i d h;exact⟨v,by rw[jq,Y2 a];exact b,c⟩
  ·cases h⟩
def oz.drop(e:oz K H X4 μ σ d_)(i:Nat):oz K H X4 μ (σ.set i X9) d_:=
 ⟨by simp[e.len],λj d h=>by
  by_cases a:i=j
  ·subst a;by_cases b:i<σ.length
   ·rw[bA b] at h;cases h
   ·rw[aT.mpr (by simp;lia)] at h;cases h
  ·rw[br a] at h;exact e.at_ j d h⟩
section
end
def pd.mono(h:pd X L H a)(k:∀b d,H b=XV (.ext d)->H' b=XV (.ext d)):pd X L H' a:=by obtain⟨c,d,e,f,g,i⟩:=h;exact⟨c,d,e,k _ _ f,k _ _ g,i⟩
end DL
namespace DL
open PySem L2 PySem.Spec PyProof.Rows
open Sem (wp)
end DL
namespace DL
open PySem L2 PySem.Spec PyProof.Rows
open Sem (wp)
open AutoSeq1 (wpAny_loadPart')
end DL
namespace DL
open PySem L2 PySem.Spec PyProof.Rows
section
end
end DL
namespace DL
open PySem L2
section
variable{Ex:Nat->Hp->Prop}
def oB.seq(q:oB Ex K H X4 μ (m_ t u σ O) E):oB Ex K H X4 μ (t σ O) { E with nx:=λf H'=>KW Ex K u E f H' }:=by
 unfold m_ at q;cases e:t σ O with
 | nx σ' O'=>
  rw[e] at q;exact λi H' g h a b=>⟨X4,g,σ',O',a,b,q.ext h⟩
 |rt d O'=>rw[e] at q;exact q
 |bk σ' O'=>rw[e] at q;exact q
 |ct σ' O'=>rw[e] at q;exact q
 |exc c O'=>rw[e] at q;exact q
 |bad=>rw[e] at q;exact q
end
end DL
namespace DL
open PySem L2 PySem.Spec PyProof.Rows
noncomputable def Ng:List ae->List Int->Bool
 |[],[]=>YP
 |.int i _::vs,k::ks=>i==k&&Ng vs ks
 |_,_=>Y1
def Ug(o:Obj)(ks:List Int):Bool:=(match o.cls with|.type n=>n == "tuple"|_=>Y1)&&o.dict.isNone&&(match o.data with|.seq h_ _=>Ng h_.toList ks&&decide (h_.size<=1000)|_=>Y1)
structure zor(K:ah)(mg:Str->Option ae)(x:Str)(ks:List Int):Prop where
 ex:∃e o,mg x=XV (.ref e)/\K.lookup e=XV o/\Ug o ks=YP
end DL
namespace DL
open PySem L2 PyProof.Rows
def yM:List D->Option (List (List (List Nat)))
 |[]=>XV []
 | .tup ds::r=>match uu ds,yM r with
  |some ks,XV t=>XV (ks::t)
  |_,_=>X9
 |_::_=>X9
noncomputable def BI(x:List (List Nat)):List (List (List Nat))->List (List (List Nat))
 |[]=>[x]
 |y::l=>if y<x then y::BI x l else x::y::l
def zN(l:List (List (List Nat))):List (List (List Nat)):=l.foldr BI []
def toT(ks:List (List Nat)):D:=.tup (ks.map .str)
def C5:Ow->List D->R D:=λO xs=>match xs with
 | [x]=>match tJ O x with
  | some ds=>match yM ds with
   |some rg=>if (2<=rg.length->(rg.all λks=>!ks.isEmpty)=YP)/\rg.length<=4000000 then .ok (.lst ((zN rg).map toT)) O else .bad
   |none=>.bad
  |none=>.bad
 |_=>.bad
abbrev wN(a b:List (List Nat)):Prop:=¬ b<a
def wN.trans{a b c:List (List Nat)}(g:wN a b)(d:wN b c):wN a c:=λh=>by
 by_cases e:b<a
 ·exact g e
 ·by_cases f:a<b
  ·exact d (TS.llt_trans h f)
  ·rw[TS.llt_total f e] at h;exact d h
theorem Kg(x:List (List Nat)):∀l,(BI x l).Perm (x::l)
 |[]=>eo _
 | y::l=>by
  unfold BI;split
  ·exact((Kg x l).cons y).trans (nV x y l)
  ·exact eo _
theorem Ke:∀l,(zN l).Perm l
 |[]=>eo _
 |x::l=>(Kg x (zN l)).trans ((Ke l).cons x)
theorem Qi(x:List (List Nat)):∀l,l.Pairwise wN->(BI x l).Pairwise wN
 |[],_=>ki _ _
 | y::l,h=>by
  unfold BI;have a:=bK.mp h;split
  ·rename_i c;refine bK.mpr ⟨λz hz=>?_,Qi x l a.2⟩;rcases am.mp ((Kg x l).mem_iff.mp hz) with rfl|hz
   ·exact λd=>TS.llt_irrefl _ (TS.llt_trans d c)
   ·exact a.1 z hz
  ·rename_i b;refine bK.mpr ⟨λz hz=>?_,h⟩;rcases am.mp hz with rfl|hz
   ·exact b
   ·exact wN.trans b (a.1 z hz)
theorem Qf:∀l,(zN l).Pairwise wN
 |[]=>eH
 |x::l=>Qi x _ (Qf l)
theorem Rh:∀{a b:List (List (List Nat))},a.Pairwise wN->b.Pairwise wN->a.Perm b->a=b
 |[],b,_,_,p=>p.nil_eq
 |x::a,[],_,_,p=>absurd p.symm.nil_eq 'k'
 | x::a,y::b,ha,hb,p=>by
  have c:=bK.mp ha;have d:=bK.mp hb;have e:x=y:=by
   have f:wN y x:=by
    rcases am.mp (p.mem_iff.mp al) with h|h
    ·rw[h];exact TS.llt_irrefl _
    ·exact d.1 x h
   have g:wN x y:=by
    rcases am.mp (p.mem_iff.mpr al) with h|h
    ·rw[h];exact TS.llt_irrefl _
    ·exact c.1 y h
   exact TS.llt_total f g
  subst e;rw[Rh c.2 d.2 (List.Perm.cons_inv p)]
def zP{α:Type}(R:V->α->Prop):List V->List α->Prop
 |[],[]=>True
 |v::vs,k::ks=>R v k/\zP R vs ks
 |_,_=>False
def MN(K:ah)(H:Hp)(v:V)(ks:List (List Nat)):Prop:=∃t,v=.ref t/\rL K H t (ks.map λcs=>V.str ⟨cs.toArray⟩)
def vT:ae->V
 |.ref t=>.ref t
 |_=>.non
theorem Kl:∀{ks:List (List Nat)}{h_:List ae},oA (ks.map λcs=>V.str ⟨cs.toArray⟩) h_->TS.allS h_=XV ks
 |[],_,.nil=>rfl
 | k::ks,u::us,.cons r h=>by
  obtain⟨a,rfl⟩:=r;unfold TS.allS;rw[Kl h];rfl
section
variable{X:Cx}{Ex:Nat->Hp->Prop}{H:Hp}{X4 μ:List ab}
def M5(K:ah):List V->Hp->VK->Prop:=λxs H Q=>∃p vs rg,∃R:V->List (List Nat)->Prop,xs=[.ref p]/\qJ K H p vs/\zP R vs rg/\(∀v k,R v k->MN K H v k/\(2<=vs.length->k≠[]))/\vs.length<=4000000/\∀l rO xN,zP R rO xN->xN.Perm rg->xN.Pairwise wN->H l=X9->Q (.ref l) (upd H l (.lst rO))
theorem Px{b:List (ab×Obj)}{σ:L2.St}{s:af}(I:L2.Inv X b σ H s){R:V->List (List Nat)->Prop}{B:Prop}(c:∀v k,R v k->MN X.K H v k/\(B->k≠[])):∀{vs:List V}{rg:List (List (List Nat))}{a:List ae},zP R vs rg->oA vs a->a.map (TS.keyT s.heap)=rg/\∀u∈a,R (vT u) (TS.keyT s.heap u)/\RelV (vT u) u/\∃ks,TS.TupS s.heap u ks/\(B->ks≠[])
 |[],[],_,_,.nil=>⟨rfl,λ_ h=>by cases h⟩
 |[],_::_,_,h,_=>h.elim
 |v::vs,[],_,h,_=>h.elim
 | v::vs,k::rg,u::us,⟨h1,h2⟩,.cons r hv=>by
  obtain⟨e,j⟩:=Px I c h2 hv;obtain⟨⟨t,rfl,l⟩,m⟩:=c v k h1;cases r;obtain⟨a,d,⟨o,g,p,n,f⟩,_⟩:=I.tuple l;have q:TS.TupS s.heap (.ref t) k:=⟨t,o,a.toArray,n,rfl,g,p,f,by simpa using Kl d⟩;have i:TS.keyT s.heap (.ref t)=k:=by
   show((match s.heap.get? t with|some o=>(match o.data with|.seq a _=>TS.allS a.toList|_=>X9)|none=>X9):Option _).getD []=_;rw[g];dsimp only;rw[f];dsimp only;rw[show TS.allS a.toArray.toList=XV k from by simpa using Kl d];rfl
  refine⟨by rw[bh,i,e],λu hu=>?_⟩;rcases am.mp hu with rfl|hu
  ·exact⟨by rw[i];exact h1,rfl,k,q,m⟩
  ·exact j u hu
theorem Qb{R:V->List (List Nat)->Prop}{f:ae->List (List Nat)}:∀{l:List ae},(∀u∈l,R (vT u) (f u))->zP R (l.map vT) (l.map f)
 |[],_=>trivial
 |u::l,h=>⟨h u al,Qb λv a=>h v (ai _ a)⟩
theorem Qr:∀{l:List ae},(∀u∈l,RelV (vT u) u)->oA (l.map vT) l
 |[],_=>.nil
 |u::l,h=>.cons (h u al) (Qr λv a=>h v (ai _ a))
def zcb:oJ X (.builtin "sorted") (M5 X.K):=by intro i s F H G J Q I r h;obtain⟨p,l,L,R,rfl,m,n,t,w,q⟩:=h;obtain⟨u,rfl,x⟩:=ue r;cases x;obtain⟨c,j,y,M⟩:=I.list m;obtain⟨A,d⟩:=Px I t n j;have b:c.length=l.length:=j.length.symm;refine TS.sorted_tups y.isList (λv B=>let ⟨ks,k1,k2⟩:=(d v B).2.2;⟨ks,k1,λz=>k2 'd'⟩) 'd' λa g C=>?_;obtain⟨e,D⟩:=sortedAll_at s.heap c a;have E:H (s.heap.objs.size+1)=X9:=I.hok.fresh (dZ _);have k:∀u∈a.toList,u∈c:=λu h=>g.mem_iff.mp h;refine⟨.ref _,_,I.laid (t':=s.toks) (o:=.lst (a.toList.map vT)) (λ_ _ z=>sortedAll_old z) (dZ _) ?_,rfl,q _ _ _ (Qb (f:=TS.keyT s.heap) λu h=>(d u (k u h)).1) (by rw[<- A];exact g.map _) (fy.mpr C) E⟩;refine⟨?_,a.toList,e,Qr λu h=>(d u (k u h)).2.1,by rw[D]⟩;rw[au,g.length_eq,b];exact aE w 'u'
theorem Pe:∀{ds:List D}{ks:List (List Nat)},uu ds=XV ks->ds=ks.map D.str
 |[],ks,h=>by cases h;rfl
 | d::ds,ks,h=>by
  cases d with
  | str cs=>
   unfold uu at h;cases e:uu ds with
   |none=>rw[e] at h;cases h
   |some r=>rw[e] at h;cases h;rw[Pe e];rfl
  |_=>cases h
theorem P9:∀{ds:List D}{rg:List (List (List Nat))},yM ds=XV rg->ds.length=rg.length
 |[],rg,h=>by cases h;rfl
 | d::ds,rg,h=>by
  cases d with
  | tup xs=>
   unfold yM at h;split at h
   ·rename_i b t c a;cases h;rw[aO,aO,P9 a]
   ·cases h
  |_=>cases h
theorem Oz{K:ah}{B:Prop}:∀{ds:List D}{vs:List V}{rg:List (List (List Nat))},oy K H X4 μ ds vs->yM ds=XV rg->(∀k∈rg,B->k≠[])->zP (λv k=>X6 K H X4 μ (toT k) v/\(B->k≠[])) vs rg
 | [],vs,rg,h,e,_=>by
  unfold oy at h;cases e;subst h;trivial
 | d::ds,vs,rg,h,e,qx=>by
  unfold oy at h;obtain⟨v,r,rfl,b,c⟩:=h;cases d with
  | tup xs=>
   unfold yM at e;split at e
   ·rename_i a t f g;cases e;refine⟨⟨?_,qx a al⟩,Oz c g λk i=>qx k (ai _ i)⟩;have:xs=a.map D.str:=Pe f;unfold toT;rw[<- this];exact b
   ·cases e
  |_=>cases e
theorem Qy{α:Type}{R:V->α->Prop}:∀{vs:List V}{ks:List α},zP R vs ks->vs.length=ks.length
 |[],[],_=>rfl
 |[],_::_,h=>h.elim
 |_::_,[],h=>h.elim
 |_::_,_::_,h=>by rw[aO,aO,Qy h.2]
theorem QW{K:ah}{B:Prop}:∀{vs:List V}{rg:List (List (List Nat))},zP (λv k=>X6 K H X4 μ (toT k) v/\(B->k≠[])) vs rg->oy K H X4 μ (rg.map toT) vs
 |[],[],_=>by unfold oy;rfl
 |[],_::_,h=>h.elim
 |v::vs,[],h=>h.elim
 | v::vs,k::rg,h=>by
  unfold oy;exact⟨v,vs,rfl,h.1.1,QW h.2⟩
def XJ:uy X Ex (M5 X.K) C5:=by
 intro H X4 μ O D E Q c d q;unfold C5 at q;split at q
 ·rename_i x;obtain⟨v,rfl,o⟩:=tW d;split at q
  ·rename_i F e;obtain⟨p,f,rfl,r,g⟩:=vt c o e;split at q
   ·rename_i a h;obtain⟨⟨s,i⟩,q⟩:=post.ite q;have b:f.length=a.length:=by rw[<- g.length,P9 h]
    have u:∀k∈a,2<=f.length->k≠[]:=λk w i e=>by
     have:=ar.mp (s 'd') k w;rw[e] at this;cases this
    have j:=Oz g h u;refine⟨p,f,a,_,rfl,r,j,λv k m=>⟨?_,m.2⟩,?_,λl G y z A B b=>?_⟩
    ·obtain⟨t,I,rfl,n,C⟩:=AN m.1 rfl;have:=GI C (strL_map k);rw[this] at n;exact⟨t,rfl,n⟩
    ·rw[Qy j];exact i
    ·have e:y=zN a:=Rh B (Qf a) (A.trans (Ke a).symm);subst e;exact post.ok q (.laid b) (c.laid b) (X6.newL c b (QW z))
   ·exact ak q
  ·exact ak q
 ·exact ak q
end
end DL
namespace DL
open PySem L2
open PyProof.Rows (AllBare)
section
variable{prog:aM}{w:aV}{A:a7}{s:af}{R:Result->af->Prop}
def zfB(g:A.depth<recursionLimit)
  (i:s.heap.get? lam=XV { cls:=.type "function",data:=.func (dO name qual params body scope cl pm cd ct) }) (j:s.heap.CodeRec cd q) (k:scope.isCoroutine=Y1) (l:scope.isGenerator=Y1) (n:scope.kind=.function) (p:∀x∈scope.names,x.2 ≠ .cell) (r:scope.names.lookup x=XV .local)
  (t:bindArgs (dO name qual params body scope cl pm cd ct) ⟨[u],[]⟩=pure [(x,u)]) (B:s.heap.NoLimit)
  (h:∀h' tk,0<tk->h'.Ns s.heap.objs.size (λy=>[(x,u)].lookup y)->(∀b o,s.heap.get? b=XV o->h'.get? b=XV o)->
   ao (aw prog w) (A.deeper (wU q scope s.heap.objs.size lam cd cl)) (eval body (wU q scope s.heap.objs.size lam cd cl)) (λv C=>R (.ok (.ret v)) C) (λ_ _=>False) { s with heap:=h',toks:=tk }):
  codeAny (aw prog w) A (.call (.ref lam) ⟨[u],[]⟩) R s:=by
 refine codeAny_of_tree ?_;show ao _ A.in1 (callAny (.ref lam) ⟨[u],[]⟩) _ _ s;simp only[callAny];refine aa (wpAny_load i ?_);obtain⟨c,J,K,L,D,E,a,F⟩:=j;subst D;simp only[callFunction,k,l];refine aa (m:=field (.ref c) 1) (cC E a F (aa (aj ?_)));rw[t];refine aa (aj (aa ?_));refine wpAny_newFunctionEnv p (λy G=>?_) (λd H I=>?_) n
 ·have e:y=(x,u):=by simpa using G
  rw[e];exact r
 have f:∀b o,s.heap.get? b=XV o->d.get? b=XV o:=λb o e=>I.extBut b o (bo (aK e)) (ag _ e);refine aa (wpAny_enterFrame (B.keeps f) g (aj ⟨rfl,?_⟩));exact PySem.W.kla_codeExpr (cw (h d _ (cU _) H f) (λ_ _ z=>z) λ_ _ z=>z.elim)
end
noncomputable def Fy(P:aM)(w:aV)(K:ah)(mg:Str->Option ae)(base:aX)(N:List Str)(env:Env)(A:a7)(outer:List Env)(s:af)(H:Hp):Cx where
 prog:=P
 w:=w
 K:=K
 mg:=mg
 base:=base
 A:=A.deeper env
 N:=N
 s₀:=s
 H₀:=H
 env:=env
 outer:=outer
 stack:=env::outer
 ex:=[]
 calm:=YP
 fn:=λ_=>Y1
 pn:=[]
 xe:=λ_ _=>False
structure M0(out sc:cO)(x:Str):Prop where
 kind:sc.kind=.function
 co:sc.isCoroutine=Y1
 gen:sc.isGenerator=Y1
 nd:(sc.names.map (·.1)).Nodup
 cell:∀y∈sc.names,y.2 ≠ .cell
 one:sc.names.lookup x=XV .local
 loc:∀y∈sc.names,y.2=.local->y.1=x
 frees:∀y∈sc.names,y.2=.free->out.names.lookup y.1=XV .cell\/out.names.lookup y.1=XV .free
section
variable{P:aM}{w:aV}{K:ah}{mg:Str->Option ae}{base:aX}{N:List Str}{A:a7}{outer:List Env}{s:af}{H:Hp}{q x:Str}{scope:cO}{lam:ab}{cd:ae}{cl:List (Str×ab)}{σ:St}{h':aX}{tk:Nat}{v:V}{u:ae}
def Zp(f:o9 P w K mg base A outer s H)(C:A.handled=X9)(D:scope.kind=.function)(t:∀y,u6 scope y->scope.names.lookup y=XV .free\/y=x)(B:scope.names.lookup x=XV .local)(E:x∉N)
  (cells:∀x c,cl.lookup x=XV c->(∃v,s.heap.IsCell c v)/\H c=X9) (inj:∀x y c,cl.lookup x=XV c->cl.lookup y=XV c->x=y) (k:∀x,scope.names.lookup x=XV .free->∃c,cl.lookup x=XV c)
  (h:∀(i:Nat)x v,N[i]?=XV x->σ[i]?=XV (XV v)->scope.names.lookup x=XV .free->∃u c,RelV v u/\cl.lookup x=XV c/\s.heap.IsCell c (XV u)) (l:σ.length=N.length) (F:RelV v u)
  (G:h'.Ns s.heap.objs.size (λy=>[(x,u)].lookup y)) (kp:∀b o,s.heap.get? b=XV o->h'.get? b=XV o) (I:0<tk):
  L2.Inv (Fy P w K mg base (N++[x]) (wU q scope s.heap.objs.size lam cd cl) A outer s H) [] (σ++[XV v]) H { s with heap:=h',toks:=tk }:=by
 have a:∀{c:ab}{v:Option ae},s.heap.IsCell c v->h'.IsCell c v:=λ{c v}⟨o,ho,r⟩=>⟨o,kp c o ho,r⟩;have m:∀b:ab,b∉(Fy P w K mg base (N++[x]) (wU q scope s.heap.objs.size lam cd cl) A outer s H).ex:=λb z=>absurd (show b∈([]:List ab) from z) 'k';refine⟨⟨f.mod,D,rfl,rfl,aD _,inj,λy J=>?_,λy c z _=>absurd (show Y1=YP from z) 'u',λ_=>C,lr f.frames,.inr ⟨rfl,rfl⟩,λb z=>absurd z (m b),f.bs,f.bsz,λb _ _=>m b,λb z=>absurd z (m b),f.funs,f.frf⟩,
  rfl,f.bare,Un.kept kp,⟨_,G,λi y L d j M=>?_⟩,λy c g=>?_,f.hok.fresh (aD _),λy c g=>(cells y c g).2,λp O=>absurd (show p∈([]:List (ab×Obj)) from O) 'k',f.hok.kept kp,by show(σ++[XV v]).length=(N++[x]).length;simp[l],I⟩
 ·have n:scope.names.lookup y=XV .cell\/scope.names.lookup y=XV .free:=J;rcases t y (n.elim (λz=>.inr (.inl z)) λz=>.inr (.inr z)) with z|z
  ·exact k y z
  ·rw[z,B] at n;rcases n with z|z<;>cases z
 ·have d:(N++[x])[i]?=XV y:=d;by_cases Q:i<N.length
  ·rw[aG Q] at d;rw[aG 'd'] at j;rcases t y M with z|z
   ·obtain⟨u,c,r,R,S⟩:=h i y L d j z;exact⟨u,r,.inr ⟨.inr z,c,R,a S⟩⟩
   ·rw[z] at d;exact absurd (aN d) E
  ·rw[bq 'd'] at d j;have e:i-N.length=0:=by
    have:=(aq.mp d).1;simp at this;lia
   rw[e] at d;rw[show i-σ.length=0 by lia] at j;cases d;cases j;exact⟨u,F,.inl ⟨B,by simp[d9]⟩⟩
 ·obtain⟨⟨v,z⟩,_⟩:=cells y c g;exact⟨v,a z⟩
def WH(d:oH (k+1) A)(f:o9 P w K mg base A outer s H)
  (m:s.heap.get? lam=XV { cls:=.type "function",data:=.func (dO name qual params body scope cl pm cd ct) }) (n:s.heap.CodeRec cd q) (p:scope.isCoroutine=Y1) (r:scope.isGenerator=Y1) (j:scope.kind=.function) (B:∀x∈scope.names,x.2 ≠ .cell)
  (C:bindArgs (dO name qual params body scope cl pm cd ct) ⟨[u],[]⟩=pure [(x,u)]) (D:∀y,u6 scope y->scope.names.lookup y=XV .free\/y=x) (l:scope.names.lookup x=XV .local) (E:x∉N)
  (cells:∀x c,cl.lookup x=XV c->(∃v,s.heap.IsCell c v)/\H c=X9) (inj:∀x y c,cl.lookup x=XV c->cl.lookup y=XV c->x=y) (g:∀x,scope.names.lookup x=XV .free->∃c,cl.lookup x=XV c)
  (a:∀(i:Nat)x v,N[i]?=XV x->σ[i]?=XV (XV v)->scope.names.lookup x=XV .free->∃u c,RelV v u/\cl.lookup x=XV c/\s.heap.IsCell c (XV u)) (h:σ.length=N.length) (F:RelV v u)
  (G:oH k (A.deeper (wU q scope s.heap.objs.size lam cd cl))->PD (Fy P w K mg base (N++[x]) (wU q scope s.heap.objs.size lam cd cl) A outer s H) qr body t)
  (I:oz K H X4 μ σd (σ++[XV v])) (L:ou K H X4 μ O) (M:q9 qr K H X4 μ (t σd O) Q):codeAny (aw P w) A (.call (.ref lam) ⟨[u],[]⟩) (CR xo outer P w H s Q E0) s:=by refine zfB d.depth m n p r j B l C (f.mod.nolimit.keeps λb o e=>(f.bs b o e).1) λh' tk R S T=>?_;refine cw ((G (d.deeper _)).out [] _ (σ++[XV v]) H Q (Zp f d.hd j D l E cells inj g a h F S T R) ⟨X4,μ,σd,O,I,L,M⟩) (λv U ⟨W,X,J,Y,z⟩=>?_) λe U z=>z;exact⟨⟨W,X,J.os,J.bare,J.base,J.hok,Y,z⟩,J.tk⟩
end
end DL
namespace DL
open PySem L2 PyProof.Rows
def minGo(tE:DE)(σ:Sg):List D->D->Int->Ow->R D
 |[],b,_,O=>.ok b O
 | x::xs,b,k,O=>match tE (σ++[XV x]) O with
  |.ok (.int j) O1=>if j<k then minGo tE σ xs x j O1 else minGo tE σ xs b k O1
  |_=>.bad
def BE(tE:DE)(σ:Sg)(O:Ow):List D->R D
 |[]=>.bad
 | x::xs=>match tE (σ++[XV x]) O with
  |.ok (.int j) O1=>minGo tE σ xs x j O1
  |_=>.bad
def BO(Pt iT:Nat)(te tE:DE):DE:=λσ O=>match σ[iT]? with
 | some (XV (.tab p))=>if p=Pt then (te σ O).bnd λx O1=>match x with
  |.lst ds=>BE tE σ O1 ds
  |_=>.bad else .bad
 |_=>.bad
def oz.snoc{K:ah}{H:Hp}{X4 μ:List ab}{σ:Sg}{a:L2.St}{d:D}{v:V}(e:oz K H X4 μ σ a)(q:X6 K H X4 μ d v):oz K H X4 μ (σ++[XV d]) (a++[XV v]):=by
 refine⟨by simp[e.len],λi x h=>?_⟩;have j:=e.len;by_cases b:i<σ.length
 ·rw[aG b] at h;obtain⟨w,c,f⟩:=e.at_ i x h;exact⟨w,by rw[aG 'd'];exact c,f⟩
 ·rw[bq 'd'] at h;have g:i-σ.length=0:=by
   have:=(aq.mp h).1;simp at this;lia
  rw[g] at h;cases h;exact⟨v,by rw[bq 'd',show i-a.length=0 by lia];rfl,q⟩
section
variable{X:Cx}{Ex:Nat->Hp->Prop}{X4:List ab}{σ:Sg}{d_:L2.St}{tE:DE}{lam cc:ab}{lo:Obj}
def IF(X:Cx)(lam:ab)(lo:Obj)(cc:ab)(X4:List ab)(σ:Sg)(d_:L2.St)(tE:DE):Prop:=
 ∀(X5:List (ab×Obj))(s:af)(H:Hp)(μ:List ab)(O:Ow)(d:D)(v:V)(u:ae)(Q:VK),L2.Inv X X5 d_ H s->(lam,lo)∈X5->(∃φ,H cc=XV (.ext φ)/\∀h:aX,φ h->∃q,h.CodeRec (.ref cc) q)->oz X.K H X4 μ σ d_->ou X.K H X4 μ O->X6 X.K H X4 μ d v->RelV v u->
  q9 qr X.K H X4 μ (tE (σ++[XV d]) O) Q->ao (aw X.prog X.w) X.A.in1 (call (.ref lam) [u]) (EP X X5 d_ Q) (λ_ _=>False) s
def U9{K:ah}{H:Hp}{μ:List ab}{d:D}{O:Ow}:q9 qr K H X4 μ (.ok d O) (λv a=>∃b,Ext H μ a b/\ou K a X4 b O/\X6 K a X4 b d v):=λv f e x c r=>⟨e,x,c,r⟩
def QF{K:ah}{H H':Hp}{μ d:List ab}{O:Ow}(c:ou K H X4 μ O)(x:Ext H μ H' d){a:aX->Prop}(h:H cc=XV (.ext a)):H' cc=XV (.ext a):=by refine x.kept cc _ h (λm=>?_) (by intro g z;cases z);obtain⟨k,f,e⟩:=dq.mp m;obtain⟨i,j,_,b,_⟩:=c.at_ k cc (by rw[ay f,e]);rw[h] at b;cases b
variable{l:ab}{vs:List V}{ds:List D}{Q:VK}{X5:List (ab×Obj)}{E:ae->af->Prop}
def Qo{a S:ab}{c oI:Obj}{j:Nat}{s:af}{H:Hp}{μ:List ab}{O:Ow}{d:D}{R:ae->ae->af->Prop}(o_:X.calm=YP)(hK:IF X lam lo cc X4 σ d_ tE)
  (I:L2.Inv X ((S,c)::(a,oI)::(lam,lo)::X5) d_ H s) (Ao:si X ((S,c)::(lam,lo)::X5) H a) (hl:l≠a) (i:s.heap.IsListIter a l j) (la:LstAt X.K H X4 μ l vs) (G:oy X.K H X4 μ ds vs) (ev:oz X.K H X4 μ σ d_) (cl:ou X.K H X4 μ O) (uG:∃J,H cc=XV (.ext J)/\∀h:aX,J h->∃q,h.CodeRec (.ref cc) q)
  (L:ds[j]?=XV d) {k:Int} {O1:Ow} (hE:tE (σ++[XV d]) O=.ok (.int k) O1)
  (h:∀(v:ae)(tk:Tok)(f:Obj)(m:af)(H':Hp)(n:List ab)(x:V),L2.Inv X ((S,c)::(a,f)::(lam,lo)::X5) d_ H' m->m.heap.IsListIter a l (j+1)->Ext H μ H' n->ou X.K H' X4 n O1->RelV x v->X6 X.K H' X4 n d x->R v (.int k tk) m) {E2:ae->af->Prop}:
  ao (aw X.prog X.w) X.A.in1 (pyNext (.ref a)) (λo s1=>∃v,o=XV v/\ao (aw X.prog X.w) X.A.in1 (call (.ref lam) [v]) (λr t=>R v r t) (λ_ _=>False) s1) E2 s:=by
 obtain⟨g,M,pl,hz⟩:=I.list la.sq;have W:=jO (prog:=X.prog) (w:=X.w) (A:=X.A.in1) (I.ok.hd o_) a l hl g.toArray;have N:ds.length=g.length:=by rw[G.length,M.length]
 have hj:j<g.length:=by have:=(aq.mp L).1;lia
 refine wT I (W.item j _ _ _ (by simpa using hj) ⟨i,pl.isList⟩ λv P y hP wD rC qE=>?_);have hv:g[j]?=XV v:=by simpa using hP
 obtain⟨T,U,f2,f3,f4,f5⟩:=Ao;have I0:L2.Inv X ((S,c)::(lam,lo)::X5) d_ H s:=I.pins_of λp hp=>I.pin p (av _ (by
  rcases am.mp hp with rfl|hp
  ·exact .head _
  ·exact .tail _ (.tail _ hp)))
 have B:L2.Inv X ((S,c)::(lam,lo)::X5) d_ H { s with heap:=P,toks:=y }:=I0.turned (t':=y) (it:=a) (λb o hb e=>rC b o (by simpa using hb) e) T U f3 f4 f5;obtain⟨f,LC,CB,Y⟩:=id wD.1;have I2:L2.Inv X ((S,c)::(a,f)::(lam,lo)::X5) d_ H { s with heap:=P,toks:=y }:=B.pins_of λp hp=>by
  rcases am.mp hp with rfl|hp
  ·exact B.pin _ (av _ (.head _))
  ·rcases am.mp hp with rfl|hp
   ·exact⟨LC,T,U,f2,λv z=>by rw[Y] at z;cases z⟩
   ·exact B.pin p (av _ (.tail _ hp))
 obtain⟨x,hx,Z⟩:=G.get L;obtain⟨u,hu,ru⟩:∃u,g[j]?=XV u/\RelV x u:=M.get hx;rw[hv] at hu;cases hu;refine⟨v,rfl,cw (hK _ _ H μ O d x v (λv C=>∃F,Ext H μ C F/\ou X.K C X4 F O1/\X6 X.K C X4 F (.int k) v) I2 (.tail _ (.tail _ (.head _))) uG ev cl Z ru (by rw[hE];exact U9)) (λr t ⟨v2,H2,I3,r2,pW,x2,c2,d2⟩=>?_) λ_ _ z=>z⟩;unfold X6 at d2;subst d2;obtain⟨t2,rfl⟩:=r2;exact h v t2 f t H2 pW x I3 ⟨f,(I3.pin (a,f) (av _ (.tail _ (.head _)))).1,CB,Y⟩ x2 c2 ru (Z.ext x2)
def Xh{a S:ab}(o_:X.calm=YP)(hK:IF X lam lo cc X4 σ d_ tE)(hl:l≠a)(zE:S≠a){s0:af}:
  ∀(r j:Nat)(s:af)(H:Hp)(μ:List ab)(O:Ow)(b:D)(N:V)(m:ae)(f:Int)(k:Tok)(c:Nat)(oI:Obj),ds.length-j=r->j<=ds.length->
   L2.Inv X ((S,seqObj "list" #[m,.int f k] c)::(a,oI)::(lam,lo)::X5) d_ H s->si X ((lam,lo)::X5) H a->si X ((lam,lo)::X5) H S->s.heap.IsListIter a l j->LstAt X.K H X4 μ l vs->oy X.K H X4 μ ds vs->oz X.K H X4 μ σ d_->ou X.K H X4 μ O->(∃L,H cc=XV (.ext L)/\∀h:aX,L h->∃q,h.CodeRec (.ref cc) q)->
   RelV N m->X6 X.K H X4 μ b N->q9 Ex X.K H X4 μ (minGo tE σ (ds.drop j) b f O) Q->
   codeAny (aw X.prog X.w) X.A (.builtin "min.loop" ⟨[.ref a,.ref lam,.ref S],[]⟩) (λr Z=>match r with|.ok (.ret u)=>EP X X5 d_ Q u Z|_=>False) s:=by
 have uW:(toString "min" ++ toString ".loop":String) = "min.loop":=by decide
 intro r
 induction r with
 | zero=>
  intro j s H μ O b N m f k c oI hr hj I n fS M la dd ev cl uG rb db q;have hjl:j=ds.length:=by lia
  have nS:=I.pin (S,seqObj "list" #[m,.int f k] c) (av _ (.head _));obtain⟨h_,rv,pl,hz⟩:=I.list la.sq;have W:=jO (prog:=X.prog) (w:=X.w) (A:=X.A.in1) (I.ok.hd o_) a l hl h_.toArray;have hlen:ds.length=h_.length:=by rw[dd.length,rv.length]
  refine eG d0 ?_;rw[dB bE _];show ao _ X.A.in1 (seqItems? (.ref S) >>= _) _ _ _;refine aa (el nS.1 rfl ?_);show ao _ X.A.in1 (tryCatch (pyNext (.ref a)) _ >>= _) _ _ _;refine aa (dP (wT I (W.done _ _ _ ⟨by rw[show h_.toArray.size=j by simp;lia];exact M,pl.isList⟩ λh' A0 rC qE=>?_)));have I0:L2.Inv X ((lam,lo)::X5) d_ H s:=I.pins_of λp hp=>I.pin p (av _ (.tail _ (.tail _ hp)));obtain⟨f0,f1,f2,f3,f4,f5⟩:=n;have I1:L2.Inv X ((lam,lo)::X5) d_ H { s with heap:=h',toks:=A0 }:=I0.turned (t':=A0) (it:=a) (λb o hb e=>rC b o (by simpa using hb) e) f0 f1 f3 f4 f5;have ya:=rC S _ (by simpa using zE) nS.1;have s1:=cK h' S (bu λ_=>(#[]:Array ae));obtain⟨g0,g1,g2,g3,g4,g5⟩:=fS;show ao _ X.A.in1 (updateSeq S (λ_=>#[]) >>= _) _ _ _;refine aa ?_;refine dW ya rfl (aa (fb (aj ?_)));have C:=I1.turned (h':=h'.update S (bu λ_=>(#[]:Array ae))) (t':=A0) (it:=S) (λb o hb e=>(s1.2 b hb).trans e) g0 g1 g3 g4 g5;have I3:L2.Inv X X5 d_ H _:=C.pins_of λp hp=>C.pin p (av _ (.tail _ hp));rw[hjl,nk] at q;exact⟨N,H,I3,rb,post.here q cl db⟩
 | succ r ih=>
  intro j s H μ O b N m f k c oI hr hj I n fS M la dd ev cl uG rb db q;have q0:j<ds.length:=by lia
  have nS:=I.pin (S,seqObj "list" #[m,.int f k] c) (av _ (.head _));have nI:=I.pin (a,oI) (av _ (.tail _ (.head _)));obtain⟨d,hd⟩:∃d,ds[j]?=XV d:=⟨_,ay q0⟩;rw[dJ q0,(aq.mp hd).2] at q;unfold minGo at q;split at q
  case h_2=>exact ak q
  rename_i g O1 hE;refine eG d0 ?_;rw[dB bE _];show ao _ X.A.in1 (seqItems? (.ref S) >>= _) _ _ _;refine aa (el nS.1 rfl ?_);show ao _ X.A.in1 (tryCatch (pyNext (.ref a)) _ >>= _) _ _ _;have Me:si X ((S,seqObj "list" #[m,.int f k] c)::(lam,lo)::X5) H a:=⟨n.1,n.2.1,n.2.2.1,n.2.2.2.1,n.2.2.2.2.1,λp hp=>by
   rcases aH.mp hp with hp|hp
   ·exact n.2.2.2.2.2 p (bB _ hp)
   ·rcases am.mp hp with rfl|hp
    ·exact zE
    ·exact n.2.2.2.2.2 p (av _ hp)⟩
  refine aa (dP (cw (Qo o_ hK I Me hl M la dd ev cl uG hd hE (R:=λv u Z=>∃tk y T f_ x,u=.int g tk/\L2.Inv X ((S,seqObj "list" #[m,.int f k] c)::(a,y)::(lam,lo)::X5) d_ T Z/\Z.heap.IsListIter a l (j+1)/\Ext H μ T f_/\ou X.K T X4 f_ O1/\RelV x v/\X6 X.K T X4 f_ d x)
   λv tk y Z T f_ x a1 a2 a3 a4 a5 a6=>⟨tk,y,T,f_,x,rfl,a1,a2,a3,a4,a5,a6⟩) (λo s1 ho=>?_) λ_ _ z=>z))
  obtain⟨v,rfl,x8⟩:=ho;show ao _ X.A.in1 (tryCatch (holding [v] (call (.ref lam) [v])) _ >>= _) _ _ _;refine aa (dP (bD (cw x8 (λu F he=>?_) λ_ _ hF=>hF.elim)));obtain⟨B,y,G,pW,x,rfl,C,zA,U,Aq,rx,dx⟩:=he;have Y:=C.pin (S,seqObj "list" #[m,.int f k] c) (av _ (.head _));have K1:=C.pin (a,y) (av _ (.tail _ (.head _)));have HH:=la.mv U.mv (hid':=X4);have yc:=dd.ext U;have Fu:=ev.ext U;have Ff:∃L,G cc=XV (.ext L)/\∀h:aX,L h->∃q,h.CodeRec (.ref cc) q:=let ⟨L,h1,h2⟩:=uG;⟨L,QF cl U h1,h2⟩;have Tq:si X ((lam,lo)::X5) G a:=⟨K1.2.1,n.2⟩;have J:si X ((lam,lo)::X5) G S:=⟨Y.2.1,fS.2⟩;have q2:=post.ext q U;show ao _ X.A.in1 (tryCatch (holding [v,.int g B] (richCompare .Lt (.int g B) (.int f k) >>= _)) _ >>= _) _ _ _;refine aa (dP (bD (aa (CmpOf.ints_lt (prog:=X.prog) (w:=X.w) (A:=X.A.in1) (P:=λ(i:Nat)v=>∃t,v=.int (if i=0 then g else f) t) (λi=>if i=0 then g else f) (λi v h=>h) 0 1 _ _ _ _ _ ⟨B,rfl⟩ ⟨k,rfl⟩ ?_))));refine aa (bD (cM ?_));refine aa (fb (aj ?_));by_cases vf:g<f
  ·have s1:=cK F.heap S (bu λ_=>#[v,.int g B]);obtain⟨c2,vd⟩:∃c2,(F.heap.update S (bu λ_=>#[v,.int g B])).get? S=XV (seqObj "list" #[v,.int g B] c2):=⟨_,get?_update_seq Y.1 λ_=>#[v,.int g B]⟩;rw[Y2 vf] at q2;simp only[nF,vf,decide_true,if_true,bJ,if_false];refine aa ?_;refine dW Y.1 rfl (aa (fb ?_));rw[uW];have I3:L2.Inv X ((a,y)::(lam,lo)::X5) d_ G F:=C.pins_of λp hp=>C.pin p (av _ (.tail _ hp));have I4:L2.Inv X ((a,y)::(lam,lo)::X5) d_ G { F with heap:=F.heap.update S (bu λ_=>#[v,.int g B]),toks:=F.toks }:=I3.turned (t':=F.toks) (it:=S) (λb o hb e=>(s1.2 b hb).trans e) J.1 J.2.1 J.2.2.2.1 J.2.2.2.2.1 (λp hp=>by
    rcases aH.mp hp with hp|hp
    ·exact J.2.2.2.2.2 p (bB _ hp)
    ·rcases am.mp hp with rfl|hp
     ·exact zE.symm
     ·exact J.2.2.2.2.2 p (av _ hp))
   have I5:L2.Inv X ((S,seqObj "list" #[v,.int g B] c2)::(a,y)::(lam,lo)::X5) d_ G _:=I4.pins_of λp hp=>by
    rcases am.mp hp with rfl|hp
    ·exact⟨vd,Y.2.1,Y.2.2.1,Y.2.2.2.1,λv z=>nomatch z⟩
    ·exact I4.pin p (av _ hp)
   obtain⟨oq,Lu,EM,Lr⟩:=id zA;exact aj ⟨d7 bE _,ih (j+1) _ G pW O1 d x v g B c2 y 'd' q0 I5 Tq J ⟨oq,(s1.2 a zE.symm).trans Lu,EM,Lr⟩ HH yc Fu Aq Ff rx dx q2⟩
  ·rw[Z5 vf] at q2;simp only[nF,vf,decide_false,bJ,if_false,if_true];refine aa (fb ?_);rw[uW];exact aj ⟨d7 bE _,ih (j+1) F G pW O1 b N m f k c y 'd' q0 C Tq J zA HH yc Fu Aq Ff rb (db.ext U) q2⟩
def ZF{s:af}{H:Hp}{μ:List ab}{O:Ow}(o_:X.calm=YP)(hK:IF X lam lo cc X4 σ d_ tE)(I:L2.Inv X ((lam,lo)::X5) d_ H s)(W:LstAt X.K H X4 μ l vs)(dd:oy X.K H X4 μ ds vs)(ev:oz X.K H X4 μ σ d_)(cl:ou X.K H X4 μ O)
  (uG:∃J,H cc=XV (.ext J)/\∀h:aX,J h->∃q,h.CodeRec (.ref cc) q) (q:q9 Ex X.K H X4 μ (BE tE σ O ds) Q):ao (aw X.prog X.w) X.A (call (.builtin "min") [.ref l] [(fT "key",.ref lam)]) (EP X X5 d_ Q) E s:=by
 have uW:(toString "min" ++ toString ".loop":String) = "min.loop":=by decide
 obtain⟨h_,rv,pl,hz⟩:=I.list W.sq;have SU:=pl.isList;obtain⟨ol,pX,_⟩:=id SU;have E3:l<s.heap.objs.size:=aK pX;cases ds with
 |nil=>exact ak q
 |cons d sX=>
 have q:q9 Ex X.K H X4 μ (match tE (σ++[XV d]) O with|.ok (.int j) L=>minGo tE σ sX d j L|_=>.bad) Q:=q;split at q
 case h_2=>exact ak q
 rename_i g L hE;refine kmb_tree np mN mO (kmb_min_key _ _) ?_;show ao _ X.A.in1 (fj "min" ["key", "default"] 0 ⟨[],[(fT "key",.ref lam)]⟩ >>= _) _ _ s;refine aa (jl (show fj "min" ["key", "default"] 0 ⟨[],[(fT "key",.ref lam)]⟩=pure [XV (.ref lam),X9] from rfl) ?_);refine aa (aj ?_);refine aa (fw SU ?_);refine aa (gz ?_ (bX _));rw[uW];generalize n:s.heap.objs.size=a at *;generalize Y:s.heap.push { cls:=.type "list_iterator",data:=.fields #[.ref l,.int 0 0] } = h1 at *;have Z:h1.objs.size=a+1:=by rw[<- Y,size_push',n]
 generalize hSS:h1.objs.size=S at *;have SV:l≠a:=bo E3;have M:S≠a:=by rw[Z];exact eB (cH _)
 have kp:∀b o,s.heap.get? b=XV o->(h1.push (seqObj "list" #[] 0)).get? b=XV o:=λb o e=>ag _ (by rw[<- Y];exact ag _ e);have gI:(h1.push (seqObj "list" #[] 0)).get? a=XV { cls:=.type "list_iterator",data:=.fields #[.ref l,.int 0 0] }:=ag _ (by rw[<- Y,<- n];exact aJ _ rfl);have gS:(h1.push (seqObj "list" #[] 0)).get? S=XV (seqObj "list" #[] 0):=by rw[<- hSS];exact aJ _ rfl
 have c:si X ((lam,lo)::X5) H a:=I.fpOk (gW n) (I.hok.fresh (gW n));have N:si X ((lam,lo)::X5) H S:=I.fpOk (by rw[Z,n];exact dZ _) (I.hok.fresh (by rw[Z,n];exact dZ _));have I1:L2.Inv X ((lam,lo)::X5) d_ H { s with heap:=h1.push (seqObj "list" #[] 0),toks:=s.toks }:=I.kept (t':=s.toks) kp;have I2:L2.Inv X ((S,seqObj "list" #[] 0)::(a,{ cls:=.type "list_iterator",data:=.fields #[.ref l,.int 0 0] })::(lam,lo)::X5) d_ H { s with heap:=h1.push (seqObj "list" #[] 0),toks:=s.toks }:=I1.pins_of λp hp=>by
  rcases am.mp hp with rfl|hp
  ·exact⟨gS,N.1,N.2.1,N.2.2.1,λv z=>nomatch z⟩
  ·rcases am.mp hp with rfl|hp
   ·exact⟨gI,c.1,c.2.1,c.2.2.1,λv z=>nomatch z⟩
   ·exact I1.pin p (av _ hp)
 refine aj ⟨d7 bE _,?_⟩;refine gf (R:=λr t=>match r with|.ok (.ret u)=>EP X X5 d_ Q u t|_=>False) ?_ (λr t h=>by
  cases r with
  |error e=>exact h.elim
  |ok f=>cases f<;>first|exact h|exact h.elim)
 refine eG d0 ?_;rw[dB bE _];show ao _ X.A.in1 (seqItems? (.ref _) >>= _) _ _ _;refine aa (el gS rfl ?_);show ao _ X.A.in1 (tryCatch (pyNext (.ref a)) _ >>= _) _ _ _;have Me:si X ((S,seqObj "list" #[] 0)::(lam,lo)::X5) H a:=⟨c.1,c.2.1,c.2.2.1,c.2.2.2.1,c.2.2.2.2.1,λp hp=>by
  rcases aH.mp hp with hp|hp
  ·exact c.2.2.2.2.2 p (bB _ hp)
  ·rcases am.mp hp with rfl|hp
   ·exact M
   ·exact c.2.2.2.2.2 p (av _ hp)⟩
 refine aa (dP (cw (Qo o_ hK I2 Me SV (j:=0) ⟨_,gI,rfl,rfl⟩ W dd ev cl uG rfl hE (R:=λv u t=>∃tk i y C x,u=.int g tk/\L2.Inv X ((S,seqObj "list" #[] 0)::(a,i)::(lam,lo)::X5) d_ y t/\t.heap.IsListIter a l (0+1)/\Ext H μ y C/\ou X.K y X4 C L/\RelV x v/\X6 X.K y X4 C d x)
  λv tk i t y C x a1 a2 a3 a4 a5 a6=>⟨tk,i,y,C,x,rfl,a1,a2,a3,a4,a5,a6⟩) (λo s1 ho=>?_) λ_ _ z=>z))
 obtain⟨v,rfl,x8⟩:=ho;show ao _ X.A.in1 (tryCatch (holding [v] (call (.ref lam) [v])) _ >>= _) _ _ _;refine aa (dP (bD (cw x8 (λu F he=>?_) λ_ _ hF=>hF.elim)));obtain⟨k,i,P,pW,x,rfl,T,zA,G,Aq,rx,dx⟩:=he;have B:=T.pin (S,seqObj "list" #[] 0) (av _ (.head _));have K1:=T.pin (a,i) (av _ (.tail _ (.head _)));have s1:=cK F.heap S (bu λ_=>#[v,.int g k]);obtain⟨U,vd⟩:∃U,(F.heap.update S (bu λ_=>#[v,.int g k])).get? S=XV (seqObj "list" #[v,.int g k] U):=⟨_,get?_update_seq B.1 λ_=>#[v,.int g k]⟩;show ao _ X.A.in1 (updateSeq S (λ_=>#[v,.int g k]) >>= _) _ _ _;refine aa ?_;refine dW B.1 rfl ?_;rw[uW];have m:si X ((lam,lo)::X5) P S:=⟨B.2.1,N.2⟩;have I4:L2.Inv X ((a,i)::(lam,lo)::X5) d_ P F:=T.pins_of λp hp=>T.pin p (av _ (.tail _ hp));have I5:=I4.turned (h':=F.heap.update S (bu λ_=>#[v,.int g k])) (t':=F.toks) (it:=S) (λb o hb e=>(s1.2 b hb).trans e) m.1 m.2.1 m.2.2.2.1 m.2.2.2.2.1 (λp hp=>by
  rcases aH.mp hp with hp|hp
  ·exact m.2.2.2.2.2 p (bB _ hp)
  ·rcases am.mp hp with rfl|hp
   ·exact M.symm
   ·exact m.2.2.2.2.2 p (av _ hp))
 have I6:L2.Inv X ((S,seqObj "list" #[v,.int g k] U)::(a,i)::(lam,lo)::X5) d_ P _:=I5.pins_of λp hp=>by
  rcases am.mp hp with rfl|hp
  ·exact⟨vd,B.2.1,B.2.2.1,B.2.2.2.1,λv z=>nomatch z⟩
  ·exact I5.pin p (av _ hp)
 obtain⟨oq,Lu,EM,Lr⟩:=id zA;exact aj ⟨d7 bE _,Xh (ds:=d::sX) (vs:=vs) o_ hK SV M (s0:=s) _ 1 _ P pW L d x v g k U i rfl (Nat.succ_le_succ (bX _)) I6 ⟨K1.2.1,c.2⟩ m ⟨oq,(s1.2 a M.symm).trans Lu,EM,Lr⟩ (W.mv G.mv (hid':=X4)) (dd.ext G) (ev.ext G) Aq (let ⟨J,h1,h2⟩:=uG;⟨J,QF cl G h1,h2⟩) rx dx (post.ext q G)⟩
def Y6(hr:oH (k+2) X.A)(o_:X.calm=YP)(L:vN X.mg X.base c Pt)(t9:X.env.code=.ref c)(b:M0 X.env.scope scope x)(xZ:defaultsOf params X.env=([],[]))
  (Bm:∀(name n:Str)(cl:List (Str×ab))(pm o ct u:ae),bindArgs (dO name n params body scope cl pm o ct) ⟨[u],[]⟩=pure [(x,u)]) (zo:x∉X.N) (he:PD X Ex e te)
  (hE:∀(q:Str)(lam:ab)(o:ae)(cl:List (Str×ab))(A:a7)(outer:List Env)(s:af)(H:Hp),oH k (A.deeper (wU q scope s.heap.objs.size lam o cl))->PD (Fy X.prog X.w X.K X.mg X.base (X.N++[x]) (wU q scope s.heap.objs.size lam o cl) A outer s H) qr body tE)
  (hg:Gl X "min") (hm:X.mg "min" = X9) (F:aS [e] X.env=[(Y1,eval e X.env)]:=by rfl):PD X Ex (.Call (.Name "min" pn) [e] [⟨XV (fT "key"),.Lambda params body scope pl,kq⟩] pp) (BO Pt iT te tE):=by
 refine⟨?_⟩;rintro X5 s d_ H Q I ⟨X4,μ,σ,O,ev,c1,q⟩;obtain⟨ti,q⟩:oK H Pt/\q9 Ex X.K H X4 μ ((te σ O).bnd λx f=>match x with|.lst ds=>BE tE σ f ds|_=>.bad) Q:=by
  unfold BO at q;split at q
  ·rename_i p hp;by_cases G:p=Pt
   ·rw[Y2 G] at q;obtain⟨v,_,d⟩:=ev.at_ iT _ hp;unfold X6 at d;rw[G] at d;exact⟨d.2,q⟩
   ·rw[Z5 G] at q;exact ak q
  ·exact ak q
 have J:∀{cells:List (Str×ab)},(∀y∈scope.names,y.2=.free->∃c,cells.lookup y.1=XV c)->∀x c,(rN cells scope.names []).lookup x=XV c->cells.lookup x=XV c:=λ{cells}i x c e=>by
  rcases G7 _ _ (bL e) with m|⟨m,z⟩
  ·cases m
  ·obtain⟨c',x9⟩:=i (x,.free) m rfl;have vd:cells.lookup x=XV c':=x9;rw[vd] at z ⊢;rw[z];rfl
 have i:∀y∈scope.names,y.2=.free->∃c,X.env.cells.lookup y.1=XV c:=λy M hf=>I.ok.has y.1 (b.frees y M hf);have Fh:∀x,scope.names.lookup x=XV .free->∃c,(rN X.env.cells scope.names []).lookup x=XV c:=λx e=>by
  have m:=G_ (cells:=X.env.cells) scope.names [] (bL e);exact⟨_,yp (He _ _ b.nd 'k' (by intro p hp;cases hp)) m⟩
 have HR:∀x,scope.names.lookup x=XV .free->X.env.scope.names.lookup x=XV .cell\/X.env.scope.names.lookup x=XV .free:=λx e=>b.frees (x,.free) (bL e) rfl;have wC:∀y,u6 scope y->scope.names.lookup y=XV .free\/y=x:=λy M=>by
  rcases M with z|z|z
  ·exact .inr (b.loc _ (bL z) rfl)
  ·exact absurd rfl (b.cell _ (bL z))
  ·exact .inl z
 refine gO (B4 I hg hm Gn ?_ 'u' 'u');refine callWith_kw ?_ (by rw[F];rfl) (by rw[F];rfl);rw[F];show ao _ _ (spliced ((Y1,eval e X.env)::backTo pp [])) _ _ s;refine lW (qc (he.out X5 s d_ H _ I (rd.go (Q1:=λP h=>∃j f a,oz X.K h X4 a σ d_/\Ext H μ h a/\ou X.K h X4 a f/\X6 X.K h X4 a j P/\q9 Ex X.K h X4 a (match j with|.lst ds=>BE tE σ f ds|_=>.bad) Q) ev c1 q λj f P h a R S T r1 U=>⟨j,f,a,R,S,T,r1,U⟩)) λu1 s1 ⟨P,h,I1,W,j,f,a,R,S,T,Y,U⟩=>?_);refine my ?_;refine kws_cons (Xf I1 L t9 (S.tab _ ti) (RX i) xZ λlam o yE h' tk H' I3 ext cells Z zB qV uU=>?_);refine kws_nil ?_;obtain⟨cc,φ,rfl,uG,hφ⟩:=uU;have Mi:=R.ext (ext a);have cl3:=cells X4 a f T;have q3:=post.ext U (ext a);have Tx:=Y.ext (ext a);cases j with
 | lst ds=>
  unfold X6 at Tx;obtain⟨l,vs,rfl,la,dd⟩:=Tx;cases W;have B:si X X5 H' lam:=I1.fpOk zB Z;have I4:L2.Inv X ((lam,_)::X5) d_ H' { s1 with heap:=h',toks:=tk }:=I3.pins_of λp hp=>by
   rcases am.mp hp with rfl|hp
   ·exact⟨qV,B.1,B.2.1,B.2.2.1,λv z=>nomatch z⟩
   ·exact I3.pin p (av _ hp)
  refine ZF (cc:=cc) o_ ?_ I4 la dd Mi cl3 ⟨φ,uG,hφ⟩ q3;intro So s5 H5 yd O5 d5 v5 u5 Q5 g EO Bl HZ cl5 dx5 rx5 q5;obtain⟨φ5,Bl,Lg⟩:=Bl;obtain⟨qn,hqn⟩:=Lg _ (g.hok cc _ Bl).1;have hg5:=(g.pin _ (av _ EO)).1;refine lq (gf (WH (k:=k) (t:=tE) (X4:=X4) (μ:=yd) (σd:=σ++[XV d5]) (O:=O5) (Q:=Q5) (N:=X.N) (σ:=d_) hr.in1 g.env0.in1 hg5 hqn b.co b.gen b.kind b.cell (Bm _ _ _ _ _ _ _) wC b.one zo (zb9 g Un.refl (J i)) (zeL g (J i)) Fh (zbI g Un.refl (J i) Fh HR) g.len rx5 (hE _ _ _ _ _ _ _ _) (HZ.snoc dx5) cl5 q5) λr s8 C=>?_);cases r with
  |error e=>exact C.elim
  | ok B=>
   cases B with
   |ret u=>exact g.after C
   |next=>exact ak C
   |brk=>exact ak C
   |cont=>exact ak C
 |_=>exact ak q3
end
end DL
namespace DL
open PySem L2
mutual
def nm:D->Bool
 |.map _ _=>Y1
 |.dct=>Y1
 |.exn _=>Y1
 |.lst ds=>nms ds
 |.tup ds=>nms ds
 |_=>YP
def nms:List D->Bool
 |[]=>YP
 |d::ds=>nm d&&nms ds
end
section
variable{K:ah}{H:Hp}{X4 μ:List ab}{p:ab}{k_:List (Key×V)}
def Nn(b:H p=XV (.frz o (.dK k_)))(h:Rd H a u)(c:∀k_,u ≠ .dK k_)(d:∀o v,u ≠ .frz o v):a≠p:=by
 rintro rfl;rcases h with h|⟨o,h⟩
 ·rw[b] at h;cases h;exact d _ _ rfl
 ·rw[b] at h;cases h;exact c _ rfl
mutual
theorem X6.hide(b:H p=XV (.frz o (.dK k_))):∀{d:D}{v:V},nm d=YP->X6 K H X4 μ d v->X6 K H (p::X4) μ d v
 |.non,_,_,h=>h
 |.bl _,_,_,h=>h
 |.int _,_,_,h=>h
 |.str _,_,_,h=>h
 | .lst ds,v,n,h=>by
  unfold X6 at h ⊢;obtain⟨a,c,r,l,q⟩:=h;refine⟨a,c,r,l.imp (λz=>⟨z.1,λm=>?_,z.2.2⟩) id,oy.hide b n q⟩;rcases am.mp m with e|m
  ·exact Nn b z.1 (λ_ z=>nomatch z) (λ_ _ z=>nomatch z) e
  ·exact z.2.1 m
 | .tup ds,v,n,h=>by
  unfold X6 at h ⊢;obtain⟨a,c,r,l,q⟩:=h;refine⟨a,c,r,l.imp (λz=>⟨z.1,λm=>?_,z.2.2⟩) id,oy.hide b n q⟩;rcases am.mp m with e|m
  ·exact Nn b z.1 (λ_ z=>nomatch z) (λ_ _ z=>nomatch z) e
  ·exact z.2.1 m
 |.own k,v,_,h=>by unfold X6 at h ⊢;exact h
 |.dct,_,n,_=>by cases n
 |.exn _,_,n,_=>by cases n
 |.tab P,v,_,h=>by unfold X6 at h ⊢;exact h
 |.map _ _,_,n,_=>by cases n
 |.adr _,_,_,h=>h
theorem oy.hide(a:H p=XV (.frz o (.dK k_))):∀{ds:List D}{vs:List V},nms ds=YP->oy K H X4 μ ds vs->oy K H (p::X4) μ ds vs
 |[],_,_,h=>h
 | d::ds,vs,n,h=>by
  unfold oy at h ⊢;unfold nms at n;obtain⟨b,c⟩:=i3.mp n;obtain⟨v,r,e,f,g⟩:=h;exact⟨v,r,e,X6.hide a b f,oy.hide a c g⟩
end
def ou.hide(d:H p=XV (.frz o (.dK k_)))(n:O.all nms=YP)(c:ou K H X4 μ O):ou K H (p::X4) μ O:=by
 refine⟨c.len,c.nd,λa m z=>?_,λa m=>?_,λk a e=>?_⟩
 ·rcases am.mp z with e|z
  ·obtain⟨k,i,j⟩:=dq.mp m;obtain⟨f,g,_,b,_⟩:=c.at_ k a (by rw[ay i,j]);rw[e,d] at b;cases b
  ·exact c.nh a m z
 ·rcases am.mp m with e|m
  ·rw[e,d];simp
  ·exact c.ht a m
 ·obtain⟨f,g,h,b,l⟩:=c.at_ k a e;exact⟨f,g,h,b,l.hide d (ar.mp n f (aN h))⟩
def oz.put(e:oz K H X4 μ σ d_)(h:d_[i]?=XV (XV v))(q:X6 K H X4 μ d v):oz K H X4 μ (σ.set i (XV d)) d_:=by
 refine⟨by simp[e.len],λj x g=>?_⟩;by_cases a:i=j
 ·subst a;have b:i<σ.length:=by have:=(aq.mp g).1;simpa using this
  rw[bA b] at g;cases g;exact⟨v,h,q⟩
 ·rw[br a] at g;exact e.at_ j x g
def oz.forget(e:oz K H X4 μ σ d_)(o:Option V):oz K H X4 μ (σ.set i X9) (d_.set i o):=by
 refine⟨by simp[e.len],λj x g=>?_⟩;by_cases a:i=j
 ·subst a;have b:i<σ.length:=by have:=(aq.mp g).1;simpa using this
  rw[bA b] at g;cases g
 ·rw[br a] at g;obtain⟨v,c,d⟩:=e.at_ j x g;exact⟨v,by rw[br a];exact c,d⟩
def Cw(k:DK)(ks:List DK):Bool:=ks.any λj=>decide (j=k)
def uh(k:DK)(ks:List DK):List DK:=ks.filter λj=>decide (j≠k)
def xD(k:DK):List DK->List D->List D
 |j::ks,d::ds=>if j=k then xD k ks ds else d::xD k ks ds
 |_,_=>[]
theorem OI:∀{ks:List DK}{ds:List D}{vs:List V},ks.length=vs.length->oy K H X4 μ ds vs->∃a,yQ ((ks.map kD).zip vs) (kD k)=((uh k ks).map kD).zip a/\(uh k ks).length=a.length/\oy K H X4 μ (xD k ks ds) a
 |[],ds,vs,_,_=>⟨[],rfl,rfl,.nil⟩
 |j::ks,ds,[],h,_=>by cases h
 |j::ks,[],v::vs,_,h=>by unfold oy at h;cases h
 | j::ks,d::ds,v::vs,hl,h=>by
  obtain⟨w,r,e,g,i⟩:=(show ∃w r,v::vs=w::r/\X6 K H X4 μ d w/\oy K H X4 μ ds r from by unfold oy at h;exact h);cases e;obtain⟨a,b,c,f⟩:=OI (k:=k) (mo hl) i;show ∃a,yQ ((kD j,v)::(ks.map kD).zip vs) (kD k)=_/\_;by_cases e:j=k
  ·subst e;refine⟨a,?_,?_,?_⟩
   ·unfold yQ uh at *;rw[cQ 'k',cQ 'k'];exact b
   ·unfold uh at *;rw[cQ 'k'];exact c
   ·unfold xD;rw[Y2 rfl];exact f
  ·have l:kD j≠kD k:=λz=>e (Gq z);refine⟨v::a,?_,?_,?_⟩
   ·unfold yQ uh at *;rw[cR (by simpa using l),cR (by simpa using e),b];rfl
   ·unfold uh at *;rw[cR (by simpa using e)];simpa using c
   ·unfold xD;rw[Z5 e];exact .cons g f
theorem Ri:∀{ks:List DK}{vs:List V},ks.length=vs.length->Cw k ks=YP->(uw ((ks.map kD).zip vs) (kD k)).isSome=YP
 |[],_,_,h=>by cases h
 |_::_,[],h,_=>by cases h
 | j::ks,v::vs,hl,h=>by
  show(uw ((kD j,v)::(ks.map kD).zip vs) (kD k)).isSome=YP;by_cases e:j=k
  ·rw[DD (p:=(kD j,v)) (congrArg kD e)];rfl
  ·rw[Ci (p:=(kD j,v)) (λz=>e (Gq z))];unfold Cw at h;rw[fQ,decide_eq_false e,jy] at h;exact Ri (mo hl) h
end
def xC(iR tu iL:Nat)(t1 t3:DE):List D->List DK->List D->Sg->Ow->RS
 |[],_,_,σ,O=>.nx σ O
 | x::xs,ks,ds,σ,O=>match v_ x with
  | some k=>if Cw k ks=YP then match t1 (σ.set tu (XV x)) O with
    | .ok d1 O1=>match t3 (((σ.set tu (XV x)).set iL (XV d1)).set iR (XV (.map (uh k ks) (xD k ks ds)))) O1 with
     |.ok _ O2=>if O2.all nms=YP then xC iR tu iL t1 t3 xs (uh k ks) (xD k ks ds) ((σ.set tu (XV x)).set iL (XV d1)) O2 else .bad
     |_=>.bad
    |_=>.bad
   else .bad
  |none=>.bad
def CT(iR tu iL:Nat)(tH:DE)(it:DI)(t1 t3:DE)(tt:DS):DS:=λσ O=>(tH σ O).bnS λx O1=>match x with
 | .map ks ds=>(it (σ.set iR X9) O1).bnS λsrc O2=>match src with
  | .val xs=>match xC iR tu iL t1 t3 xs ks ds (σ.set iR X9) O2 with
   |.nx σ' O'=>tt σ' O'
   |_=>.bad
  |_=>.bad
 |_=>.bad
def Ea.ext(e:Ea p H μ H' f_)(h:H p=X9):Ext H μ H' f_:=⟨e.pre,λb o g n a=>e.kept b o g n (sk g h) a,e.fresh,e.there,e.tab⟩
section
variable{X:Cx}{Ex:Nat->Hp->Prop}
def M9(g:H A=XV (.frz ob u)):∀a,oK H a->oK (upd H A o) a:=by
 rintro a ⟨h,b,i,j⟩;have k:a≠A:=by rintro rfl;rw[g] at b;cases b
 refine⟨h,by rw[qf k];exact b,i,λd l e=>?_⟩;obtain⟨c,m,rfl,f,n⟩:=j d l e;have p:c≠A:=by rintro rfl;rw[g] at f;cases f
 exact⟨c,m,rfl,by rw[qf p];exact f,n⟩
def Vk(d:PE X e te):PE X e (λσ H Q=>∃p a,H p=XV (.dK a)/\∀o,te σ (upd H p (.frz o (.dK a))) λv H'=>H' p=XV (.frz o (.dK a))/\Q v (upd H' p (.dK a))):=by rintro b s σ H Q I ⟨p,a,c,h⟩;obtain⟨o,J⟩:=Inv.frzK I c;exact qc (d b s σ _ _ J (h o)) λv i ⟨x,j,f,r,g,q⟩=>⟨x,_,Inv.thawK f g (Inv.nofrz I c),r,q⟩
def zbi:oJ X (.type "dict") (λxs H Q=>∃(a:ab)(d:List (Key×V)),xs=[.ref a]/\Rd H a (.dK d)/\∀p,H p=X9->Q (.ref p) (upd H p (.dK d))):=by intro f s w H xs x Q I r h;obtain⟨a,d,rfl,g,q⟩:=h;obtain⟨u,rfl,i⟩:=ue r;cases i;obtain⟨z,j,y,c,k⟩:=F_ I.hok g;refine kt_call_dict j k (by rw[<- c.length];exact z) λl m n=>?_;have t:∀b o,s.heap.get? b=XV o->l.get? b=XV o:=λb o e=>(n.2 b (bo (aK e))).trans (ag _ e);have v:=I.hok.fresh (aD s.heap.objs.size);exact⟨.ref _,_,I.laid (t':=s.toks) (o:=.dK d) t (aD _) (IU z (beq_eq_false_iff_ne.mpr (cS (bo I.big))) c m),rfl,q _ v⟩
def zbq{c h b:aR}{d:List aR}{gs:List bH}{scope:cO}{pos n j:Pos}{y:Str}{i:Nat}(o:Bool)(ext:List Str){it0:DI}{g:Tg}{ts:List DT}{cs:List Cl}{te:DE}(w:X.calm=YP)(B:X.N.Nodup)(D:X.N[i]?=XV y)(p:X.env.scope.names.lookup y=XV .local)
  (F:sZ X Ex h b it0) (G:vk X.env.scope scope (X.N++ext) (qm (⟨it0,g,ts⟩::cs)))
  (J:C2 X ext scope h g d ts gs cs c te)
  (M:swapsWith (.ListComp c (⟨h,b,d,0⟩::gs) scope pos) (XV (.Name y j)) n.line X.env=pure YP)
  (P:∀x,bF b X.env x=pure x:=by intro _;rfl):PS X (.Assign [.Name y j] (.ListComp c (⟨h,b,d,0⟩::gs) scope pos) n) (BL (rd Ex X.K (pV o ext.length it0 g ts cs te)) (u7 i)):=by
 rintro k s d_ H E I ⟨R,μ,σ,O,S,r,q⟩;rw[iK _ _ _ _ M];refine aa (dM (aa ?_));show ao _ X.A (do let _ <- comprehension (.ListComp c (⟨h,b,d,0⟩::gs) scope pos) scope X.env _ (newList []) Y1 (eval b X.env) (XV (assign (.Name y j) X.env))) _ _ s;unfold pV at q;rw[<- Ku] at q;refine aa (cw (Cf (JT c) (use:=XV (assign (.Name y j) X.env)) (Q:=λ_ l=>SP X k E .next l) w F G (λf T s H U _ _ _=>Ir J f T s H U) P I S r (PM r q λL V W l C Y Z nC t y1 u pn=>?_)) (λ_ l hq=>aj (aj hq)) λ_ _ e=>e);obtain⟨m,hn⟩:=Z;show ao _ _ (assign (.Name y j) X.env (.ref L)) _ _ l;refine ij (GY (v:=.ref L) Y B D (.inl p) rfl (λt5 FE uS=>?_) (.inr p));obtain⟨a,Bb,ha⟩:=uS;have Fl:C≠a:=by
  rcases ha with z|z
  ·rw[z];exact t
  ·exact λe=>u y a z e.symm
 refine⟨m,hn.sameBut Bb Fl,λh' xR=>?_⟩;exact⟨_,V,Inv.bare FE xR nC t y1 u pn,W⟩
def zbR(u:kl (aw X.prog X.w) X.A X.env X.xe)(hc:X.calm=YP)
  (hA:∀te,PE X e te->PS X sA (BL (Hx (λxs H Q=>∃(a:ab)(k_:List (Key×V)),xs=[.ref a]/\Rd H a (.dK k_)/\∀p,H p=X9->Q (.ref p) (upd H p (.dK k_))) (Nm te ML)) (u7 iR))) (hH:PD X Ex e tH)
  (hi:sZ X Ex tg iter it) (hg:PG X tg ((Tg.one tu).rd X.K)) (vR:PE X (.Name r p2) (Iw iR)) (vT:PE X (.Name tm p3) (Iw tu)) (hL:PS X sL (BL (rd Ex X.K t1) (u7 iL))) (hE:PD X Ex e3 t3) (vS:swapsWith e3 X9 pE.line X.env=pure Y1) (ht:tF X Ex xs tt)
  (n1:iR≠tu) (n2:iR≠iL) (hl:iR<X.N.length) (hT:tu<X.N.length) (hs:∀x,bF iter X.env x=pure x:=by intro _;rfl):tF X Ex (sA :: .For tg iter [.Delete [.Subscript (.Name r p2) (.Name tm p3) p4] p1,sL,.Expr e3 pE] [] pos::xs) (CT iR tu iL tH it t1 t3 tt):=by
 refine⟨?_⟩;rintro Z s d_ H E I ⟨X4,μ,T,O,e1,c1,q⟩;have hlv:iR<d_.length:=by rw[I.len];exact hl
 refine(DB (hA _ hH.out) (DB (N6 u hc hi.out hg (DB (XH vR vT) (DB hL (Pa (OJ (Vk hE.out) vS)))) hs) ht.out)) Z s d_ H E I ?_;refine rd.goS e1 c1 q λx O1 v B t ea xa ca da qa=>?_;cases x with
 | map ks ds=>
  unfold X6 at da;obtain⟨a0,L,rfl,ra,na1,na2,hlen,dvs⟩:=da;refine⟨a0,_,rfl,.inr ra,λp u=>?_⟩;show MF _ _ _ (d_.set iR (XV (.ref p))) (upd B p (.dK ((ks.map kD).zip L)));have K2:Mv B X4 t (upd B p (.dK ((ks.map kD).zip L))) (p::X4) t:=(Mv.hide u).trans (Ext.laid u).mv;have Tt:oz X.K (upd B p (.dK ((ks.map kD).zip L))) (p::X4) t (T.set iR X9) (d_.set iR (XV (.ref p))):=(ea.mv K2).forget _;have Su:p∉t:=λm=>by
   obtain⟨k,hk,e2⟩:=dq.mp m;obtain⟨_,_,_,h2,_⟩:=ca.at_ k p (by rw[ay hk,e2]);rw[u] at h2;cases h2
  have nph:p∉X4:=λm=>ca.ht p m u;have cap:ou X.K (upd B p (.dK ((ks.map kD).zip L))) (p::X4) t O1:=by
   have c0:=ca.laid (o:=.dK ((ks.map kD).zip L)) u;refine⟨c0.len,c0.nd,λa m z=>?_,λa m=>?_,λk a e=>?_⟩
   ·rcases am.mp z with e|z
    ·exact Su (e▸m)
    ·exact c0.nh a m z
   ·rcases am.mp m with e|m
    ·rw[e,rA];simp
    ·exact c0.ht a m
   ·obtain⟨M,F,U,h2,W⟩:=ca.at_ k a e;exact⟨M,F,U,by rw[qf (sk h2 u)];exact h2,W.mv K2⟩
  have C:oB Ex X.K B X4 t ((it (T.set iR X9) O1).bnS λP O2=>match P with
   | .val xs=>match xC iR tu iL t1 t3 xs ks ds (T.set iR X9) O2 with
    |.nx b f=>tt b f
    |_=>.bad
   |_=>.bad) E:=qa
  refine⟨p::X4,t,T.set iR X9,O1,Tt,cap,?_⟩;cases R:it (T.set iR X9) O1 with
  |bad=>rw[R] at C;exact ak C
  | exc c' f=>
   rw[R] at C;exact λj l x c2=>C j l ((Ext.laid u).trans x) c2.unhide
  | ok P O2=>
   rw[R] at C;intro J H1 g_ x1 c2 sa;cases P with
   |own _=>exact ak C
   |zip _ _=>exact ak C
   | val ys=>
    have C:oB Ex X.K B X4 t (match xC iR tu iL t1 t3 ys ks ds (T.set iR X9) O2 with
     |.nx b f=>tt b f
     |_=>.bad) E:=C
    have e0:Ea p B t H1 g_:=(Ext.laid u).ea.trans x1.ea;have Bc:H1 p=XV (.dK ((ks.map kD).zip L)):=x1.keep p _ rA Su;refine⟨λi m S j=>∃l b f g M F,m=ys.length-i/\i<=ys.length/\S.length=X.N.length/\Ea p H1 g_ j l/\oz X.K j (p::X4) l b S/\ou X.K j (p::X4) l f/\S[iR]?=XV (XV (.ref p))/\j p=XV (.dK ((g.map kD).zip F))/\g.length=F.length/\oy X.K j (p::X4) l M F/\
     oB Ex X.K B X4 t (match xC iR tu iL t1 t3 (ys.drop i) g M b f with
      |.nx b f=>tt b f
      |_=>.bad) E,
     ⟨_,g_,_,O2,ks,ds,L,rfl,bX _,by rw[cb];exact I.len,.refl,Tt.ext x1,c2,by rw[bA hlv],Bc,hlen,(dvs.mv K2).ext x1,C⟩,?_⟩
    rintro i m v8 H2 ⟨D,rm,Y,n,Fx,zd,hm,hile,Cz,Mr,Fu,Aq,HL,Ly,E5,yc,c⟩;have Cs:=sa (p::X4) H2 D Y Mr.mv Aq i;have HA:match ys[i]? with
     |some d=>J.go i H2/\∀x tM,J.yld i H2 x tM->Ext H2 D tM D/\ou X.K tM (p::X4) D Y/\X6 X.K tM (p::X4) D d x
     |none=>J.stop i H2:=Cs
    cases qV:ys[i]? with
    | none=>
     rw[qV] at HA;have vX:i=ys.length:=by have:=aT.mp qV;lia
     rw[vX,nk] at c;have c:oB Ex X.K B X4 t (tt rm Y) E:=c;exact .inl ⟨HA,X4,D,rm,Y,Fu.mv .unhide,Aq.unhide,c.ext ((e0.trans Mr).ext u)⟩
    | some d=>
     rw[qV] at HA;obtain⟨go,yl⟩:=HA;have vX:i<ys.length:=(aq.mp qV).1;rw[dJ vX,(aq.mp qV).2] at c;unfold xC at c;cases hk:v_ d with
     |none=>rw[hk] at c;exact ak c
     | some k=>
      rw[hk] at c;dsimp only at c;by_cases rJ:Cw k n=YP
      case neg=>rw[Z5 rJ] at c;exact ak c
      rw[Y2 rJ] at c;refine .inr ⟨go,λS j=>∃l b f g M F,S.length=X.N.length/\Ea p H1 g_ j l/\oz X.K j (p::X4) l b S/\ou X.K j (p::X4) l f/\S[iR]?=XV (XV (.ref p))/\j p=XV (.dK ((g.map kD).zip F))/\g.length=F.length/\oy X.K j (p::X4) l M F/\
       oB Ex X.K B X4 t (match xC iR tu iL t1 t3 (ys.drop (i+1)) g M b f with
        |.nx b f=>tt b f
        |_=>.bad) E,λb j ⟨l,rD,O3,ks3,ds3,vs3,h⟩=>⟨ys.length-(i+1),by lia,l,rD,O3,ks3,ds3,vs3,rfl,vX,h⟩,λv H3 y=>?_⟩
      obtain⟨x3,c3,r3⟩:=yl v H3 y;have Eo:p∉D:=λm=>Aq.nh p m 'k';have Lx:H3 p=XV (.dK ((n.map kD).zip zd)):=x3.keep p _ Ly Eo;have Mi:=(Fu.ext x3).set r3 tu;have dd3:=yc.ext x3;have ekv:=IM hk r3;have EJ:(v8.set tu (XV v))[iR]?=XV (XV (.ref p)):=by rw[br (cS n1)];exact HL
      have EH:(v8.set tu (XV v))[tu]?=XV (XV v):=by
       rw[bA (by rw[Cz];exact hT)]
      dsimp only[Tg.rd,u7];refine⟨_,EJ,v,EH,p,_,kD k,rfl,Lx,ekv,Ri E5 rJ,?_⟩;obtain⟨G,hd1,hd2,hd3⟩:=OI (k:=k) E5 dd3;rw[hd1];have Mq:Ea p H3 D (upd H3 p (.dK (((uh k n).map kD).zip G))) D:=.putX (xA Lx);have Tu:=Mi.mv (Mq.mv (X4:=X4));have cl4:=c3.putX (o:=.dK (((uh k n).map kD).zip G)) (xA Lx);have dd4:=hd3.mv (Mq.mv (X4:=X4));cases U:t1 (rm.set tu (XV d)) Y with
      |bad=>rw[U] at c;exact ak c
      |exc c' f=>rw[U] at c;exact ak c
      | ok d1 O5=>
       rw[U] at c;dsimp only at c;refine⟨p::X4,D,rm.set tu (XV d),Y,Tu,cl4,?_⟩;rw[U];intro v1 H5 yd x5 c5 r5;have EO:H5 p=XV (.dK (((uh k n).map kD).zip G)):=x5.keep p _ rA Eo;have En:p∉yd:=λm=>c5.nh p m 'k';have HZ:=(Tu.ext x5).set r5 iL;have Tw:=dd4.ext x5;have EI:((v8.set tu (XV v)).set iL (XV v1))[iR]?=XV (XV (.ref p)):=by rw[br (cS n2)];exact EJ
       cases W:t3 (((rm.set tu (XV d)).set iL (XV d1)).set iR (XV (.map (uh k n) (xD k n Fx)))) O5 with
       |bad=>rw[W] at c;exact ak c
       |exc c' f=>rw[W] at c;exact ak c
       | ok d3 O6=>
        rw[W] at c;dsimp only at c;by_cases hn:O6.all nms=YP
        case neg=>rw[Z5 hn] at c;exact ak c
        rw[Y2 hn] at c;refine⟨p,_,EO,λo=>?_⟩;have Mp:Ea p H5 yd (upd H5 p (.frz o (.dK (((uh k n).map kD).zip G)))) yd:=.putX (xA EO);have dm:X6 X.K (upd H5 p (.frz o (.dK (((uh k n).map kD).zip G)))) X4 yd (.map (uh k n) (xD k n Fx)) (.ref p):=by
         unfold X6;exact⟨p,G,rfl,⟨o,rA⟩,nph,En,hd2,(Tw.mv (Mp.mv (X4:=X4))).mv .unhide⟩
        refine⟨X4,yd,_,O5,((HZ.mv (Mp.mv (X4:=X4))).mv .unhide).put EI dm,(c5.putX (xA EO)).unhide,?_⟩;rw[W];intro v3 H6 FG x6 c6 r6;have HN:H6 p=XV (.frz o (.dK (((uh k n).map kD).zip G))):=x6.keep p _ rA En;have ea7:Ea p H6 FG (upd H6 p (.dK (((uh k n).map kD).zip G))) FG:=.putX (M9 HN);have Mo:=(Mp.trans x6.ea).trans ea7;exact⟨HN,FG,_,O6,_,_,G,by rw[cb,cb];exact Cz,((Mr.trans x3.ea).trans Mq).trans (x5.ea.trans Mo),HZ.mv (Mo.mv (X4:=X4)),(c6.hide HN hn).putX (M9 HN),EI,rA,hd2,Tw.mv (Mo.mv (X4:=X4)),c⟩
 |_=>exact ak qa
end
end DL
namespace DL
open PySem L2
def F0(o:Obj):Nat:=match o.data with
 |.dict _ ep=>ep
 |_=>0
def TL(a:ab)(o:Obj)(k_:List (Key×V)):It:=⟨λi H=>H a=XV (.frz o (.dK k_))/\i<k_.length,λi H x H'=>H'=H/\∃k v,k_[i]?=XV (k,v)/\x=kV k,λi H=>H a=XV (.frz o (.dK k_))/\k_.length<=i⟩
theorem NQ:∀{k_:List (Key×V)}{ws:List (Key×ae)}{i:Nat}{k:Key}{v:V},KV k_ ws->k_[i]?=XV (k,v)->∃u,ws[i]?=XV (k,u)
 |_,_,_,_,_,.nil,h=>by simp at h
 | (k0,v0)::_,(k1,u1)::_,0,k,v,.cons h _,e=>by
  simp at e;obtain⟨rfl,rfl⟩:=e;have a:k0=k1:=h.1;subst a;exact⟨u1,rfl⟩
 |_::_,_::_,i+1,k,v,.cons _ t,e=>NQ (i:=i) t (by simpa using e)
def WY(h:(xb P w).is k u=YP):RelV (kV k) u:=by
 rcases yv (k:=k) (v:=u) h with⟨i,t,rfl,rfl⟩|⟨x,t,rfl,rfl⟩
 ·exact⟨t,rfl⟩
 ·exact⟨t,rfl⟩
def JL(ok:HOk P w H h)(e:H a=XV (.frz o (.dK k_))):(a==sysModules)=Y1/\∃b,KV k_ b/\h.DictAt (xb P w) a b (F0 o):=by
 obtain⟨d,z,i,b,c,m,j,k,f,l,g,r⟩:=ok a _ e;rw[d] at f;cases f;have:F0 o=k:=by unfold F0;rw[g]
 rw[this];exact⟨i,b,c,o,j,d,l,g,r⟩
def zd0(a it:ab)(o:Obj)(q:List (Key×V)):xt P w K tg (TL a o q) [it] it (λi h=>h.IsKeyIter it a i q.length (F0 o)) where
 mem:=by simp
 obj:=λi h g b l=>by
  have e:b=it:=by simpa using l
  subst e;obtain⟨o,e,c,d⟩:=g;exact⟨o,e,λv z=>by rw[d] at z;cases z⟩
 keep:=λi h m g k=>g.at λo e=>k it 'k' o e
 item:=by
  intro X r t x O i j s Q H E I n g y;subst r t x;obtain⟨A,B⟩:=y;obtain⟨S,T,f,C⟩:=JL I.hok A;obtain⟨⟨k,v⟩,R⟩:∃p,q[i]?=XV p:=⟨_,ay B⟩;obtain⟨u,U⟩:=NQ f R;obtain⟨D,F,W,G,J,L⟩:=n it 'k';rw[f.length] at g;refine wpAny_pyNext_dict_item g C U λM m Y N Z=>?_;have I1:Inv X j Q H { s with heap:=m }:=I.turned (t':=s.toks) (λb o l e=>(Z.2 b l).trans e) D F G J L;obtain⟨o2,e,c,d⟩:=id N;rw[<- f.length] at N;exact⟨M,rfl,C0 (s:={ s with heap:=m }) e c d 'u' ⟨kV k,H,I1,WY Y,⟨rfl,k,v,R,rfl⟩,N,λb l=>(n b l).1⟩⟩
 done:=by
  intro X r t x O i j s Q H E I n g y;subst r t x;obtain⟨A,B⟩:=y;obtain⟨S,T,f,C⟩:=JL I.hok A;obtain⟨D,F,W,G,J,L⟩:=n it 'k';rw[f.length] at g;exact wpAny_pyNext_dict_end (I.ok.hd O) g C (aT.mpr (by rw[<- f.length];exact B)) λm eb=>⟨rfl,I.turned (t':=s.toks) (λb o l e=>eb b o l e) D F G J L⟩
 self:=λ_ _ _ _ _ g h=>wpAny_pyIter_keyiter g h
noncomputable def Ac:DK->D
 |.inl i=>.int i
 |.inr cs=>.str cs
def Y_:∀k:DK,X6 K H X4 μ (Ac k) (kV (kD k))
 |.inl _=>by unfold Ac X6;rfl
 |.inr _=>by unfold Ac X6;rfl
def oG.keys{K:ah}{H:Hp}{X4 μ:List ab}{ks:List DK}{vs:List V}{a:ab}{o:Obj}(h:H a=XV (.frz o (.dK ((ks.map kD).zip vs))))(l:a∉X4)(n:a∉μ)(f:ks.length=vs.length):oG K (TL a o ((ks.map kD).zip vs)) (.val (ks.map Ac)) H X4 μ:=by
 intro g t u v m c i;have j:=m.kept a _ h n l (by intro w z;cases z);have b:((ks.map kD).zip vs).length=ks.length:=by rw[nE,au,f,Nat.min_self]
 show match (ks.map Ac)[i]? with|some d=>_|none=>_
 rw[bG];cases e:ks[i]? with
 | some k=>
  have p:=(aq.mp e).1;refine⟨⟨j,by rw[b];exact p⟩,λx A y=>?_⟩;obtain⟨rfl,q,B,r,rfl⟩:=y;have s:q=kD k:=by
   have:=congrArg (nv Prod.fst) r;rw[<- bG,List.map_fst_zip (by rw[au];exact gW f),bG,e] at this;cases this;rfl
  subst s;exact⟨.refl,c,Y_ k⟩
 | none=>
  exact⟨j,by rw[b];exact aT.mp e⟩
def FN(t:DE):DI:=λσ O=>(t σ O).bnd λx O1=>match x with
 |.map ks _=>.ok (.val (ks.map Ac)) O1
 |_=>.bad
def zf7{X:Cx}{m:Nat->Hp->Prop}{a y:aR}{t:DE}(z:PD X m a t):sZ X m y a (FN t):=by
 refine⟨?_⟩;rintro i s A H B I ⟨f,S,T,O,C,D,q⟩;refine qc (z.out i s A H _ I (rd.go C D q (Q1:=λv g=>∃f h j d,ou X.K g f h j/\X6 X.K g f h d v/\post m X.K (λE F s J=>oG X.K J s E f F) g f h (match d with|.map ks _=>.ok (.val (ks.map Ac)) j|_=>.bad) B)
  λd j v g h U x c r p=>⟨f,h,j,d,c,r,p⟩)) λu k ⟨v,g,l,G,f,h,j,d,c,r,p⟩=>?_
 cases d with
 | map ks ds=>
  unfold X6 at r;obtain⟨a,V,rfl,⟨o,w⟩,L,M,N,W⟩:=r;cases G;obtain⟨P,Y,n,Q⟩:=JL l.hok w;refine wpAny_pyIter_dict P Q ?_;rw[<- n.length];refine⟨k.heap.objs.size,[k.heap.objs.size],_,_,g,rfl,l.kept (t':=k.toks) λb o e=>ag _ e,zd0 a _ o _,⟨_,aJ _ rfl,rfl,rfl⟩,λb R=>?_,post.here p c (.keys w L M N)⟩;have e:b=k.heap.objs.size:=by simpa using R
  subst e;exact l.fpOk (aD _) (l.hok.fresh (aD _))
 |_=>exact ak p
end DL
namespace DL
open PySem L2 PyProof.Rows
noncomputable def uP(i j k l:Int):Bool:=decide (i<k)||(decide (i=k)&&decide (j<l))
def Np(h:Q (.bool (decide (a<b))) s):ao (aw prog w) A (richCompare .Lt (.int a t) (.int b u)) Q E s:=wpAny_lt_int h
set_option maxHeartbeats 4000000 in
def zdy(l b:ab)(a c i e:Int)(m o p q:Tok)(n x:Nat)(y z:Option ab)(sl B:Array (Option ae)):
  Meets (dN.«tuple.__lt__» ⟨[.ref l,.ref b],[]⟩)
   (λA R s=>s.heap.get? l=XV { cls:=.type "tuple",dict:=y,data:=.seq #[.int a m,.int c o] n,slots:=sl }/\s.heap.get? b=XV { cls:=.type "tuple",dict:=z,data:=.seq #[.int i p,.int e q] x,slots:=B }/\
    R (.ok (.ret (.bool (uP a c i e)))) s):=
 .of_wp λf w A R s h=>by
  obtain⟨r,g,d,t,u⟩:=s;obtain⟨C,D,h⟩:=h;have E:=jW
  wp_walk using wpAny_loadPart' C,wpAny_loadPart' D
  refine j5 (A:=A.in1) (s:=⟨r,g,d,t,u⟩) a m i p f w _ _ ?_;by_cases k:a=i
  ·subst k;rw[show(a==a)=YP from beq_self_eq_true a]
   wp_walk
   refine j5 (A:=A.in1) (s:=⟨r,g,d,t,u⟩) c o e q f w _ _ ?_;by_cases v:c=e
   ·subst v;rw[show(c==c)=YP from beq_self_eq_true c]
    wp_walk
    have j:uP a c a c=Y1:=by unfold uP;simp
    rw[j] at h;exact⟨_,rfl,h⟩
   ·rw[show(c==e)=Y1 from beq_eq_false_iff_ne.mpr v]
    wp_walk using Np
    have j:uP a c a e=decide (c<e):=by unfold uP;simp
    rw[j] at h;exact⟨_,rfl,h⟩
  ·rw[show(a==i)=Y1 from beq_eq_false_iff_ne.mpr k]
   wp_walk using Np
   have j:uP a c i e=decide (a<i):=by unfold uP;simp[k]
   rw[j] at h;exact⟨_,rfl,h⟩
def Wg(k:s.heap.IsTuple l #[.int i1 t1,.int i2 t2])(m:s.heap.IsTuple b #[.int j1 u1,.int j2 u2])(o:A.units<cLine)(h:Q (.bool (uP i1 i2 j1 j2)) s):
  ao (aw prog w) A (richCompare .Lt (.ref l) (.ref b)) Q E s:=by
 obtain⟨⟨p,q,d,r⟩,e,f,n,g⟩:=id k;obtain⟨⟨y,t,c,u⟩,i,j,v,a⟩:=id m;simp only at f g j a;subst f g j a;exact richCompare_meets_room (op:=.Lt) ⟨_,e,rfl⟩ ⟨_,i,rfl⟩ F.slot_tuple_lt F.entry_tuple_lt (F.args_tuple_lt_2 _ _) (zdy l b i1 i2 j1 j2 t1 t2 u1 u2 n v q t r u)
  ⟨e,i,show ny (uP i1 i2 j1 j2)≠Value.notImplemented/\Q (.bool (uP i1 i2 j1 j2)) s from ⟨(λx=>nomatch x),h⟩⟩ o
section
variable{prog:aM}{w:aV}{A:a7}{R:Result->af->Prop}{I S:ab}{fp wr:List ab}{n:Nat}{P:Nat->ae->Prop}{St:Nat->aX->Prop}{bt:Nat->Nat->Bool}{kp:aX->Prop}
def MG(prog:aM)(w:aV)(A:a7)(P:Nat->ae->Prop)(bt:Nat->Nat->Bool)(kp:aX->Prop):Prop:=∀i j vi vj(s:af)(Q:ae->af->Prop)(E:ae->af->Prop),kp s.heap->P i vi->P j vj->Q (.bool (bt i j)) s->ao (aw prog w) A (richCompare .Lt vi vj) Q E s
def Ol(kp:aX->Prop)(wr:List ab)(S:ab):Prop:=∀h h',kp h->(∀b o,b∉wr->b≠S->h.get? b=XV o->h'.get? b=XV o)->kp h'
def YW(W:Walks prog w A.in1 I fp wr n P St)(M:MG prog w A.in1 P bt kp)(D:S∉fp)(E:Ol kp wr S):
  ∀(k j:Nat)(s:af)(a:ae)(c:Nat),n-(j+1)=k->j+1<=n->kp s.heap->St (j+1) s.heap->P (argBest bt j) a->s.heap.get? S=XV { cls:=.type "list",dict:=X9,data:=.seq #[a,a] c,slots:=#[] }->
  (∀v h' tk,P (argBest bt (n-1)) v->(∀b o,b∉wr->b≠S->s.heap.get? b=XV o->h'.get? b=XV o)->R (.ok (.ret v)) { s with heap:=h',toks:=tk })->codeAny (aw prog w) A (.builtin "min.loop" ⟨[.ref I,.none,.ref S],[]⟩) R s:=by
 have F:S∉wr:=λh=>D (W.sub _ h);have G:(toString "min" ++ toString ".loop":String) = "min.loop":=by decide
 intro k
 induction k with
 | zero=>
  intro j s a c N O H q l i m;have J:j+1=n:=by lia
  refine eG d0 ?_;rw[dB bE _];show ao _ A.in1 (seqItems? (.ref S) >>= _) _ _ s;refine aa (el i rfl ?_);show ao _ A.in1 (tryCatch (pyNext (.ref I)) _ >>= _) _ _ s;refine aa (dP (W.done s _ _ (J▸q) λh' tk d=>?_));show ao _ A.in1 (updateSeq S (λ_=>#[]) >>= _) _ _ _;exact aa (dW (d S _ F i) rfl (aa (fb (aj (m a _ tk (by rw[<- J];exact l) λb o f g e=>(bj _ _ (cS g)).trans (d b o f e))))))
 | succ k ih=>
  intro j s a c N O H q l i m;have r:j+1<n:=by lia
  refine eG d0 ?_;rw[dB bE _];show ao _ A.in1 (seqItems? (.ref S) >>= _) _ _ s;refine aa (el i rfl ?_);show ao _ A.in1 (tryCatch (pyNext (.ref I)) _ >>= _) _ _ s;refine aa (dP (W.item (j+1) s _ _ r q λv h' tk K L d=>?_));have t:=d S _ F i;have u:kp h':=E _ _ H λb o p _ e=>d b o p e;show ao _ A.in1 (tryCatch (holding [v,v] (richCompare .Lt v a >>= _)) _ >>= _) _ _ _;refine aa (dP (bD (aa (M (j+1) (argBest bt j) v a { s with heap:=h',toks:=tk } _ _ u K l (aa (bD (cM (aa (fb (aj ?_))))))))));cases p:bt (j+1) (argBest bt j) with
  | true=>
   simp only[if_true];refine aa (dW t rfl (aa (fb ?_)));rw[G];refine aj ⟨d7 bE _,ih (j+1) _ v _ 'd' r (E _ _ u λb o _ n e=>(bj _ _ (cS n)).trans e) (W.frame _ _ _ L λb Q o e=>(bj _ _ (λh:S=b=>D (by rw[h];exact Q))).trans e) (by simp only[argBest,p,if_true];exact K) (bI _ t rfl)
    λx y z B C=>m x y z B λb o f g e=>C b o f g ((bj _ _ (cS g)).trans (d b o f e))⟩
  | false=>
   simp only[bJ,if_false];refine aa (fb ?_);rw[G];exact aj ⟨d7 bE _,ih (j+1) _ a c 'd' r u L (by simp only[argBest,p,bJ,if_false];exact l) t λx y z B C=>m x y z B λb o f g e=>C b o f g (d b o f e)⟩
def zf6(W:Walks prog w A.in1 I fp wr n P St)(m:MG prog w A.in1 P bt kp)(a:S∉fp)(d:Ol kp wr S)(g:0<n)(p:kp s.heap)(q:St 0 s.heap)(i:s.heap.get? S=XV { cls:=.type "list",dict:=X9,data:=.seq #[] c,slots:=#[] })
  (r:∀v h' tk,P (argBest bt (n-1)) v->(∀b o,b∉wr->b≠S->s.heap.get? b=XV o->h'.get? b=XV o)->R (.ok (.ret v)) { s with heap:=h',toks:=tk }):codeAny (aw prog w) A (.builtin "min.loop" ⟨[.ref I,.none,.ref S],[]⟩) R s:=by
 have t:S∉wr:=λh=>a (W.sub _ h);have u:(toString "min" ++ toString ".loop":String) = "min.loop":=by decide
 refine eG d0 ?_;rw[dB bE _];show ao _ A.in1 (seqItems? (.ref S) >>= _) _ _ s;refine aa (el i rfl ?_);show ao _ A.in1 (tryCatch (pyNext (.ref I)) _ >>= _) _ _ s;refine aa (dP (W.item 0 s _ _ g q λv h' tk x y f=>?_));have j:=f S _ t i;have z:kp h':=d _ _ p λb o B _ e=>f b o B e;show ao _ A.in1 (updateSeq S (λ_=>#[v,v]) >>= _) _ _ _;refine aa (dW j rfl ?_);rw[u];exact aj ⟨d7 bE _,YW W m a d _ 0 _ v _ rfl g (d _ _ z λb o _ n e=>(bj _ _ (cS n)).trans e) (W.frame _ _ _ y λb C o e=>(bj _ _ (λh:S=b=>a (by rw[h];exact C))).trans e) x (bI _ j rfl)
  λD E F G H=>r D E F G λb o k l e=>H b o k l ((bj _ _ (cS l)).trans (f b o k e))⟩
end
section
variable{X:Cx}{Ex:Nat->Hp->Prop}
def Yp(I:L2.Inv X X5 σ H s)(b:rL X.K H a [.int i,.int j]):∃t u,s.heap.IsTuple a #[.int i t,.int j u]:=by obtain⟨e,c,p,_⟩:=I.tuple b;obtain⟨u,f,rfl,⟨t,rfl⟩,⟨d,rfl⟩⟩:=Gg c;exact⟨t,d,p⟩
def zop:Ow->D->D->R D:=λO x y=>match x,y with
 |.tup [.int i,.int j],.tup [.int k,.int l]=>.ok (.bl (uP i j k l)) O
 |_,_=>.bad
def ZO{K:ah}{H:Hp}{X4 μ:List ab}{i j:Int}{v:V}(h:X6 K H X4 μ (.tup [.int i,.int j]) v):∃a,v=.ref a/\rL K H a [.int i,.int j]:=by obtain⟨t,f,rfl,d,e⟩:=AN h rfl;obtain⟨x,y,rfl,b,c⟩:=AA e;unfold X6 at b c;subst b;subst c;exact⟨t,rfl,d⟩
def zM:List Int->Int
 |[]=>0
 |x::l=>l.foldl min x
theorem JM:∀(l:List Int)(x:Int),l.foldl min x<=x/\∀a∈l,l.foldl min x<=a
 |[],x=>⟨Int.le_refl _,λ_ h=>by cases h⟩
 | y::l,x=>by
  obtain⟨c,b⟩:=JM l (min x y);rw[eF];refine⟨by lia,λa ha=>?_⟩;rcases am.mp ha with rfl|ha
  ·lia
  ·exact b a ha
theorem DF:∀(l:List Int)(x:Int),l.foldl min x=x\/l.foldl min x∈l
 |[],x=>.inl rfl
 | y::l,x=>by
  rw[eF];rcases DF l (min x y) with h|h
  ·rcases Int.le_total x y with e|e
   ·left;rw[h];lia
   ·right;rw[h];rw[show min x y=y by lia];exact al
  ·exact .inr (ai _ h)
def zew(hm:M∈ns)(b:∀a,a∈ns->M<=a):M=zM ns:=by
 cases ns with
 |nil=>cases hm
 | cons x l=>
  show M=l.foldl min x;obtain⟨c,d⟩:=JM l x;have f:l.foldl min x<=M:=by
   rcases am.mp hm with rfl|hm
   ·exact c
   ·exact d M hm
  have g:M<=l.foldl min x:=by
   rcases DF l x with e|e
   ·rw[e];exact b x al
   ·exact b _ (ai _ e)
  lia
def zdz(m:X.calm=YP):oJ X (.builtin "min") (λxs H Q=>∃(p:ab)(ns:List Int),xs=[.ref p]/\qJ X.K H p (ns.map V.int)/\ns≠[]/\Q (.int (zM ns)) H):=by
 intro e s G H xs J Q I r h;obtain⟨p,ns,rfl,n,o,q⟩:=h;obtain⟨u,rfl,w⟩:=ue r;cases w;obtain⟨L,x,y,M⟩:=I.list n;have f:=Rp x;obtain⟨b,g⟩:=f.allInts.items;have c:ns=b.toList.map (·.1):=by rw[<- f.numsOf,<- lQ,<- g]
 have k:=y.isList;rw[g] at k;have d:0<b.size:=by
  rcases Nat.eq_zero_or_pos b.size with z|z
  ·exact absurd (by rw[c,Array.eq_empty_of_size_eq_zero z];rfl) o
  ·exact z
 refine wT I (min_intList (I.ok.hd m) k d λv N A B C O=>?_);obtain⟨t,rfl⟩:=intItems_at B;obtain⟨P,D⟩:=argBest_lt (numAt b) (b.size-1);have E:numAt b (argBest (λi j=>decide (numAt b i<numAt b j)) (b.size-1))=zM ns:=by
  refine zew ?_ λa l=>?_
  ·rw[c,numAt_eq];exact getD_mem (by rw[au,aA];lia)
  ·rw[c] at l;obtain⟨j,F,rfl⟩:=mem_getD l;rw[au,aA] at F;rw[<- numAt_eq];exact D j 'd'
 rw[E];exact⟨.int _,H,I.kept (t':=A) C,⟨_,rfl⟩,q⟩
def C3:Ow->List D->R D:=λO xs=>match xs with
 | [x]=>match tJ O x with
  | some ds=>match xB ds with
   |some ns=>if ns≠[] then .ok (.int (zM ns)) O else .bad
   |none=>.bad
  |none=>.bad
 |_=>.bad
def Yl:uy X Ex (λxs H Q=>∃(p:ab)(ns:List Int),xs=[.ref p]/\qJ X.K H p (ns.map V.int)/\ns≠[]/\Q (.int (zM ns)) H) C3:=by
 intro H a j O xs k Q c d q;unfold C3 at q;split at q
 ·rename_i x;obtain⟨v,rfl,b⟩:=tW d;split at q
  ·rename_i l e;obtain⟨p,m,rfl,f,g⟩:=vt c b e;split at q
   ·rename_i ns h;obtain⟨i,q⟩:=post.ite q;refine⟨p,ns,rfl,?_,i,post.here q c sR⟩;rw[<- JJ g h];exact f
   ·exact ak q
  ·exact ak q
 ·exact ak q
noncomputable def CS(i:Nat)(t:DE):DS:=λσ O=>match σ[i]? with
 | some (XV (.int a))=>(t σ O).bnS λd O1=>match d with
  |.int b=>.nx (σ.set i (XV (.int (a+b)))) O1
  |_=>.bad
 |_=>.bad
def YL(h:X.N.Nodup)(j:X.N[i]?=XV x)(k:Loc X.env.scope x)(l:PD X Ex e te)(m:X.fn x=YP\/X.env.scope.names.lookup x=XV .local:=by first|exact .inl rfl|exact .inr rfl):
  rM X Ex (.AugAssign (.Name x pos') .Add e pos) (CS i te):=
 w9 (VT h j k l.out WO m) λn A B O E o H f s q=>by
  unfold CS at q;split at q
  ·rename_i a t;obtain⟨v,u,g⟩:=f.at_ i _ t;unfold X6 at g;subst g;refine⟨.int a,u,rd.goS f s q λd C v w y z x c r p=>?_⟩;cases d with
   | int b=>
    unfold X6 at r;subst r;exact⟨a,b,rfl,rfl,p (o.set i (XV (.int (a+b)))) w y .refl (z.set sR i) c⟩
   |_=>exact ak p
  ·exact ak q
end
end DL
namespace DL
open PySem L2
open PyProof.Rows (AllBare)
structure oD(P:aM)(w:aV)(K:ah)(mg:Str->Option ae)(base:aX)(x:Str)(k n:Nat)(Pt:ab)(F:List D->Ow->R D):Prop where
 ex:∃f fd ps,mg x=XV (.ref f)/\cT K (.ref f)=YP/\Binds K fd ps []/\oP P w K mg base xo k f fd ps (yK K yG n Pt F)
section
variable{P:aM}{w:aV}{K:ah}{mg:Str->Option ae}{base:aX}{k n i:Nat}{x z:Str}{Pt c:ab}{F G:List D->Ow->R D}
def oD.imp(c:oD P w K mg base x k n Pt F)(h:∀ds O H X4 μ Q,ou K H X4 μ O->q9 qr K H X4 μ (G ds O) Q->q9 qr K H X4 μ (F ds O) Q):oD P w K mg base x k n Pt G:=by obtain⟨f,b,e,g,j,l,m⟩:=c.ex;exact⟨f,b,e,g,j,l,m.imp λr H Q E ⟨o,X4,μ,ds,O,d,a,p,q⟩=>⟨o,X4,μ,ds,O,d,a,p,h ds O H X4 μ Q a q⟩⟩
def oD.bad(c:oD P w K mg base x k n Pt F):oD P w K mg base x k n Pt (λ_ _=>.bad):=c.imp λ_ _ _ _ _ _ _ q=>ak q
def oD.self(c:oD P w K mg base x k n Pt F):oD P w K mg base x k n Pt F:=c
def oD.frz(c:oD P w K mg base x k n Pt F):oD P w K mg base x k n Pt (zL F):=c.imp λd O H a e Q b q=>Ka b.len q
def IV{f:ab}{name a:Str}{g:iJ}{body:List er}{scope:cO}{y B l C m ct L:ae}{I M:Option ab}{T:Array (Option ae)}{N ps:List Str}{t:DS}
  (U:K.lookup f=XV ⟨L,M,.func (cy name a g body scope y B l C I m ct),T⟩) (V:eU K m a=YP) (S:qv N ps scope) (W:N[i]?=XV z) (hz:¬ u6 scope z)
  (X:∀(A:a7)(b:List Env)(s:af)(H:Hp)(E:XK),oH k (A.deeper (eS a scope s.heap.objs.size f m))->tF (CH P w K mg base N a scope f m A b s H E) qr body t):
  oP P w K mg base xo (k+1) f (cy name a g body scope y B l C I m ct) ps (yK K yG ps.length Pt (xx N.length i Pt t)):=by
 refine qX U V S (λY H Q E h=>h.1) λA b s H Y Q E Z h=>?_;obtain⟨hl,u,μ,J,O,d,c,ti,j⟩:=h;refine⟨_,(sY.fake (v:=.bl Y1) W hz (X A b s H E Z).out).nox,u,μ,_,O,(RE d N).set (d:=.tab Pt) (v:=.bl Y1) (by unfold X6;exact⟨rfl,ti⟩) i,c,?_⟩;unfold xx at j;generalize t ((J.map XV++aP (N.length-J.length) X9).set i (XV (.tab Pt))) O=r at j;cases r with
 |nx σ O'=>exact λd_ o p x e q=>j .non o p x q Gw
 |rt d' O'=>exact λv o p x q r=>j v o p x q r
 |bk σ O'=>exact ak j
 |ct σ O'=>exact ak j
 |exc q O'=>exact λo p x c2=>j o p x c2
 |bad=>exact ak j
def Mc(h:qK K mg x st)(S:qv N ps (qg st))(o:N[i]?=XV z)(hz:¬ u6 (qg st) z)
  (p:∀(g d j:ae)(l:Option ab)(b m:ae)(e:List ae),e.length=ps.length->bindArgs (cy x x (xF st) (u_ st) (qg st) .none g d j l b m) ⟨e,[]⟩=pure (ps.zip e))
  (q:∀(f:ab)(b:ae)(A:a7)(a:List Env)(s:af)(H:Hp)(E:XK),oH k (A.deeper (eS x (qg st) s.heap.objs.size f b))->tF (CH P w K mg base N x (qg st) f b A a s H E) qr (u_ st) t):
  oD P w K mg base x (k+1) ps.length Pt (xx N.length i Pt t):=by obtain⟨f,r,u,F⟩:=h;refine⟨f,r,ps,u,F.kp,F.binds p,?_⟩;obtain⟨C,I,g,d,j,l,b,m,J,rfl,v,y⟩:=F.ex;exact IV v y S o hz λA a s H E B=>q f b A a s H E B
def MX(h:yN K mg x st c)(S:qv N ps (qg st))(o:N[i]?=XV z)(hz:¬ u6 (qg st) z)
  (p:∀(g b j:ae)(l:Option ab)(d m:ae)(e:List ae),e.length=ps.length->bindArgs (cy x x (xF st) (u_ st) (qg st) .none g b j l d m) ⟨e,[]⟩=pure (ps.zip e))
  (q:∀(f:ab)(A:a7)(a:List Env)(s:af)(H:Hp)(E:XK),oH k (A.deeper (eS x (qg st) s.heap.objs.size f (.ref c)))->tF (CH P w K mg base N x (qg st) f (.ref c) A a s H E) qr (u_ st) t):
  oD P w K mg base x (k+1) ps.length Pt (xx N.length i Pt t):=by obtain⟨f,r,u,F,v⟩:=h.ex;refine⟨f,r,ps,u,F.kp,F.binds p,?_⟩;obtain⟨I,J,g,b,j,l,d,m,L,rfl,y,B⟩:=F.ex;cases (show d=.ref c from v);exact IV y B S o hz λA a s H E C=>q f A a s H E C
def T_(F:L2.Fun K x x st f fd)(S:qv N ps (qg st))(d:N[i]?=XV z)(hz:¬ u6 (qg st) z)
  (e:∀(b:ae)(A:a7)(a:List Env)(s:af)(H:Hp)(E:XK),oH k (A.deeper (eS x (qg st) s.heap.objs.size f b))->tF (CH P w K mg base N x (qg st) f b A a s H E) qr (u_ st) t):
  oP P w K mg base xo (k+1) f fd ps (yK K yG ps.length Pt (xx N.length i Pt t)):=by obtain⟨m,o,p,g,q,r,b,u,v,rfl,h,j⟩:=F.ex;exact IV h j S d hz λA a s H E l=>e b A a s H E l
end
def BZ(c:oD X.prog X.w X.K X.mg X.base x k n Pt F)(l:oH j X.A)(m:k<=j)(o:Gl X x)(r:uc X qr (e::es) t)
  (s:(x==("__debug__":Str))=Y1:=by decide) (u:aS (e::es) X.env=(Y1,eval e X.env)::aS es X.env:=by rfl) (y:(backTo pos (aS es X.env)).any (·.1)=Y1:=by rfl):
  PD X qr (.Call (.Name x p) (e::es) [] pos) (tN Pt iT n F t):=by
 obtain⟨f,U,V,z,B,C,G⟩:=c.ex;refine r9 (O9 (dvs:=[]) (ds:=[]) (E:=E0) (G.mono m) l o z B C .nil Ni r.out s u y) λa D I O W H Q h J q=>?_;obtain⟨L,q⟩:oK H Pt/\q9 qr X.K H a D (j_ n F t I O) Q:=by
  unfold tN at q;split at q
  ·rename_i p M;by_cases b:p=Pt
   ·rw[Y2 b] at q;obtain⟨v,_,d⟩:=h.at_ iT _ M;unfold X6 at d;rw[b] at d;exact⟨d.2,q⟩
   ·rw[Z5 b] at q;exact ak q
  ·exact ak q
 refine uN.go h J q λds N Y Z P e2 R S i g=>?_;obtain⟨T,g⟩:=post.ite g;refine⟨by rw[bP,<- i.length];exact T,a,P,ds,N,?_,S,R.tab _ L,g⟩;rw[bP];exact i
def walkU{l:lZ}{q:aM}{loose:List Str}{XP:(Str->Option ae)->aX->Prop}{p:aV->aX->Prop}{d:DefRec}{K:iQ->ah}{k:Nat}{x xd:Str}{F:Nat->List D->Ow->R D}{α:Type}{Yf:af->α}{Ya:aV->α}(L:l.most=XV 63)(M:d.params.defaults=[])(N:oH k callerA)
  (P:∀w s,Yf s=Ya w->p w s.heap) (Q:∀w h h',p w h->(∀b o,h.get? b=XV o->h'.get? b=XV o)->p w h')
  (S:∀(w:aV)(h:aX),p w h->(K w.params).In h) (U:((PyProof.Rows.recsOf q).find? (λe=>e.name==xd)).isSome=YP)
  (V:∀(w:aV)(mg:Str->Option ae)(r:ab)(h:aX),(K w.params).In h->h.Ns bO mg->mg d.name=XV (.ref r)->
   jc (K w.params)=YP/\∃(c Pt:ab),jz (K w.params) xd=XV (c,Pt)/\∃t:d8,(∀(s:af)(u:ae),kO s t ⟨[u],[]⟩ [(x,u)])/\∀base:aX,(K w.params).In base->base.Ns bO mg->vN mg base c Pt->oP l.prog w (K w.params) mg base xo k r t [x] (yK (K w.params) yG 1 Pt (F Pt)))
  (j:∀(Pt:Nat)(ns:List Int),ns.length<=63->∃O,F Pt [.lst (ns.map .int)] []=.ok (.bl YP) O):
  PySem.W.WalkX q loose XP (λs=>(Yf s,decide (0<s.toks))) (λw=>(Ya w,YP)) l.row.toRowW d [] (λf vs=>PySem.call f vs):=by
 refine Att.attach_call L M P Q λw B X mg mb r o pm cd Z a vs ns G Y ho C q8 EX Bd m i hg qE=>?_;have v:=S w _ Y;obtain⟨hK,c,Pt,ht,t,hb,hG⟩:=V w mg r _ v G.T.g EX;obtain⟨dd,E⟩:=gP.mp U;have y:dd.name=xd:=by simpa using List.find?_some E
 subst y;obtain⟨hC,I⟩:=PySem.W.tab_of G.T v E ht;have hB:X.heap.BuiltinsAt mg Pt:=by
  obtain⟨bm,ob,b1,b2,n,J,b5,A⟩:=G.T.bmain;refine⟨bm,ob,b1,b2,λq=>?_,λq=>?_,n,J,b5,A⟩
  ·obtain⟨o,es,ep,e,C,_⟩:=G.T.g;rw[q,e] at n;cases n;rw[C] at A;cases A
  ·rw[q,I] at n;cases n;cases J
 exact zcp v G.T.g G.T.b G.T.builtins G.T.nolimit hg qE Bd m (aE i 'u') N hC I hK hB hG hb (λH hT hS=>UY (j Pt ns i) hT hS) λH e s' z=>z
end DL
namespace DL
open PySem L2 PyProof.Rows
def z9I(u:T = "list" \/ T = "tuple")(v:s.heap.get? p=XV o)(x:o.cls=.type T)(y:o.data=.seq vs.toArray n)(g:eu vs ss)(k:vs.length<=4000000)
  (h:∀(a h':aX)(d:Array ae)(i:List Str)(c:Nat),(∀b f,s.heap.get? b=XV f->a.get? b=XV f)->(∀b f,a.get? b=XV f->h'.get? b=XV f)->h'.get? a.objs.size=XV { cls:=.type "list",data:=.seq d c }->eu d.toList i->i.Perm ss->sortedS i=YP->Q (.ref a.objs.size) { s with heap:=h' }):
  ao (aw prog w) A (call (.builtin "sorted") [.ref p]) Q E s:=by
 refine gL mT mj ml (mm _) ?_;unfold dN.«sorted»;refine aa (m:=checkCount "sorted" 1 1 _) (aj ?_);have hsz:vs.toArray.size<=KB:=by rw[aF];exact aE k 'u'
 refine aa (wpAny_collect_seq (hsz:=hsz) p u v x y λa z=>?_);refine aa (gz ?_);have B:vs.toArray.toList=vs:=by simp
 rw[B];have j:(a.push (seqObj "list" vs.toArray 0)).get? a.objs.size=XV (seqObj "list" vs.toArray 0):=aJ _ rfl;refine aa (bD (b9 lf (s:={ s with heap:=a.push (seqObj "list" vs.toArray 0) }) ⟨_,j,rfl⟩ ku (TS.list_sort_big lL j g.keysOf (λN O l e=>keyKind_strs (by rw[<- e];exact g)) k λC D F=>⟨_,rfl,?_⟩) (lg _)));obtain⟨G,H,I,J⟩:=sorted_out_str g D F;refine aj ⟨_,rfl,?_⟩;have K:=bI (bu λ_=>#[]) j rfl;have L:=ag (seqObj "list" #[] 0) (ag (seqObj "tuple" vs.toArray 0) K);have M:=bI (bu λ_=>(Z6 C).map (·.2)) L rfl;refine h a _ _ G _ z (λb o r=>?_) M H I J;have t:a.objs.size≠b:=λq=>absurd (aK r) (by rw[<- q];exact bz _);exact(bj _ _ t).trans (ag _ (ag _ ((bj _ _ t).trans (ag _ r))))
section
variable{X:Cx}{Ex:Nat->Hp->Prop}{H:Hp}{X4 μ:List ab}
def Nq(K:ah):List V->Hp->VK->Prop:=λxs H Q=>∃p ss,xs=[.ref p]/\rL K H p (ss.map λcs=>V.str ⟨cs.toArray⟩)/\ss.Nodup/\ss.length<=1000/\∀l,H l=X9->Q (.ref l) (upd H l (.lst ((qi ss).map λcs=>V.str ⟨cs.toArray⟩)))
def zdJ:oJ X (.builtin "sorted") (Nq X.K):=by
 intro b s v H O P Q I r h;obtain⟨p,a,rfl,w,x,y,q⟩:=h;obtain⟨u,rfl,z⟩:=ue r;cases z;obtain⟨i,j,⟨o,A,B,n,C⟩,R⟩:=I.tuple w;have D:(a.map λd=>V.str ⟨d.toArray⟩)=(a.map toS).map V.str:=by rw[bi];rfl
 have E:eu i (a.map toS):=GX (by rw[<- D];exact j);have k:i.length=a.length:=by have:=j.length;simpa using this.symm
 refine z9I (.inr rfl) A B C E 'd' λl S f T c F G J L m M=>?_;have e:=Pk m x M;subst e;have t:L2.Inv X b v H { s with heap:=l }:=I.kept (t':=s.toks) F;have g:oA ((qi a).map λd=>V.str ⟨d.toArray⟩) f.toList:=by
  have g:=GZ L;rw[bi] at g;exact g
 have N:(qi a).length=a.length:=by have:=m.length_eq;simpa using this
 exact⟨.ref l.objs.size,_,t.laid (t':=s.toks) (o:=.lst ((qi a).map λd=>V.str ⟨d.toArray⟩)) G (aD _) ⟨by rw[au,N];exact aE y 'u',f.toList,c,g,by rw[J]⟩,rfl,q _ (t.hok.fresh (aD _))⟩
def AI:Ow->List D->R D:=λO xs=>match xs with
 | [.tup ds]=>match uu ds with
  |some ss=>if ss.Nodup/\ss.length<=1000 then .ok (.lst ((qi ss).map .str)) O else .bad
  |none=>.bad
 |_=>.bad
def W4:uy X Ex (Nq X.K) AI:=by
 intro H X4 μ O m n Q c d q;unfold AI at q;split at q
 ·rename_i o;obtain⟨v,rfl,b⟩:=tW d;obtain⟨p,r,rfl,e,f⟩:=AN b rfl;split at q
  ·rename_i g h;obtain⟨⟨i,j⟩,q⟩:=post.ite q;have k:=GI f h;subst k;exact⟨p,g,rfl,e,i,j,λl a=>post.ok q (.laid a) (c.laid a) (X6.newL c a (DP _))⟩
  ·exact ak q
 ·exact ak q
end
noncomputable def IP(out sc:cO)(x:Str):Bool:=(match sc.kind with|.function=>YP|_=>Y1) && !sc.isCoroutine && !sc.isGenerator&&decide ((sc.names.map (·.1)).Nodup)&&(sc.names.lookup x==XV .local)&&(sc.names.all λy=>!(y.2 == .cell)&&(!(y.2 == .local)||y.1==x))&&(sc.names.all λy=>!(y.2 == .free)||out.names.lookup y.1==XV .cell||out.names.lookup y.1==XV .free)
def UC(h:IP out sc x=YP):M0 out sc x:=by
 unfold IP at h;simp only[aQ,decide_eq_true_eq,ar] at h;obtain⟨⟨⟨⟨⟨⟨c,f⟩,g⟩,i⟩,j⟩,d⟩,k⟩:=h;refine⟨?_,by simpa using f,by simpa using g,i,λy a=>?_,by simpa using j,λy a b=>?_,λy a b=>?_⟩
 ·cases e:sc.kind<;>rw[e] at c<;>first|rfl|cases c
 ·have:=(d y a).1;simpa using this
 ·have:=(d y a).2;rw[b] at this;simpa using this
 ·have:=k y a;rw[b] at this;simpa using this
def zeY(f:oH (k+2) X.A)(g:X.calm=YP)(L:vN X.mg X.base c Pt)(h:X.env.code=.ref c)(i:IP X.env.scope scope x=YP)(j:defaultsOf params X.env=([],[]))
  (l:∀(name a:Str)(cl:List (Str×ab))(pm d ct u:ae),bindArgs (dO name a params body scope cl pm d ct) ⟨[u],[]⟩=pure [(x,u)]) (m:(X.N++[x]).Nodup) (n:PD X Ex e te)
  (o:∀(q:Str)(b:ab)(d:ae)(cl:List (Str×ab))(A:a7)(outer:List Env)(s:af)(H:Hp),oH k (A.deeper (wU q scope s.heap.objs.size b d cl))->PD (Fy X.prog X.w X.K X.mg X.base (X.N++[x]) (wU q scope s.heap.objs.size b d cl) A outer s H) qr body tE)
  (p:Gl X "min") (r:X.mg "min" = X9) (t:aS [e] X.env=[(Y1,eval e X.env)]:=by rfl):PD X Ex (.Call (.Name "min" pn) [e] [⟨XV (fT "key"),.Lambda params body scope pl,kq⟩] pp) (BO Pt iT te tE):=
 Y6 f g L h (UC i) j l (λz=>(dF.mp m).2.2 x z x 'k' rfl) n o p r t
def Kw{X:Cx}{e:Nat->Hp->Prop}{b d a:aR}{c:List aR}{gs:List bH}{scope:cO}{pos f h:Pos}{y:Str}{i k:Nat}{ext:List Str}{it0:DI}{g:Tg}{ts:List DT}{cs:List Cl}{te:DE}(_:Nx ext)(o:Bool)(j:X.calm=YP)(l:X.N.Nodup)(m:X.N[i]?=XV y)(n:X.env.scope.names.lookup y=XV .local)(p:vk X.env.scope scope (X.N++ext) (qm (⟨it0,g,ts⟩::cs)))(q:sZ X e d a it0)(r:C2 X ext scope d g c ts gs cs b te)
  (s:swapsWith (.ListComp b (⟨d,a,c,0⟩::gs) scope pos) (XV (.Name y h)) f.line X.env=pure YP) (t:ext.length=k:=by rfl) (u:∀x,bF a X.env x=pure x:=by intro _;rfl):
  PS X (.Assign [.Name y h] (.ListComp b (⟨d,a,c,0⟩::gs) scope pos) f) (BL (rd e X.K (pV o k it0 g ts cs te)) (u7 i)):=t▸zbq o ext j l m n q p r s u
end DL
namespace DL
open PySem L2
section
variable{X:Cx}{Ex:Nat->Hp->Prop}
def KG{l r w f:aR}{h:List aR}{gs:List bH}{scope:cO}{pos Y B:Pos}{y:Str}{i k:Nat}{ext:List Str}{it0:DI}{g:Tg}{ts:List DT}{cs:List Cl}{tk tv:DE}(_:Nx ext)(o_:X.calm=YP)(hN:X.N.Nodup)(zy:X.N[i]?=XV y)(Z:X.env.scope.names.lookup y=XV .local)(hb:vk X.env.scope scope (X.N++ext) (qm (⟨it0,g,ts⟩::cs)))(hi:sZ X Ex w f it0)
  (rS:∀cells C s H j,PG (ql X (X.N++ext) scope cells C s H j) w (g.rd X.K)/\bU (λe t=>qZ (ql X (X.N++ext) scope cells C s H j) qr e t) h ts/\oO (ql X (X.N++ext) scope cells C s H j) gs cs/\PD (ql X (X.N++ext) scope cells C s H j) qr l tk/\PD (ql X (X.N++ext) scope cells C s H j) qr r tv)
  (vS:swapsWith (.DictComp l r (⟨w,f,h,0⟩::gs) scope pos) (XV (.Name y B)) Y.line X.env=pure YP) (hk:ext.length=k:=by rfl)
  (hs:∀x,bF f X.env x=pure x:=by intro _;rfl):rM X Ex (.Assign [.Name y B] (.DictComp l r (⟨w,f,h,0⟩::gs) scope pos) Y) (pZ i (w_ k it0 g ts cs tk tv)):=by
 subst hk;refine⟨?_⟩;rintro D s d_ H E I ⟨F,μ,R,O,e1,c1,q⟩;rw[iK _ _ _ _ vS];refine aa (dM (aa ?_));show ao _ X.A (do let _ <- comprehension (.DictComp l r (⟨w,f,h,0⟩::gs) scope pos) scope X.env _ newDict Y1 (eval f X.env) (XV (assign (.Name y B) X.env))) _ _ s;have q:oB Ex X.K H F μ ((w_ ext.length it0 g ts cs tk tv R O).bnS λd O1=>.nx (R.set i (XV d)) O1) E:=q;unfold w_ at q;refine aa (cw (Cf (P0 l r) (use:=XV (assign (.Name y B) X.env)) (Q:=λ_ M=>SP X D E .next M) o_ hi hb (λcells Cn s H j _ _ _=>ME rS cells Cn s H j) hs I e1 c1 ?_) (λ_ M hq=>aj (aj hq)) λ_ _ e=>e);cases S:wo ext.length it0 g ts cs (Ap tk tv) R O with
 |bad=>rw[S] at q;exact q
 |exc c' O'=>rw[S] at q;exact q
 | ok X8 O'=>
  rw[S] at q;rintro L T P nL x c ⟨U,V,rfl,W,hl,dA⟩ M C I' ns nC l1 y1 ce pn;obtain⟨m,hn⟩:=ns;have n1:L∉F:=λm=>c1.ht L m nL;show ao _ _ (assign (.Name y B) X.env (.ref L)) _ _ M;refine ij (GY (v:=.ref L) I' hN zy (.inl Z) rfl (λt5 FE uS=>?_) (.inr Z));obtain⟨a,Bb,ha⟩:=uS;have Fl:C≠a:=by
   rcases ha with z|z
   ·rw[z];exact l1
   ·exact λe=>ce y a z e.symm
  refine⟨m,hn.sameBut Bb Fl,λh' xR=>?_⟩;obtain⟨o,J⟩:=Inv.frzK (Inv.bare FE xR nC l1 y1 ce pn) W;have ea:Ea L T P (upd T L (.frz o (.dK ((U.map λp=>kD p.1).zip V)))) P:=.putX (xA W);have c2:=c.putX (o:=.frz o (.dK ((U.map λp=>kD p.1).zip V))) (xA W);have G:=x.ea.trans ea;have x3:Ext H μ (upd T L (.frz o (.dK ((U.map λp=>kD p.1).zip V)))) P:=⟨G.pre,λb u g n ht=>G.kept b u g n (sk g nL) ht,G.fresh,G.there,G.tab⟩;exact⟨_,_,J,q _ _ P x3 ((e1.ext x3).set (RF c2 n1 rA hl (dA.mv ea.mv)) i) c2.unhide⟩
end
end DL
namespace DL
open PySem L2 PyProof.Rows
def ltQ(p q:Int×Int):Bool:=uP p.1 p.2 q.1 q.2
def NI{p q r:Int×Int}(a:ltQ p q=YP)(b:ltQ q r=YP):ltQ p r=YP:=by unfold ltQ uP at *;simp only[dH,aQ,decide_eq_true_eq] at *;lia
def ZZ{p q:Int×Int}(e:ltQ p q=Y1)(f:ltQ q p=Y1):p=q:=by
 obtain⟨a,b⟩:=p;obtain⟨c,d⟩:=q;unfold ltQ uP at *;simp only[fD,iO,decide_eq_false_iff_not] at *;have:a=c:=by lia
 have:b=d:=by lia
 simp[*]
def VF{p q r:Int×Int}(a:ltQ p q=Y1)(b:ltQ r q=YP):ltQ p r=Y1:=by
 cases h:ltQ p r with
 |false=>rfl
 |true=>rw[NI h b] at a;cases a
def Jm(p:Int×Int):ltQ p p=Y1:=by unfold ltQ uP;simp
theorem OG(val:Nat->Int×Int):∀n,argBest (λi j=>ltQ (val i) (val j)) n<=n/\∀j,j<=n->ltQ (val j) (val (argBest (λi j=>ltQ (val i) (val j)) n))=Y1
 | 0=>⟨aD _,λj b=>by have e:j=0:=(by lia);subst e;exact Jm _⟩
 | n+1=>by
  obtain⟨d,c⟩:=OG val n;show(if ltQ (val (n+1)) (val (argBest (λi j=>ltQ (val i) (val j)) n))=YP then n+1 else argBest (λi j=>ltQ (val i) (val j)) n)<=n+1/\∀j,j<=n+1->ltQ (val j) (val (if ltQ (val (n+1)) (val (argBest (λi j=>ltQ (val i) (val j)) n))=YP then n+1 else argBest (λi j=>ltQ (val i) (val j)) n))=Y1;by_cases a:ltQ (val (n+1)) (val (argBest (λi j=>ltQ (val i) (val j)) n))=YP
  ·rw[Y2 a];refine⟨aD _,λj b=>?_⟩;by_cases e:j=n+1
   ·rw[e];exact Jm _
   ·exact VF (c j 'd') a
  ·rw[Z5 a];refine⟨by lia,λj b=>?_⟩;by_cases e:j=n+1
   ·rw[e];simpa using a
   ·exact c j 'd'
def ur:List (Int×Int)->Int×Int
 |[]=>(0,0)
 |x::l=>l.foldl (λb y=>if ltQ y b=YP then y else b) x
def W9{z x m:Int×Int}(a:¬ ltQ z x=YP)(b:ltQ x m=Y1):ltQ z m=Y1:=by unfold ltQ uP at *;simp only[dH,aQ,decide_eq_true_eq,fD,iO,decide_eq_false_iff_not] at *;lia
theorem Jy:∀(l:List (Int×Int))(x:Int×Int),(l.foldl (λb y=>if ltQ y b=YP then y else b) x=x\/l.foldl (λb y=>if ltQ y b=YP then y else b) x∈l)/\ltQ x (l.foldl (λb y=>if ltQ y b=YP then y else b) x)=Y1/\∀y∈l,ltQ y (l.foldl (λb y=>if ltQ y b=YP then y else b) x)=Y1
 |[],x=>⟨.inl rfl,Jm x,λ_ h=>(ba h).elim⟩
 | y::l,x=>by
  obtain⟨a,b,c⟩:=Jy l (if ltQ y x=YP then y else x);rw[eF];by_cases d:ltQ y x=YP
  ·rw[Y2 d] at a b c ⊢;refine⟨.inr ?_,?_,λz hz=>?_⟩
   ·rcases a with a|a
    ·rw[a];exact al
    ·exact ai _ a
   ·cases h:ltQ x (l.foldl (λb y=>if ltQ y b=YP then y else b) y) with
    |false=>rfl
    |true=>rw[NI d h] at b;cases b
   ·rcases am.mp hz with rfl|hz
    ·exact b
    ·exact c z hz
  ·rw[Z5 d] at a b c ⊢;refine⟨?_,b,λz hz=>?_⟩
   ·rcases a with a|a
    ·exact .inl a
    ·exact .inr (ai _ a)
   ·rcases am.mp hz with rfl|hz
    ·exact W9 d b
    ·exact c z hz
def zei{l:List (Int×Int)}{p:Int×Int}(d:p∈l)(e:∀q∈l,ltQ q p=Y1):ur l=p:=by
 cases l with
 |nil=>cases d
 | cons x l=>
  obtain⟨a,b,c⟩:=Jy l x;have f:ur (x::l)∈x::l:=by
   rcases a with a|a
   ·show l.foldl _ x∈_;rw[a];exact al
   ·exact ai _ a
  refine ZZ (e _ f) ?_;rcases am.mp d with rfl|h
  ·exact b
  ·exact c p h
def YY{prog:aM}{w:aV}{A:a7}{E:ae->af->Prop}{s:af}{Q:ae->af->Prop}{p:ab}{items:Array ae}{val:Nat->Int×Int}(k:A.handled=X9)(B:A.units+1<cLine)(l:s.heap.IsList p items)(C:0<items.size)
  (x:∀i v,items[i]?=XV v->∃a t u,v=.ref a/\s.heap.IsTuple a #[.int (val i).1 t,.int (val i).2 u])
  (h:∀v h' tk,items[argBest (λi j=>ltQ (val i) (val j)) (items.size-1)]?=XV v->(∀c o,s.heap.get? c=XV o->h'.get? c=XV o)->Q v { s with heap:=h',toks:=tk }):ao (aw prog w) A (call (.builtin "min") [.ref p]) Q E s:=by
 have D:(toString "min" ++ toString ".loop":String) = "min.loop":=by decide
 refine kmb_tree np mN mO (PySem.F.args_min1 _) ?_;show ao _ A.in1 (fj "min" ["key", "default"] 0 ⟨[],[]⟩ >>= _) _ _ s;refine aa (jl (show fj "min" ["key", "default"] 0 ⟨[],[]⟩=pure [X9,X9] from rfl) ?_);refine aa (aj ?_);refine aa (fw l ?_);refine aa (cg ?_);rw[D];generalize m:s.heap.push { cls:=.type "list_iterator",data:=.fields #[.ref p,.int 0 0] } = h2 at *;have n:h2.objs.size=s.heap.objs.size+1:=by rw[<- m,dh]
 have f:∀c o,s.heap.get? c=XV o->h2.get? c=XV o:=λc o e=>by rw[<- m];exact ag _ e
 have q:h2.IsListIter s.heap.objs.size p 0:=⟨_,by rw[<- m];exact aJ _ rfl,rfl,rfl⟩;have y:p<s.heap.objs.size:=let ⟨o,e,_⟩:=l;aK e;have W:=jO (prog:=prog) (w:=w) (A:=A.in1) k s.heap.objs.size p (bo y) items;refine aj ⟨d7 bE _,zf6 (kp:=λh=>∀c o,s.heap.get? c=XV o->h.get? c=XV o) (bt:=λi j=>ltQ (val i) (val j)) (S:=h2.objs.size) W ?_ ?_ ?_ C (λc o e=>ag _ (f c o e)) ⟨let ⟨o,e,r⟩:=q;⟨o,ag _ e,r⟩,let ⟨o,e,r⟩:=l;⟨o,ag _ (f _ o e),r⟩⟩ (aJ _ rfl) ?_⟩
 ·rintro i j G H O P R g I J K;obtain⟨a,t,u,rfl,L⟩:=x i G I;obtain⟨b,T,U,rfl,M⟩:=x j H J;exact Wg (let ⟨o,e,r⟩:=L;⟨o,g _ o e,r⟩) (let ⟨o,e,r⟩:=M;⟨o,g _ o e,r⟩) B K
 ·intro z;have z:h2.objs.size=s.heap.objs.size\/h2.objs.size=p:=by simpa using z
  rw[n] at z;rcases z with z|z
  ·exact absurd z (eB (cH _))
  ·exact absurd z (eB (cZ y))
 ·intro h h' g k c o e;have d:c<s.heap.objs.size:=aK e;refine k c o (λz=>?_) (λz=>?_) (g c o e)
  ·have z:c=s.heap.objs.size:=by simpa using z
   rw[z] at d;exact absurd d (bz _)
  ·rw[z,n] at d;exact absurd (mP d) (bz _)
 ·intro v h' tk N g;refine h v h' tk N λc o e=>?_;have d:c<s.heap.objs.size:=aK e;refine g c o (λz=>?_) (λz=>?_) (ag _ (f c o e))
  ·have z:c=s.heap.objs.size:=by simpa using z
   rw[z] at d;exact absurd d (bz _)
  ·rw[z,n] at d;exact absurd (mP d) (bz _)
section
variable{X:Cx}{Ex:Nat->Hp->Prop}
def M7(K:ah):List V->Hp->VK->Prop:=λxs H Q=>∃(p:ab)(ws:List V)(ps:List (Int×Int)),xs=[.ref p]/\qJ K H p ws/\ws.length=ps.length/\ps≠[]/\(∀(i:Nat)(w:V)(q:Int×Int),ws[i]?=XV w->ps[i]?=XV q->∃a,w=.ref a/\rL K H a [.int q.1,.int q.2])/\∀(i:Nat)(w:V),ws[i]?=XV w->ps[i]?=XV (ur ps)->Q w H
def zcQ(B:X.calm=YP)(C:X.A.units+64<cLine):oJ X (.builtin "min") (M7 X.K):=by
 intro o s U H V W Q I r h;obtain⟨p,Y,b,rfl,D,E,F,f,q⟩:=h;obtain⟨u,rfl,G⟩:=ue r;cases G;obtain⟨c,g,J,_⟩:=I.list D;have w:c.length=b.length:=by rw[<- g.length];exact E
 have z:0<b.length:=List.length_pos_iff.mpr F;let val:Nat->Int×Int:=λi=>b.getD i (0,0);obtain⟨Z,L⟩:=OG val (c.length-1);have k:argBest (λi j=>ltQ (val i) (val j)) (c.length-1)<b.length:=by lia
 have l:∀{i},(d:i<b.length)->val i=b[i]:=λ{i}d=>by
  show b.getD i (0,0)=_;rw[aY,ay d];rfl
 have M:b[argBest (λi j=>ltQ (val i) (val j)) (c.length-1)]?=XV (ur b):=by
  rw[ay k];congr 1;refine(zei (cu k) λy N=>?_).symm;obtain⟨j,O,rfl⟩:=dq.mp N;have:=L j 'd';rw[l O,l k] at this;exact this
 refine wT I (YY (val:=val) (I.ok.hd B) (gX (Nat.add_le_add_left 'u' _) C) J.isList (by rw[aF];lia) (λi v e=>?_) λv h' P e R qE=>?_)
 ·have e:c[i]?=XV v:=by simpa using e
  obtain⟨x,m,n⟩:=Ki g e;have d:i<b.length:=by
   have:=(aq.mp e).1;lia
  obtain⟨a,rfl,S⟩:=f i x b[i] m (ay d);obtain⟨t,u,T⟩:=Yp I S;cases n;rw[l d];exact⟨a,t,u,rfl,T⟩
 ·rw[aF] at e;have e:c[argBest (λi j=>ltQ (val i) (val j)) (c.length-1)]?=XV v:=by simpa using e
  obtain⟨x,m,n⟩:=Ki g e;exact⟨x,H,I.kept (t':=P) R,n,q _ x m M⟩
def zJ:List D->Option (List (Int×Int))
 |[]=>XV []
 |.tup [.int i,.int j]::r=>(zJ r).map ((i,j) :: ·)
 |_=>X9
theorem Qq:∀l:List (Int×Int),zJ (l.map λp=>.tup [.int p.1,.int p.2])=XV l
 |[]=>rfl
 | x::l=>by
  show(zJ (l.map λp=>.tup [.int p.1,.int p.2])).map _=_;rw[Qq l];rfl
theorem Pr:∀{ds:List D}{ps:List (Int×Int)},zJ ds=XV ps->ds=ps.map λp=>.tup [.int p.1,.int p.2]
 |[],ps,h=>by cases h;rfl
 | d::ds,ps,h=>by
  unfold zJ at h;split at h
  ·rename_i e;cases e
  ·rename_i i j r e;cases e;cases a:zJ ds with
   |none=>rw[a] at h;cases h
   | some qs=>
    rw[a] at h;cases h;rw[Pr a];rfl
  ·cases h
def CY:Ow->List D->R D:=λO xs=>match xs with
 | [x]=>match tJ O x with
  | some ds=>match zJ ds with
   |some ps=>if ps≠[] then .ok (.tup [.int (ur ps).1,.int (ur ps).2]) O else .bad
   |none=>.bad
  |none=>.bad
 |_=>.bad
def YD:uy X Ex (M7 X.K) CY:=by
 intro H f o O z A Q c d q;unfold CY at q;split at q
 ·rename_i x;obtain⟨v,rfl,r⟩:=tW d;split at q
  ·rename_i B e;obtain⟨p,g,rfl,s,j⟩:=vt c r e;split at q
   ·rename_i k t;obtain⟨u,q⟩:=post.ite q;have l:=Pr t;have m:∀(i:Nat)(w:V)(y:Int×Int),g[i]?=XV w->k[i]?=XV y->X6 X.K H f o (.tup [.int y.1,.int y.2]) w:=λi w y a b=>by
     obtain⟨C,n,h⟩:=j.get (i:=i) (d:=.tup [.int y.1,.int y.2]) (by rw[l,bG,b];rfl);rw[a] at n;cases n;exact h
    refine⟨p,g,k,rfl,s,by rw[<- j.length,l,au],u,λi w y a b=>ZO (m i w y a b),λi w a b=>post.here q c (m i w _ a b)⟩
   ·exact ak q
  ·exact ak q
 ·exact ak q
end
end DL
namespace DLC
section
variable{α:Type}[DecidableEq α]
abbrev Held(α:Type):=List (List Nat×List α)
def keys(h:Held α):List (List Nat):=h.map (·.1)
def hold(h:Held α)(x:α):List (List Nat):=(h.filter λkv=>kv.2.contains x).map (·.1)
noncomputable def at_(h:Held α)(t:List Nat):List α:=((h.find? λkv=>decide (kv.1=t)).map (·.2)).getD []
def drop(h:Held α)(t:List Nat):Held α:=h.filter λkv=>decide (kv.1≠t)
noncomputable def minGo(f:α->Nat):List α->α->α
 |[],b=>b
 |x::xs,b=>if f x<f b then minGo f xs x else minGo f xs b
def left(h:Held α)(w:List α)(t:List Nat):List α:=w.filter λx=>!(at_ h t).contains x
def covL(rec:Held α->List α->List (List (List Nat)))(h:Held α)(w:List α):List (List Nat)->Held α->List (List (List Nat))
 |[],_=>[]
 |t::ts,r=>(rec (drop r t) (left h w t)).map (t :: ·)++covL rec h w ts (drop r t)
def cov:Nat->Held α->List α->List (List (List Nat))
 |_,_,[]=>[[]]
 |0,_,_::_=>[]
 |m+1,h,x::w=>covL (cov m) h (x::w) (hold h (minGo (λy=>(hold h y).length) w x)) h
theorem minGo_mem(f:α->Nat):∀(l:List α)(b:α),minGo f l b=b\/minGo f l b∈l
 |[],b=>.inl rfl
 | x::xs,b=>by
  unfold minGo;split
  ·rcases minGo_mem f xs x with h|h
   ·exact .inr (by rw[h];exact al)
   ·exact .inr (ai _ h)
  ·rcases minGo_mem f xs b with h|h
   ·exact .inl h
   ·exact .inr (ai _ h)
def Cov(h:Held α)(w:List α)(S:List (List Nat)):Prop:=(∀t∈S,t∈keys h)/\∀x∈w,∃t∈S,x∈at_ h t
def mem_drop{h:Held α}{t:List Nat}{kv:List Nat×List α}:kv∈drop h t↔kv∈h/\kv.1≠t:=by unfold drop;simp
def keys_drop{h:Held α}{t s:List Nat}:s∈keys (drop h t)↔s∈keys h/\s≠t:=by
 unfold keys;simp only[aB,mem_drop];constructor
 ·rintro⟨a,⟨b,c⟩,rfl⟩;exact⟨⟨a,b,rfl⟩,c⟩
 ·rintro⟨⟨a,b,rfl⟩,c⟩;exact⟨a,⟨b,c⟩,rfl⟩
def nd_drop{h:Held α}{t:List Nat}(n:(keys h).Nodup):(keys (drop h t)).Nodup:=by unfold keys drop at *;exact n.sublist ((gH).map _)
def PH{h:Held α}{t s:List Nat}(b:s≠t):at_ (drop h t) s=at_ h s:=by
 unfold at_ drop;congr 2
 induction h with
 |nil=>rfl
 | cons kv r ih=>
  by_cases e:kv.1=t
  ·rw[cQ (by simpa using e),f7 (by simpa using λz=>b (z.symm.trans e)),ih]
  ·rw[cR (by simpa using e)];by_cases a:kv.1=s
   ·rw[iw (by simpa using a),iw (by simpa using a)]
   ·rw[f7 (by simpa using a),f7 (by simpa using a),ih]
def at_mem{h:Held α}(n:(keys h).Nodup){kv:List Nat×List α}(m:kv∈h):at_ h kv.1=kv.2:=by
 unfold at_
 induction h with
 |nil=>cases m
 | cons a r ih=>
  unfold keys at n;rw[bh,bw] at n;rcases am.mp m with rfl|m
  ·rw[iw 'k'];rfl
  ·have b:a.1≠kv.1:=λz=>n.1 (z▸aB.mpr ⟨kv,m,rfl⟩);rw[f7 (by simpa using b)];exact ih n.2 m
def mem_hold{h:Held α}(n:(keys h).Nodup){x:α}{t:List Nat}:t∈hold h x↔t∈keys h/\x∈at_ h t:=by
 unfold hold;simp only[aB,ax,be];constructor
 ·rintro⟨b,⟨a,c⟩,rfl⟩;exact⟨aB.mpr ⟨b,a,rfl⟩,by rw[at_mem n a];exact c⟩
 ·rintro⟨a,c⟩;obtain⟨b,d,rfl⟩:=aB.mp a;exact⟨b,⟨d,by rw[<- at_mem n d];exact c⟩,rfl⟩
def hold_nd{h:Held α}(n:(keys h).Nodup)(x:α):(hold h x).Nodup:=by unfold keys at n;unfold hold;exact n.sublist ((gH).map _)
def pA{h:Held α}{w:List α}{t:List Nat}{x:α}:x∈left h w t↔x∈w/\x∉at_ h t:=by unfold left;simp
theorem cov_sound:∀(m:Nat){h:Held α}{w:List α}{c:List (List Nat)},(keys h).Nodup->c∈cov m h w->c.length<=m/\c.Nodup/\Cov h w c
 | m,h,[],c,n,hc=>by
  have:c=[]:=by unfold cov at hc;simpa using hc
  subst this;exact⟨bX _,ie,⟨λ_ z=>(ba z).elim,λ_ z=>(ba z).elim⟩⟩
 |0,h,x::w,c,n,hc=>by unfold cov at hc;cases hc
 | m+1,h,x::w,c,n,hc=>by
  unfold cov at hc;have v:∀(b:List (List Nat))(r:Held α),(∀t∈b,t∈keys h)->(∀a∈r,a∈h)->(keys r).Nodup->c∈covL (cov m) h (x::w) b r->c.length<=m+1/\c.Nodup/\Cov h (x::w) c:=by
   intro b
   induction b with
   |nil=>intro r _ _ _ hc;cases hc
   | cons t b ih=>
    intro r g j k hc;unfold covL at hc;rcases aH.mp hc with hc|hc
    ·obtain⟨p,A,rfl⟩:=aB.mp hc;obtain⟨B,C,q,D⟩:=cov_sound m (nd_drop k) A;have d:∀s∈p,s∈keys h/\s≠t:=λs hs=>by
      obtain⟨l,o⟩:=keys_drop.mp (q s hs);obtain⟨a,i,rfl⟩:=aB.mp l;exact⟨aB.mpr ⟨a,j a i,rfl⟩,o⟩
     have f:∀s∈p,at_ (drop r t) s=at_ h s:=λs hs=>by
      obtain⟨l,o⟩:=keys_drop.mp (q s hs);rw[PH o];obtain⟨a,i,rfl⟩:=aB.mp l;rw[at_mem k i,at_mem n (j a i)]
     refine⟨by simpa using B,bw.mpr ⟨λz=>(d t z).2 rfl,C⟩,λs hs=>?_,λy E=>?_⟩
     ·rcases am.mp hs with rfl|hs
      ·exact g s al
      ·exact(d s hs).1
     ·by_cases e:y∈at_ h t
      ·exact⟨t,al,e⟩
      ·obtain⟨s,u,F⟩:=D y (pA.mpr ⟨E,e⟩);exact⟨s,ai _ u,by rw[<- f s u];exact F⟩
    ·exact ih (drop r t) (λs hs=>g s (ai _ hs)) (λa G=>j a (mem_drop.mp G).1) (nd_drop k) hc
  exact v _ h (λt g=>(mem_hold n).mp g |>.1) (λ_ h=>h) n hc
def cov_some:∀(m:Nat){h:Held α}{w:List α}{S:List (List Nat)},(keys h).Nodup->Cov h w S->S.length<=m->∃c∈cov m h w,∀t∈c,t∈S
 |m,h,[],S,n,hS,hl=>⟨[],by unfold cov;simp,λ_ z=>(ba z).elim⟩
 | 0,h,x::w,S,n,hS,hl=>by
  obtain⟨t,a,_⟩:=hS.2 x al;have:S=[]:=cj.mp 'd';subst this;cases a
 | m+1,h,x::w,S,n,hS,hl=>by
  unfold cov;generalize u:minGo (λy=>(hold h y).length) w x=y;have H:y∈x::w:=by
   rcases minGo_mem (λy=>(hold h y).length) w x with e|e
   ·rw[<- u,e];exact al
   ·rw[<- u];exact ai _ e
  obtain⟨s,v,I⟩:=hS.2 y H;have hs:s∈hold h y:=(mem_hold n).mpr ⟨hS.1 s v,I⟩;have J:∀(b:List (List Nat))(r:Held α),(∃t∈b,t∈S)->(∀d∈r,d∈h)->(keys r).Nodup->(∀t∈S,t∈keys r)->b.Nodup->∃c∈covL (cov m) h (x::w) b r,∀t∈c,t∈S:=by
   intro b
   induction b with
   |nil=>rintro r ⟨_,h,_⟩;cases h
   | cons t b ih=>
    intro r g A i f K;unfold covL;by_cases a:t∈S
    ·have L:Cov (drop r t) (left h (x::w) t) (S.filter λs=>decide (s≠t)):=by
      refine⟨λs hs=>?_,λz M=>?_⟩
      ·obtain⟨j,k⟩:=ax.mp hs;exact keys_drop.mpr ⟨f s j,by simpa using k⟩
      ·obtain⟨j,k⟩:=pA.mp M;obtain⟨l,B,C⟩:=hS.2 z j;have D:l≠t:=λe=>k (e▸C);refine⟨l,ax.mpr ⟨B,by simpa using D⟩,?_⟩;rw[PH D];obtain⟨d,E,rfl⟩:=aB.mp (f l B);rw[at_mem i E,<- at_mem n (A d E)];exact C
     have N:(S.filter λs=>decide (s≠t)).length<S.length:=by
      rcases i4 (S.filter λs=>decide (s≠t)).length S.length with z|z
      ·exact z
      ·have e:(S.filter λs=>decide (s≠t))=S:=gH.eq_of_length (kw (aZ _ _) z);rw[<- e] at a;have:=(ax.mp a).2;simp at this
     obtain⟨c,o,p⟩:=cov_some m (nd_drop i) L 'd';refine⟨t::c,bB _ (aB.mpr ⟨c,o,rfl⟩),λs hs=>?_⟩;rcases am.mp hs with rfl|hs
     ·exact a
     ·exact(ax.mp (p s hs)).1
    ·obtain⟨F,q,G⟩:=g;have q:F∈b:=(am.mp q).resolve_left (λe=>a (e▸G));obtain⟨c,o,p⟩:=ih (drop r t) ⟨F,q,G⟩ (λd f=>A d (mem_drop.mp f).1) (nd_drop i) (λs hs=>keys_drop.mpr ⟨f s hs,λe=>a (e▸hs)⟩) (bw.mp K).2;exact⟨c,av _ o,p⟩
  exact J _ h ⟨s,hs,v⟩ (λ_ h=>h) n hS.1 (hold_nd n y)
end
section
variable{α:Type}[DecidableEq α]
def drop_lt{r:Held α}{t:List Nat}(b:t∈keys r):(drop r t).length<r.length:=by
 obtain⟨a,h,rfl⟩:=aB.mp b;rcases i4 (drop r a.1).length r.length with z|z
 ·exact z
 ·have e:drop r a.1=r:=gH.eq_of_length (kw (aZ _ _) z);rw[<- e] at h;exact absurd rfl (mem_drop.mp h).2
theorem Qc(a:∀r w,(keys r).Nodup->(rec r w).length<=2 ^ r.length):∀(ts:List (List Nat))(r:Held α),(∀t∈ts,t∈keys r)->ts.Nodup->(keys r).Nodup->(covL rec h w ts r).length<=2 ^ r.length
 |[],r,_,_,_=>bX _
 | t::ts,r,hk,nt,nr=>by
  unfold covL;rw[az,au];have d:=a (drop r t) (left h w t) (nd_drop nr);have f:=Qc (h:=h) (w:=w) a ts (drop r t) (λs b=>keys_drop.mpr ⟨hk s (ai _ b),λe=>(bw.mp nt).1 (e▸b)⟩) (bw.mp nt).2 (nd_drop nr);have c:2 ^ ((drop r t).length+1)<=2 ^ r.length:=cX 'd' (drop_lt (hk t al));rw[j6] at c;lia
theorem cov_pow:∀(m:Nat)(h:Held α)(w:List α),(keys h).Nodup->(cov m h w).length<=2 ^ h.length
 |m,h,[],_=>by unfold cov;exact mq
 |0,h,x::w,_=>by unfold cov;exact bX _
 | m+1,h,x::w,n=>by
  unfold cov;exact Qc (cov_pow m) _ h (λt a=>((mem_hold n).mp a).1) (hold_nd n _) n
theorem perm_of_sub:∀{c S:List (List Nat)},c.Nodup->(∀t∈c,t∈S)->S.length<=c.length->c.Perm S
 | [],S,_,_,h=>by
  have:S=[]:=cj.mp (Nat.le_zero.mp h);rw[this]
 | a::c,S,n,hs,h=>by
  have b:=hs a al;have d:=bw.mp n;have:=perm_of_sub (S:=S.erase a) d.2 (λt f=>(lC (λe:t=a=>d.1 (e▸f))).mpr (hs t (ai _ f))) (by
   rw[j7 b];rw[aO] at h;lia)
  exact(this.cons a).trans (List.perm_cons_erase b).symm
structure Lm(h:Held α)(w:List α)(m:Nat):Prop where
 nd:(keys h).Nodup
 ne:cov m h w≠[]
 no:∀j,j<m->cov j h w=[]
def Lm.le{h:Held α}{w:List α}{m:Nat}(z:Lm h w m){S:List (List Nat)}(b:Cov h w S):m<=S.length:=by
 rcases i4 S.length m with g|g
 ·obtain⟨c,a,_⟩:=cov_some S.length z.nd b (aD _);rw[z.no _ g] at a;cases a
 ·exact g
def Lm.len{h:Held α}{w:List α}{m:Nat}(z:Lm h w m){c:List (List Nat)}(a:c∈cov m h w):c.length=m:=by obtain⟨d,_,b⟩:=cov_sound m z.nd a;have:=z.le b;lia
def Lm.all{h:Held α}{w:List α}{m:Nat}(z:Lm h w m){S:List (List Nat)}(d:Cov h w S)(b:S.length=m):∃c∈cov m h w,c.Perm S:=by obtain⟨c,a,e⟩:=cov_some m z.nd d (gW b);exact⟨c,a,perm_of_sub (cov_sound m z.nd a).2.1 e (by rw[z.len a,b];exact aD _)⟩
end
end DLC
namespace DLB
def mkN(p:Nat->Bool):Nat->Nat
 |0=>0
 |N+1=>mkN p N+(if p N=YP then 2 ^ N else 0)
theorem Ji(p:Nat->Bool):∀N,mkN p N<2 ^ N
 |0=>Nat.one_pos
 | N+1=>by
  have:=Ji p N;unfold mkN;rw[j6];split<;>lia
theorem mkN_bit(p:Nat->Bool)(i:Nat):∀N,(mkN p N).testBit i=(decide (i<N)&&p i)
 |0=>by unfold mkN;simp
 | N+1=>by
  have b:=mkN_bit p i N;have c:=Ji p N;unfold mkN;rcases Nat.lt_trichotomy i N with h|h|h
  ·have e:decide (i<N+1)=YP:=by simp;lia
   rw[decide_eq_true h] at b;rw[e];split
   ·rw[ma,Nat.testBit_two_pow_add_gt h];exact b
   ·exact b
  ·subst h;have z:=kJ c;by_cases a:p i=YP
   ·rw[Y2 a,ma,Nat.testBit_two_pow_add_eq,z,a];simp
   ·rw[Z5 a,mi,z];simp[a]
  ·have e:decide (i<N+1)=Y1:=by simp;lia
   rw[e,kN];have d:mkN p N+(if p N=YP then 2 ^ N else 0)<2 ^ (N+1):=Ji p (N+1);exact kJ (a9 d (cX 'u' h))
def orM{α:Type}(g:α->Nat)(l:List α):Nat:=l.foldl (λa t=>a ||| g t) 0
theorem NW{α:Type}(g:α->Nat)(i:Nat):∀(l:List α)(a:Nat),(l.foldl (λa t=>a ||| g t) a).testBit i=(a.testBit i||l.any λt=>(g t).testBit i)
 |[],a=>by simp
 |t::l,a=>by rw[eF,NW g i l,Nat.testBit_or,fQ,Bool.or_assoc]
def orM_bit{α:Type}(g:α->Nat)(l:List α)(i:Nat):(orM g l).testBit i=l.any λt=>(g t).testBit i:=by unfold orM;rw[NW,Nat.zero_testBit,jy]
def orM_app{α:Type}(g:α->Nat)(l:List α)(t:α):orM g (l++[t])=orM g l ||| g t:=by unfold orM;rw[ik];rfl
theorem sum_mkN(p:Nat->Bool):∀N,(((aL N).filter p).map λi=>((2 ^ i:Nat):Int)).sum=(mkN p N:Nat)
 |0=>rfl
 | N+1=>by
  rw[i0,f6,bT,nG,sum_mkN p N];have e:mkN p (N+1)=mkN p N+(if p N=YP then 2 ^ N else 0):=rfl;rw[e,cY,gM];by_cases h:p N=YP
  ·rw[Y2 h,Y2 h];simp
  ·rw[Z5 h,Z5 h];simp
noncomputable def Ss(r:List Nat):Nat:=match r.getLast? with
 |some k=>k+1
 |none=>0
def ext(many:Nat)(r:List Nat):List (List Nat):=(aL (many-Ss r)).map λi=>r++[Ss r+i]
end DLB
namespace DL
open PySem L2
def FK:List Str->Bool
 |[]=>YP
 |x::l=>!(l.contains x)&&FK l
theorem tS:∀{l:List Str},FK l=YP->l.Nodup
 |[],_=>ie
 | x::l,h=>by
  unfold FK at h;rw[aQ,eL] at h;refine bw.mpr ⟨λm=>?_,tS h.2⟩;rw[be.mpr m] at h;exact Bool.noConfusion h.1
noncomputable def Iv:Option dg->Bool
 |some .local=>YP
 |some .cell=>YP
 |_=>Y1
def X0(h:Iv o=YP):o=XV .local\/o=XV .cell:=by
 unfold Iv at h;split at h
 ·exact .inl rfl
 ·exact .inr rfl
 ·cases h
def kNf:dg->Bool
 |.free=>Y1
 |_=>YP
def Tn(N P:List Str)(sc:cO):Bool:=FK N&&(N.take P.length==P)&&P.all (λx=>Iv (sc.names.lookup x))&&sc.names.all (λy=>kNf y.2)
def fnS(f:sc.kind=.function)(g:sc.isCoroutine=Y1)(i:sc.isGenerator=Y1)(h:Tn N P sc=YP):qv N P sc:=by unfold Tn at h;simp only[aQ] at h;obtain⟨⟨⟨a,b⟩,c⟩,d⟩:=h;refine⟨f,g,i,tS a,eq_of_beq b,λx j=>X0 (ar.mp c x j),λy k e=>?_⟩;have:=ar.mp d y k;rw[e] at this;cases this
end DL
namespace DL
open PySem
noncomputable def pl:Nat->D->Bool
 |n,.non=>YP
 |n,.int _=>YP
 |n,.str cs=>cs.all (· < 1114112)
 |n+1,.lst ds=>ds.all (pl n)
 |n+1,.tup ds=>ds.all (pl n)
 |_,_=>Y1
theorem G2{α a:Type}{f:α->Option a}:∀{l:List α},(∀x∈l,∃y,f x=XV y)->∃m,qh f l=XV m
 |[],_=>⟨[],rfl⟩
 | x::l,h=>by
  obtain⟨y,b⟩:=h x al;obtain⟨m,c⟩:=G2 (l:=l) λz d=>h z (ai _ d);exact⟨y::m,by unfold qh;rw[b,c]⟩
def Gy(O:Ow):∀(n:Nat)(d:D),pl n d=YP->∃p,qz O n d=XV p:=by
 intro n
 induction n with
 | zero=>
  intro d h;cases d with
  |non=>exact⟨_,rfl⟩
  |int i=>exact⟨_,rfl⟩
  | str cs=>
   refine⟨.str ⟨cs.toArray⟩,?_⟩;show wR cs=_;unfold wR;rw[Y2 (by simpa [pl] using h)]
  |_=>simp[pl] at h
 | succ n ih=>
  intro d h;cases d with
  |non=>exact⟨_,rfl⟩
  |int i=>exact⟨_,rfl⟩
  | str cs=>
   refine⟨.str ⟨cs.toArray⟩,?_⟩;show wR cs=_;unfold wR;rw[Y2 (by simpa [pl] using h)]
  | lst ds=>
   have h:ds.all (pl n)=YP:=h;obtain⟨m,a⟩:=G2 (f:=qz O n) (l:=ds) λx b=>ih x (ar.mp h x b);exact⟨.list m,by show(qh (qz O n) ds).map ee=_;rw[a];rfl⟩
  | tup ds=>
   have h:ds.all (pl n)=YP:=h;obtain⟨m,a⟩:=G2 (f:=qz O n) (l:=ds) λx b=>ih x (ar.mp h x b);exact⟨.tuple m,by show(qh (qz O n) ds).map gU=_;rw[a];rfl⟩
  |_=>simp[pl] at h
theorem Rx{f:D->Option dQ}(R:∀x y p q,f x=XV p->f y=XV q->pl 0 x=pl 0 x->True){P:D->Prop}(d:∀x y p q,P x->P y->f x=XV p->f y=XV q->(bd p q=YP↔x=y)):
  ∀(xs a:List D)(ps b:List dQ),(∀x∈xs,P x)->(∀y∈a,P y)->qh f xs=XV ps->qh f a=XV b->(fv ps b=YP↔xs=a)
 |[],[],ps,b,_,_,e1,e2=>by cases e1;cases e2;simp[fv]
 | [],y::a,ps,b,_,_,e1,e2=>by
  cases e1;unfold qh at e2;split at e2
  ·cases e2;simp[fv]
  ·cases e2
 | x::xs,[],ps,b,_,_,e1,e2=>by
  cases e2;unfold qh at e1;split at e1
  ·cases e1;simp[fv]
  ·cases e1
 | x::xs,y::a,ps,b,h1,h2,e1,e2=>by
  unfold qh at e1 e2;split at e1
  ·rename_i p e h i;cases e1;split at e2
   ·rename_i q g j k;cases e2;have l:=d x y p q (h1 x al) (h2 y al) h j;have m:=Rx R d xs a e g (λz c=>h1 z (ai _ c)) (λz c=>h2 z (ai _ c)) i k;show(bd p q&&fv e g)=YP↔_;rw[aQ,l,m,nH]
   ·cases e2
  ·cases e1
def yr(h:wR cs=XV p):p=.str ⟨cs.toArray⟩:=by
 unfold wR at h;split at h
 ·cases h;rfl
 ·cases h
def Pm(a b:List Nat):bd (.str ⟨a.toArray⟩) (.str ⟨b.toArray⟩)=YP↔D.str a=D.str b:=by
 show((⟨a.toArray⟩:Str)==⟨b.toArray⟩)=YP↔_;rw[beq_iff_eq];constructor
 ·intro h;have h:a.toArray=b.toArray:=by injection h
  rw[show a=b by simpa using congrArg lV h]
 ·intro h;injection h with h;rw[h]
def N0(O:Ow):∀(n:Nat)(x y:D)(p q:dQ),pl n x=YP->pl n y=YP->qz O n x=XV p->qz O n y=XV q->(bd p q=YP↔x=y):=by
 intro n
 induction n with
 | zero=>
  intro x y p q v l m f;cases x with
  | non=>cases m;cases y with
   |non=>cases f;simp[bd]
   |int j=>cases f;simp[bd]
   |str b=>have:=yr f;subst this;simp[bd]
   |_=>simp[pl] at l
  | int i=>cases m;cases y with
   |non=>cases f;simp[bd]
   |int j=>cases f;simp[bd]
   |str b=>have:=yr f;subst this;simp[bd]
   |_=>simp[pl] at l
  | str a=>have:=yr m;subst this;cases y with
   |non=>cases f;simp[bd]
   |int j=>cases f;simp[bd]
   |str b=>have:=yr f;subst this;exact Pm a b
   |_=>simp[pl] at l
  |_=>simp[pl] at v
 | succ n ih=>
  have w:∀s k g r,(s.all (pl n))=YP->(k.all (pl n))=YP->qh (qz O n) s=XV g->qh (qz O n) k=XV r->(fv g r=YP↔s=k):=λs k g r z A m f=>
   Rx (λ_ _ _ _ _ _ _=>trivial) (P:=λd=>pl n d=YP) (λx y p q a b c d=>ih x y p q a b c d) s k g r (ar.mp z) (ar.mp A) m f
  have t:∀{o:List D}{p},qz O (n+1) (.lst o)=XV p->∃g,qh (qz O n) o=XV g/\p=.list g:=λ{o p}e=>by
   have e:(qh (qz O n) o).map ee=XV p:=e;cases h:qh (qz O n) o with
   |none=>rw[h] at e;cases e
   |some g=>rw[h] at e;cases e;exact⟨g,rfl,rfl⟩
  have u:∀{o:List D}{p},qz O (n+1) (.tup o)=XV p->∃g,qh (qz O n) o=XV g/\p=.tuple g:=λ{o p}e=>by
   have e:(qh (qz O n) o).map gU=XV p:=e;cases h:qh (qz O n) o with
   |none=>rw[h] at e;cases e
   |some g=>rw[h] at e;cases e;exact⟨g,rfl,rfl⟩
  intro x y p q v l m f;cases x with
  | non=>cases m;cases y with
   |non=>cases f;simp[bd]
   |int j=>cases f;simp[bd]
   |str b=>have:=yr f;subst this;simp[bd]
   |lst k=>obtain⟨_,_,rfl⟩:=t f;simp[bd]
   |tup k=>obtain⟨_,_,rfl⟩:=u f;simp[bd]
   |_=>simp[pl] at l
  | int i=>cases m;cases y with
   |non=>cases f;simp[bd]
   |int j=>cases f;simp[bd]
   |str b=>have:=yr f;subst this;simp[bd]
   |lst k=>obtain⟨_,_,rfl⟩:=t f;simp[bd]
   |tup k=>obtain⟨_,_,rfl⟩:=u f;simp[bd]
   |_=>simp[pl] at l
  | str a=>have:=yr m;subst this;cases y with
   |non=>cases f;simp[bd]
   |int j=>cases f;simp[bd]
   |str b=>have:=yr f;subst this;exact Pm a b
   |lst k=>obtain⟨_,_,rfl⟩:=t f;simp[bd]
   |tup k=>obtain⟨_,_,rfl⟩:=u f;simp[bd]
   |_=>simp[pl] at l
  | lst s=>obtain⟨g,z,rfl⟩:=t m;cases y with
   |non=>cases f;simp[bd]
   |int j=>cases f;simp[bd]
   |str b=>have:=yr f;subst this;simp[bd]
   | lst k=>
    obtain⟨r,A,rfl⟩:=t f;show fv g r=YP↔_;rw[w s k g r v l z A,D.lst.injEq]
   |tup k=>obtain⟨_,_,rfl⟩:=u f;simp[bd]
   |_=>simp[pl] at l
  | tup s=>obtain⟨g,z,rfl⟩:=u m;cases y with
   |non=>cases f;simp[bd]
   |int j=>cases f;simp[bd]
   |str b=>have:=yr f;subst this;simp[bd]
   |lst k=>obtain⟨_,_,rfl⟩:=t f;simp[bd]
   | tup k=>
    obtain⟨r,A,rfl⟩:=u f;show fv g r=YP↔_;rw[w s k g r v l z A,D.tup.injEq]
   |_=>simp[pl] at l
  |_=>simp[pl] at v
def F3(O:Ow)(a:pl 8 x=YP)(c:pl 8 y=YP)(f:b=YP↔x=y):qe rK O x y=.ok (.bl b) O/\qe rH O x y=.ok (.bl !b) O:=by obtain⟨p,d⟩:=Gy O 8 x a;obtain⟨q,e⟩:=Gy O 8 y c;have h:=N0 O 8 x y p q a c d e;have:bd p q=b:=dU.mpr (h.trans f.symm);unfold qe py;rw[d,e];subst this;exact⟨rfl,rfl⟩
theorem QD(a:pl n x=YP)(b:qz O n x=XV p):∀(l:List D)(ps:List dQ),(l.all (pl n))=YP->qh (qz O n) l=XV ps->((ps.any λy=>bd y p)=YP↔x∈l)
 |[],ps,_,e=>by cases e;simp
 | y::l,ps,h,e=>by
  unfold qh at e;split at e
  ·rename_i q c d f;cases e;rw[iA,aQ] at h;rw[fQ,dH,N0 O n y x q p h.1 a d b,QD a b l c h.2 f,am];exact⟨λz=>z.imp Eq.symm id,λz=>z.imp Eq.symm id⟩
  ·cases e
def zc3(O:Ow):∀(n:Nat)(d:D)(p:dQ),pl n d=YP->qz O n d=XV p->qz O (n+1) d=XV p:=by
 intro n
 induction n with
 |zero=>intro d p h e;cases d<;>first|exact e|(simp[pl] at h)
 | succ n ih=>
  have f:∀(a:List D)b,(a.all (pl n))=YP->qh (qz O n) a=XV b->qh (qz O (n+1)) a=XV b:=by
   intro a
   induction a with
   |nil=>intro b _ e;exact e
   | cons x a ihd=>
    intro b h e;rw[iA,aQ] at h;unfold qh at e ⊢;split at e
    ·rename_i q g j k;rw[ih x q h.1 j,ihd g h.2 k];exact e
    ·cases e
  intro d p h e;cases d with
  | lst a=>
   have e:(qh (qz O n) a).map ee=XV p:=e;show(qh (qz O (n+1)) a).map ee=XV p;cases c:qh (qz O n) a with
   |none=>rw[c] at e;cases e
   |some b=>rw[c] at e;rw[f a b h c];exact e
  | tup a=>
   have e:(qh (qz O n) a).map gU=XV p:=e;show(qh (qz O (n+1)) a).map gU=XV p;cases c:qh (qz O n) a with
   |none=>rw[c] at e;cases e
   |some b=>rw[c] at e;rw[f a b h c];exact e
  |non=>exact e
  |int i=>exact e
  |str cs=>exact e
  |_=>simp[pl] at h
def CZ(O:Ow){x y:D}{l:List D}(n:pl 7 x=YP)(o:l.all (pl 7)=YP)(a:tJ O y=XV l\/y=.tup l){b:Bool}(r:b=YP↔x∈l):rT O x y=.ok (.bl b) O/\r8 O x y=.ok (.bl !b) O:=by
 obtain⟨p,q⟩:=Gy O 7 x n;obtain⟨d,g⟩:=G2 (f:=qz O 7) (l:=l) λz s=>Gy O 7 z (ar.mp o z s);have h:=QD n q l d o g;have e:(d.any λz=>bd z p)=b:=dU.mpr (h.trans r.symm);have i:py O x=XV p:=zc3 O 7 x p n q;rcases a with a|rfl
 ·have c:py O y=XV (.list d):=by
   cases y with
   |lst ds=>cases a;show(qh (qz O 7) l).map ee=_;rw[g];rfl
   | own k=>
    have a:O[k]?=XV l:=a;show(match O[k]? with|some ds=>(qh (qz O 7) ds).map ee|none=>X9)=_;rw[a];dsimp only;rw[g];rfl
   |_=>cases a
  have j:qe zj O x y=.ok (.bl b) O:=by unfold qe;rw[i,c];subst e;rfl
  have m:qe BK O x y=.ok (.bl !b) O:=by unfold qe;rw[i,c];subst e;rfl
  cases y with
  |lst ds=>exact⟨j,m⟩
  |own k=>exact⟨j,m⟩
  |_=>cases a
 ·have c:py O (.tup l)=XV (.tuple d):=by show(qh (qz O 7) l).map gU=_;rw[g];rfl
  have j:qe zj O x (.tup l)=.ok (.bl b) O:=by unfold qe;rw[i,c];subst e;rfl
  have m:qe BK O x (.tup l)=.ok (.bl !b) O:=by unfold qe;rw[i,c];subst e;rfl
  exact⟨j,m⟩
def Ja(c:t σ O=.ok (.bl a) O)(d:a=Y1->u σ O=.ok (.bl b) O):By t u σ O=.ok (.bl (a||b)) O:=by
 show((t σ O).bnd _)=_;rw[c];cases a with
 |false=>exact d rfl
 |true=>rfl
def W5(c:t σ O=.ok a O)(d:a=Y1->u σ O=.ok b O):xv t u σ O=.ok (a||b) O:=by
 show((t σ O).bnd _)=_;rw[c];cases a with
 |false=>exact d rfl
 |true=>rfl
def I8(O:Ow)(a:x.all (pl 7)=YP)(c:y.all (pl 7)=YP)(d:b=YP↔x=y):qe rK O (.lst x) (.lst y)=.ok (.bl b) O/\qe rH O (.lst x) (.lst y)=.ok (.bl !b) O:=
 F3 O (x:=.lst x) (y:=.lst y) a c (d.trans (by rw[D.lst.injEq]))
def B6(n:Nat)(l:List Nat):(l.map λ(p:Nat)=>D.int (p:Int)).all (pl n)=YP:=ar.mpr λd a=>by
 obtain⟨p,_,rfl⟩:=aB.mp a;cases n<;>rfl
theorem J5:∀{a b:List Nat},(a.map λ(p:Nat)=>D.int (p:Int))=(b.map λ(p:Nat)=>D.int (p:Int))->a=b
 |[],[],_=>rfl
 |[],_::_,h=>by cases h
 |_::_,[],h=>by cases h
 | x::a,y::b,h=>by
  rw[bh,bh,nH] at h;have c:x=y:=by have:=h.1;injection this with this;lia
  rw[c,J5 h.2]
section
variable{σ:Sg}{O O1 O2:Ow}{t u:DE}{d a:DS}{x y:D}{r:RS}{i:Nat}{c:DT}{tA:DA}{ds:List D}
def sQ(h:t σ O=.ok x O1)(b:d (σ.set i (XV x)) O1=r):m_ (pZ i t) d σ O=r:=by rw[r_ (wk h)];exact b
def yU(h:a σ O=.nx σ' O1)(b:d σ' O1=r):m_ a d σ O=r:=by rw[r_ h];exact b
def yW(h:c σ O=.ok Y1 O1)(b:d σ O1=r):m_ (qM c a' qQ) d σ O=r:=by rw[r_ (σ':=σ) (O1:=O1) (by rw[vO h];rfl)];exact b
def Dc(h:c σ O=.ok YP O1)(b:a' σ O1=.rt x O2):m_ (qM c a' e) d σ O=.rt x O2:=Dk (by rw[vO h,Y2 rfl];exact b)
def u9(h:d σ O=.rt x O1):fin (d σ O)=.ok x O1:=by rw[h];rfl
def B5(h:t σ O=.ok x O1):fin (pU t σ O)=.ok x O1:=by rw[sv h];rfl
def q_(b:t σ O=.ok x O1)(e:u σ O1=.ok y O2)(g:f O2 x y=z):e_ f t u σ O=z:=by rw[qC b e];exact g
def tR(b:tA σ O=.ok ds O1)(e:f O1 ds=z):l_ f tA σ O=z:=by rw[uM b];exact e
def qX(b:tA σ O=.ok ds O1)(e:F ds O1=z)(f:ds.length=n:=by rfl):j_ n F tA σ O=z:=by rw[sI b f];exact e
end
end DL
set_option maxHeartbeats 400000
namespace K10
open PySem L2 DL
def top(i:Nat):er:=PySem.Challenge.pw_leastterms_k10_whole_sweeps_keep_the_lea.main.body.getD i (.Pass ⟨0,0,0,0⟩)
def wt:List (Int×Int):=[(2,1),(4,2),(8,3),(16,4)]
structure Txt(K:ah)(mg:Str->Option ae):Prop where
 d_is_whole:qK K mg "is_whole" (top 4)
 d_is_whole_within:qK K mg "is_whole_within" (top 5)
 d_is_answer:qK K mg "is_answer" (top 8)
 d_is_function:qK K mg "is_function" (top 9)
 d_need_function:qK K mg "need_function" (top 10)
 d_switches_of:qK K mg "switches_of" (top 11)
 d_points_with:qK K mg "points_with" (top 12)
 d_all_terms:qK K mg "all_terms" (top 15)
 d_bits_of:qK K mg "bits_of" (top 16)
 d_points_of:qK K mg "points_of" (top 17)
 d_with_sign:qK K mg "with_sign" (top 18)
 d_signs_in:qK K mg "signs_in" (top 19)
 d_terms_holding:qK K mg "terms_holding" (top 20)
 d_holds_no_nought:qK K mg "holds_no_nought" (top 22)
 d_holds_a_one:qK K mg "holds_a_one" (top 23)
 d_good_terms:qK K mg "good_terms" (top 24)
 d_can_widen_at:qK K mg "can_widen_at" (top 25)
 d_is_widest:qK K mg "is_widest" (top 26)
 d_greatest:qK K mg "greatest" (top 27)
 d_sole_holders:qK K mg "sole_holders" (top 29)
 d_terms_alone:qK K mg "terms_alone" (top 30)
 d_needed:qK K mg "needed" (top 31)
 d_makes_point_go:qK K mg "makes_point_go" (top 32)
 d_kept_points:qK K mg "kept_points" (top 33)
 d_makes_term_go:qK K mg "makes_term_go" (top 34)
 d_kept_terms:qK K mg "kept_terms" (top 35)
 d_sweep:qK K mg "sweep" (top 36)
 d_swept:qK K mg "swept" (top 37)
 d_signs_of:qK K mg "signs_of" (top 39)
 d_holders_in:qK K mg "holders_in" (top 40)
 d_covers:qK K mg "covers" (top 41)
 d_least_covers:qK K mg "least_covers" (top 42)
 d_held_points:qK K mg "held_points" (top 43)
 d_least_forms:qK K mg "least_forms" (top 44)
 d_least_form:qK K mg "least_form" (top 45)
 d__law_cell_at:qK K mg "_law_cell_at" (top 47)
 d__law_state:qK K mg "_law_state" (top 48)
 d__law_take:qK K mg "_law_take" (top 49)
 d__law_term:qK K mg "_law_term" (top 50)
 d__law_bits:qK K mg "_law_bits" (top 51)
 d__law_points:qK K mg "_law_points" (top 52)
 d__law_function:qK K mg "_law_function" (top 53)
 d__law_fewest:qK K mg "_law_fewest" (top 54)
 d_law:qK K mg "law" (top 55)
 b_all:mg "all" = X9
 b_any:mg "any" = X9
 b_bool:mg "bool" = X9
 b_dict:mg "dict" = X9
 b_enumerate:mg "enumerate" = X9
 b_int:mg "int" = X9
 b_isinstance:mg "isinstance" = X9
 b_len:mg "len" = X9
 b_max:mg "max" = X9
 b_min:mg "min" = X9
 b_range:mg "range" = X9
 b_sorted:mg "sorted" = X9
 b_str:mg "str" = X9
 b_sum:mg "sum" = X9
 b_tuple:mg "tuple" = X9
 c_SIGNS:Io mg "SIGNS" [45,48,49]
 z00:Ay K mg "SWITCHES_BY_POINTS" wt
section
variable{P:aM}{w:aV}{K:ah}{mg:Str->Option ae}{base:aX}
set_option hygiene false
local macro_rules|`(tactic| exists $t)=>`(tactic| with_reducible show PD _ _ _ $t)
local macro_rules|`(tactic| walk_at "u")=>`(tactic| first|exact λ_ _ _ _ _ _ us hl=>(match us,hl with|[_],_=>rfl)|exact λ_ _ _ _ _ _ us hl=>(match us,hl with|[_,_],_=>rfl)|exact λ_ _ _ _ _ _ us hl=>(match us,hl with|[_,_,_],_=>rfl)|exact λ_ _ _ _ _ _ us hl=>(match us,hl with|[],_=>rfl))
local macro_rules|`(tactic| walk_at "z")=>`(tactic| exact fnS rfl rfl rfl (by kernel_rfl))
local macro_rules|`(tactic| walk_at "v")=>`(tactic| first|exact .inl rfl|exact .inr (.inl rfl)|exact .inr (.inr rfl))
local macro_rules|`(tactic| walk_at "l")=>`(tactic| first|exact .inl rfl|exact .inr rfl)
local macro_rules|`(tactic| walk_at "le")=>`(tactic| first|decide|exact aD _|lia)
local macro_rules|`(tactic| walk_at "fx")=>`(tactic| first|refine VE h hr (by walk_at "le") rfl ?_<;>walk_at "a")
local macro_rules|`(tactic| walk_at "f")=>`(tactic| first|((exists (j_ _ Kn _));have h:=@z8X P w K mg base T;walk_at "fx")|((exists (j_ _ DZ _));have h:=@z68 P w K mg base T;walk_at "fx")|((exists (j_ _ Ab _));have h:=@z61 P w K mg base T;walk_at "fx")|((exists (j_ _ y0 _));have h:=@z7Q P w K mg base T;walk_at "fx")|((exists (j_ _ Kk _));have h:=@zb1 P w K mg base T;walk_at "fx")|((exists (j_ _ DW _));have h:=@z7R P w K mg base T;walk_at "fx")|((exists (j_ _ vP _));have h:=@z9N P w K mg base T;walk_at "fx")|((exists (j_ _ AX _));have h:=@z45 P w K mg base T;walk_at "fx")|((exists (j_ _ y_ _));have h:=@z7B P w K mg base T;walk_at "fx")|((exists (j_ _ D3 _));have h:=@z5a P w K mg base T;walk_at "fx")|((exists (j_ _ uC _));have h:=@z7Z P w K mg base T;walk_at "fx")|((exists (j_ _ AU _));have h:=@z7Y P w K mg base T;walk_at "fx")|((exists (j_ _ KL _));have h:=@z3G P w K mg base T;walk_at "fx")|((exists (j_ _ sH _));have h:=@z8l P w K mg base T;walk_at "fx")|((exists (j_ _ AY _));have h:=@z4C P w K mg base T;walk_at "fx")|((exists (j_ _ tI _));have h:=@z8Y P w K mg base T;walk_at "fx")|((exists (j_ _ D6 _));have h:=@z6D P w K mg base T;walk_at "fx")|((exists (j_ _ DV _));have h:=@z87 P w K mg base T;walk_at "fx")|((exists (j_ _ Co _));have h:=@z5U P w K mg base T;walk_at "fx")|((exists (j_ _ DU _));have h:=@z7P P w K mg base T;walk_at "fx")|((exists (j_ _ xf _));have h:=@z4x P w K mg base T;walk_at "fx")|((exists (j_ _ Aa _));have h:=@z3u P w K mg base T;walk_at "fx")|((exists (j_ _ D0 _));have h:=@z5M P w K mg base T;walk_at "fx")|((exists (j_ _ Cm _));have h:=@z76 P w K mg base T;walk_at "fx")|((exists (j_ _ D9 _));have h:=@z4y P w K mg base T;walk_at "fx")|((exists (j_ _ D1 _));have h:=@z63 P w K mg base T;walk_at "fx")|((exists (j_ _ DY _));have h:=@z60 P w K mg base T;walk_at "fx")|((exists (j_ _ D4 _));have h:=@z5e P w K mg base T;walk_at "fx")|((exists (j_ _ D2 _));have h:=@z5t P w K mg base T;walk_at "fx")|((exists (j_ _ Hn _));have h:=@z5H P w K mg base T;walk_at "fx")|((exists (j_ _ Cp _));have h:=@z4q P w K mg base T;walk_at "fx")|((exists (j_ _ D5 _));have h:=@z8p P w K mg base T;walk_at "fx")|((exists (j_ _ DX _));have h:=@z5R P w K mg base T;walk_at "fx")|((exists (j_ _ D8 _));have h:=@z6X P w K mg base T;walk_at "fx")|((exists (j_ _ B7 _));have h:=@Zv P w K mg base T;walk_at "fx")|((exists (j_ _ yt _));have h:=@z96 P w K mg base T;walk_at "fx")|((exists (j_ _ Dz _));have h:=@zck P w K mg base T;walk_at "fx")|((exists (j_ _ Du _));have h:=@zfK P w K mg base T;walk_at "fx")|((exists (j_ _ Hs _));have h:=@z5K P w K mg base T;walk_at "fx")|((exists (j_ _ _ _));have h:=c_self;walk_at "fx"))
local macro_rules|`(tactic| walk_at "k")=>`(tactic| first|exact WC|exact VQ _ rfl|exact WB|exact Ur)
local macro_rules|`(tactic| walk_at "n")=>`(tactic| first|exact Ym T.c_SIGNS)
local macro_rules|`(tactic| walk_at "o")=>`(tactic| first|((exists (e_ sh _ _));refine VW ?_ ?_<;>walk_at "e")|((exists (e_ p9 _ _));exact Vd '1' '1' (λ_ _=>rfl))|((exists (e_ tj _ _));refine Ye ?_ ?_<;>walk_at "e")|((exists (e_ (fI xy) _ _));refine yj WR Ys ?_ ?_<;>walk_at "e")|((exists (e_ (fI uJ) _ _));refine yj WM Yx ?_ ?_<;>walk_at "e")|((exists (e_ (fI wa) _ _));refine yj YF XE ?_ ?_<;>walk_at "e")|((exists (e_ (fI tO) _ _));refine yj WN XM ?_ ?_<;>walk_at "e")|((exists (e_ (fI xr) _ _));refine yj VN XA ?_ ?_<;>walk_at "e")|((exists (e_ (fI s_) _ _));refine yj VU Xq ?_ ?_<;>walk_at "e")|((exists (e_ (fI BC) _ _));refine yj WS X3 ?_ ?_<;>walk_at "e")|((exists (e_ (fI Fq) _ _));refine yj Vh Vp ?_ ?_<;>walk_at "e")|((exists (e_ wJ _ _));exact yT ID IZ '1' '1' (wg _))|((exists (e_ Ft _ _));exact yT Nu N5 '1' '1' (wg _))|((exists (e_ Bu _ _));exact yT Nc NM '1' '1' (wg _))|((exists (e_ (qe rK) _ _));exact yT (Ph hr.units) BY '1' '1' (wg _))|((exists (e_ (qe rH) _ _));exact yT (Pu hr.units) BY '1' '1' (wg _))|((exists (e_ rT _ _));exact yT (NR hr.units) NP '1' '1' rfl)|((exists (e_ r8 _ _));exact yT (Pz hr.units) Py '1' '1' rfl)|((exists (e_ Iu _ _));exact yT Ws WV '1' '1' (wg _))|((exists (e_ ye _ _));exact yT Og OV '1' '1' (wg _))|((exists (yV true wt _));refine zdH T.z00 rfl ?_<;>walk_at "e")|((exists (Jd Fs Fs _ _ _));refine ZG Nz NY Nz NY ?_ ?_ ?_<;>walk_at "e"))
local macro_rules|`(tactic| walk_at "c")=>`(tactic| first|((exists (l_ qt _));refine xH zeD Wa rfl T.b_len Vt ?_<;>walk_at "a")|((exists (l_ yI _));refine xH (zee rfl) V0 rfl T.b_all VY ?_<;>walk_at "a")|((exists (l_ wV _));refine xH (zcH rfl) Wc rfl T.b_any Wd ?_<;>walk_at "a")|((exists (l_ yL _));refine xH (zeq rfl) Wr rfl T.b_sum Wk ?_<;>walk_at "a")|((exists (l_ AL _));refine xH (zc4 rfl) YC rfl T.b_max V9 ?_<;>walk_at "a")|((exists (l_ AJ _));refine xH (zcU rfl) W0 rfl T.b_min Gn ?_<;>walk_at "a")|((exists (l_ C3 _));refine xH (zdz rfl) Yl rfl T.b_min Gn ?_<;>walk_at "a")|((exists (l_ AH _));refine xH zdU YV rfl T.b_sorted Cj ?_<;>walk_at "a")|((exists (l_ AK _));refine Kb zcO YB rfl T.b_int N4 ?_<;>walk_at "a")|((exists (l_ tY _));refine Kb z7m zf8 rfl T.b_tuple QJ ?_<;>walk_at "a")|((exists (l_ F6 _));refine Kb z8L Y5 rfl T.b_str Vj ?_<;>walk_at "a")|((exists (yP "bool" _));exact Jf '1' (by decide) rfl T.b_isinstance Kz rfl T.b_bool Y4)|((exists (yP "int" _));exact Jf '1' (by decide) rfl T.b_isinstance Kz rfl T.b_int N4)|((exists (yP "tuple" _));exact Jf '1' (by decide) rfl T.b_isinstance Kz rfl T.b_tuple QJ)|((exists (AB _ _ _ _ _ _ _));first|exact JY x0 _ rfl rfl T.b_sorted Cj (uB (by kernel_rfl)) '6' (λ_ _ _ _ _=>⟨'5','7','8','1'⟩)|exact JY x1 _ rfl rfl T.b_sorted Cj (uB (by kernel_rfl)) '6' (λ_ _ _ _ _=>⟨'5','7','8','1'⟩)|exact JY x2 _ rfl rfl T.b_sorted Cj (uB (by kernel_rfl)) '6' (λ_ _ _ _ _=>⟨'5','7','8','1'⟩))|((exists (tN _ _ _ (Ce _) _));refine BZ (zcy T hT L) hr (by walk_at "le") rfl ?_<;>walk_at "a")|((exists (tN _ _ _ (Hu _) _));refine BZ (z5f T hT L) hr (by walk_at "le") rfl ?_<;>walk_at "a")|((exists (tN _ _ _ (Hq _) _));refine BZ (z5G T hT L) hr (by walk_at "le") rfl ?_<;>walk_at "a")|((exists (tN _ _ _ (D7 _) _));refine BZ (z6U T hT L) hr (by walk_at "le") rfl ?_<;>walk_at "a")|((exists (tN _ _ _ F _));refine BZ c_self hr (by walk_at "le") rfl ?_<;>walk_at "a")|((exists (tN _ _ _ _ _));refine BZ c_self hr (by walk_at "le") rfl ?_<;>walk_at "a")|((exists (BO _ _ _ _));exact zeY (k:=2) (hr.mono (by lia)) rfl L rfl (by kernel_rfl) rfl (λ_ _ _ _ _ _ _=>rfl) (tS (by kernel_rfl)) '1' (λq lam cd cl A outer s H hr=>'1') rfl T.b_min)|((exists (l_ CY _));refine xH (zcQ rfl hr.units) YD rfl T.b_min Gn ?_<;>walk_at "a")|((exists (l_ C5 _));refine xH zcb XJ rfl T.b_sorted Cj ?_<;>walk_at "a")|((exists (l_ AI _));refine xH zdJ W4 rfl T.b_sorted Cj ?_<;>walk_at "a"))
local macro_rules|`(tactic| walk_at "so")=>`(tactic| first|((with_reducible show BB _ _ _ Ge);exact Zz)|refine Z8 ?_<;>walk_at "e")
local macro_rules|`(tactic| walk_at "m")=>`(tactic| first|((exists (zQ _ _));exact zbN '1' (by walk_at "a"))|((exists (zR _ _));exact zcN '1' (by walk_at "a"))|((exists (sG _ _));exact YI '1' '1' (λ_ _=>rfl))|((exists (w_ _ _ _ _ _ _ _));first|exact Kj x0 rfl (uB (by kernel_rfl)) '6' (λ_ _ _ _ _=>⟨'5','7','8','1','1'⟩)|exact Kj x1 rfl (uB (by kernel_rfl)) '6' (λ_ _ _ _ _=>⟨'5','7','8','1','1'⟩)|exact Kj x2 rfl (uB (by kernel_rfl)) '6' (λ_ _ _ _ _=>⟨'5','7','8','1','1'⟩))|((exists (Gc _ _));exact Zc '1' (by walk_at "a"))|((exists (Ms IA _ _));exact U0 PySem.F.slot_str_count PySem.F.type_str_count ZS VA '1' (by walk_at "a"))|((exists (H8 _ _ _));exact U1 '1' (by walk_at "so") (by walk_at "so"))|((exists (CO wt _));exact YN T.z00 rfl '1' (λ_ _=>rfl)))
local macro_rules|`(tactic| walk_at "e1")=>`(tactic| first|((exists (a_ _));refine Wi rfl ?_<;>walk_at "v")|((exists (dC _));first|walk_at "k"|walk_at "n")|((exists (e_ _ _ _));walk_at "o")|((exists (j_ _ _ _));walk_at "f")|((exists (qO _));refine Wn ?_<;>walk_at "a")|((exists (qR _));refine VJ ?_<;>walk_at "a")|((exists (pV _ _ _ _ _ _ _));first|exact J0 x0 _ rfl (uB (by kernel_rfl)) '6' (λ_ _ _ _ _=>⟨'5','7','8','1'⟩)|exact J0 x1 _ rfl (uB (by kernel_rfl)) '6' (λ_ _ _ _ _=>⟨'5','7','8','1'⟩)|exact J0 x2 _ rfl (uB (by kernel_rfl)) '6' (λ_ _ _ _ _=>⟨'5','7','8','1'⟩))|((exists (l_ _ _));walk_at "c")|((exists (wY _));refine XQ ?_<;>walk_at "a")|((exists (BD _ _));refine WK ?_ ?_<;>walk_at "e")|((exists (By _ _));refine Ve ?_ ?_<;>walk_at "e")|((exists (CM _));refine Wl ?_<;>walk_at "e")|walk_at "c"|walk_at "m"|walk_at "o")
local macro_rules|`(tactic| walk_at "e")=>`(tactic| first|(show PD _ _ (.BoolOp _ [_] _) _;refine Wy ?_<;>walk_at "e1")|walk_at "e1")
local macro_rules|`(tactic| walk_at "a")=>`(tactic| first|((with_reducible show uc _ _ _ c_);exact YE)|exact Zx '1' (by walk_at "a"))
local macro_rules|`(tactic| walk_at "t")=>`(tactic| first|((with_reducible show qZ _ _ _ (pQ (e_ wJ _ _)));exact zX ID IZ '1' '1' (wg _))|((with_reducible show qZ _ _ _ (pQ (e_ Ft _ _)));exact zX Nu N5 '1' '1' (wg _))|((with_reducible show qZ _ _ _ (pQ (e_ Bu _ _)));exact zX Nc NM '1' '1' (wg _))|((with_reducible show qZ _ _ _ (pQ (e_ (qe rK) _ _)));exact zX (Ph hr.units) BY '1' '1' (wg _))|((with_reducible show qZ _ _ _ (pQ (e_ (qe rH) _ _)));exact zX (Pu hr.units) BY '1' '1' (wg _))|((with_reducible show qZ _ _ _ (pQ (e_ rT _ _)));exact zX (NR hr.units) NP '1' '1' rfl)|((with_reducible show qZ _ _ _ (pQ (e_ r8 _ _)));exact zX (Pz hr.units) Py '1' '1' rfl)|((with_reducible show qZ _ _ _ (pQ (e_ ye _ _)));exact zX Og OV '1' '1' (wg _))|((with_reducible show qZ _ _ _ (pQ (yV true wt _)));refine zbd T.z00 rfl ?_<;>walk_at "e")|(show qZ _ _ (.BoolOp _ _ _) _;refine v7.pt ?_<;>walk_at "w")|((with_reducible show qZ _ _ _ (tG _));refine X_ ?_<;>walk_at "t")|((with_reducible show qZ _ _ _ (qP _));exact Xz '1' (λ_=>rfl)))
local macro_rules|`(tactic| walk_at "w")=>`(tactic| first|(show v7 _ _ (.BoolOp .And [_] _) _;refine zeC ?_<;>walk_at "t")|(show v7 _ _ (.BoolOp .Or [_] _) _;refine Y9 ?_<;>walk_at "t")|((with_reducible show v7 _ _ _ (C1 _ _));exact YR (by walk_at "t") (by walk_at "w"))|((with_reducible show v7 _ _ _ (xv _ _));exact Vo (by walk_at "t") (by walk_at "w")))
local macro_rules|`(tactic| walk_at "i")=>`(tactic| first|((with_reducible show sZ _ _ _ _ (rU _));refine zb6 rfl T.b_range ?_<;>walk_at "a")|((with_reducible show sZ _ _ _ _ (Gk _));refine zca rfl T.b_enumerate ?_<;>walk_at "a")|((with_reducible show sZ _ _ _ _ (FN _));refine zf7 ?_<;>walk_at "e")|refine W8 ?_<;>walk_at "e")
local macro_rules|`(tactic| walk_at "g")=>`(tactic| first|((with_reducible show PG _ _ (CL _ 3 _));refine ZJ rfl (tS (by kernel_rfl)) rfl rfl rfl ?_ ?_ ?_ ?_ ?_ ?_<;>walk_at "l")|(show PG _ (.Name _ _) _;refine WT (tS (by kernel_rfl)) rfl ?_ ?_<;>walk_at "l")|(show PG _ (.Tuple [_,_] _ _) _;refine Wo rfl (tS (by kernel_rfl)) rfl rfl ?_ ?_ ?_ ?_<;>walk_at "l"))
local macro_rules|`(tactic| walk_at "fs")=>`(tactic| first|exact .nil|exact .cons (by walk_at "t") '7')
local macro_rules|`(tactic| walk_at "cs")=>`(tactic| first|exact .nil|(refine oO.cons ?_ (λ_=>rfl) ?_ ?_ ?_;(dsimp only;walk_at "i");(dsimp only;walk_at "g");(dsimp only;walk_at "fs");walk_at "cs"))
local macro_rules|`(tactic| walk_at "s")=>`(tactic| first|((with_reducible show rM _ _ _ (pU _));refine Zf ?_<;>walk_at "e")|((with_reducible show rM _ _ _ (qM _ _ _));exact Xe (by walk_at "t") (by walk_at "ss") (by walk_at "ss"))|(show rM _ _ (.Assign [.Name _ _] (.ListComp _ _ _ _) _) _;first|exact KD x0 _ rfl (tS (by kernel_rfl)) rfl rfl (uB (by kernel_rfl)) '6' (λ_ _ _ _ _=>⟨'5','7','8','1'⟩) rfl|exact KD x1 _ rfl (tS (by kernel_rfl)) rfl rfl (uB (by kernel_rfl)) '6' (λ_ _ _ _ _=>⟨'5','7','8','1'⟩) rfl|exact KD x2 _ rfl (tS (by kernel_rfl)) rfl rfl (uB (by kernel_rfl)) '6' (λ_ _ _ _ _=>⟨'5','7','8','1'⟩) rfl|exact Jr (tS (by kernel_rfl)) rfl (by walk_at "l") '1')|(show rM _ _ (.Assign [.Name _ _] (.DictComp _ _ _ _ _) _) _;first|exact KG x0 rfl (tS (by kernel_rfl)) rfl rfl (uB (by kernel_rfl)) '6' (λ_ _ _ _ _=>⟨'5','7','8','1','1'⟩) rfl|exact KG x1 rfl (tS (by kernel_rfl)) rfl rfl (uB (by kernel_rfl)) '6' (λ_ _ _ _ _=>⟨'5','7','8','1','1'⟩) rfl|exact KG x2 rfl (tS (by kernel_rfl)) rfl rfl (uB (by kernel_rfl)) '6' (λ_ _ _ _ _=>⟨'5','7','8','1','1'⟩) rfl|exact Jr (tS (by kernel_rfl)) rfl (by walk_at "l") '1')|((with_reducible show rM _ _ _ (pZ _ _));exact Jr (tS (by kernel_rfl)) rfl (by walk_at "l") '1')|((with_reducible show rM _ _ _ (vM _ _ _));exact XC kz rfl '6' '5' (by walk_at "ss"))|((with_reducible show rM _ _ _ (uL _));refine Z3 ?_<;>walk_at "e")|((with_reducible show rM _ _ _ (xw _ _ _));refine Yd ?_ ?_ ?_<;>walk_at "e")|((with_reducible show rM _ _ _ (FI _ _ _));exact XB rfl (tS (by kernel_rfl)) rfl rfl (by decide) rfl rfl (by walk_at "a") rfl)|((with_reducible show rM _ _ _ (Az _ _));exact YH '1' '5')|((with_reducible show rM _ _ _ (yi _ _ _ _));exact zfH '1' '5')|((with_reducible show rM _ _ _ (CS _ _));exact YL (tS (by kernel_rfl)) rfl (by walk_at "l") '1')|((with_reducible show rM _ _ _ (C9 _ _ _));exact zbL _ kz (by walk_at "t") (by walk_at "ss"))|((with_reducible show rM _ _ _ qQ);exact ZQ))
local macro_rules|`(tactic| walk_at "sl")=>`(tactic| first|first|exact Kw x0 _ rfl (tS (by kernel_rfl)) rfl rfl (uB (by kernel_rfl)) '6' (λ_ _ _ _ _=>⟨'5','7','8','1'⟩) rfl|exact Kw x1 _ rfl (tS (by kernel_rfl)) rfl rfl (uB (by kernel_rfl)) '6' (λ_ _ _ _ _=>⟨'5','7','8','1'⟩) rfl|exact Kw x2 _ rfl (tS (by kernel_rfl)) rfl rfl (uB (by kernel_rfl)) '6' (λ_ _ _ _ _=>⟨'5','7','8','1'⟩) rfl)
local macro_rules|`(tactic| walk_at "rs")=>`(tactic| first|(refine zbR kz rfl (λte he=>N8 (tS (by kernel_rfl)) rfl ?_ (Q4 zbi rfl T.b_dict XF (Dj he Gi))) ?_ ?_ ?_ (IT rfl ?_) (IT rfl ?_) ?_ ?_ rfl ?_ (by decide) (by decide) (li rfl) (li rfl);(walk_at "l");(walk_at "e");(walk_at "i");(walk_at "g");(walk_at "v");(walk_at "v");(walk_at "sl");(walk_at "e");(walk_at "ss")))
local macro_rules|`(tactic| walk_at "ss")=>`(tactic| first|((with_reducible show tF _ _ _ (CT _ _ _ _ _ _ _ _));walk_at "rs")|((with_reducible show tF _ _ _ qQ);exact Zn)|((with_reducible show tF _ _ _ F1);exact Qe)|((with_reducible show tF _ _ _ (m_ _ _));exact qF '2' (by walk_at "ss"))|refine qS ?_<;>walk_at "s")
def Rt:DS:=
 (pU (BD (yP "int" (a_ 0)) (CM (yP "bool" (a_ 0)))))
def Kn:List D->Ow->R D:=(qT 1 Rt)
def z9J:qv ["thing"] ["thing"] (qg (top 4)):='3'
def z8X(T:Txt K mg):Callee P w K mg base "is_whole" 1 1 Kn:=
 Callee.self (rj (k:=0) T.d_is_whole z9J '4' λf pP A outer s H E hr=>
  ((qS (by delta Rt;walk_at "s"))))
def RZ:DS:=
 (pU (CO wt (l_ qt (b_ (a_ 0) c_))))
def DZ:List D->Ow->R D:=(qT 1 RZ)
def z5P:qv ["function"] ["function"] (qg (top 11)):='3'
def z68(T:Txt K mg):Callee P w K mg base "switches_of" 1 1 DZ:=
 Callee.self (rj (k:=0) T.d_switches_of z5P '4' λf pP A outer s H E hr=>
  ((qS (by delta RZ;walk_at "s"))))
def RV:DS:=
 (pU (pV Y1 2 (Gk (b_ (a_ 0) c_)) (.two 2 3) [(pQ (e_ (qe rK) (a_ 3) (a_ 1)))] [] (a_ 2)))
def Ab:List D->Ow->R D:=(qT 2 RV)
def z5N:qv ["function", "answer"] ["function", "answer"] (qg (top 12)):='3'
def z61(T:Txt K mg):Callee P w K mg base "points_with" 1 2 Ab:=
 Callee.self (rj (k:=0) T.d_points_with z5N '4' λf pP A outer s H E hr=>
  (have x0:Nx ["point", "told"]:=⟨⟩;(qS (by delta RV;walk_at "s"))))
def z9r:DS:=
 (m_ (pZ 1 (qO (b_ (dC (.str [])) c_))) (m_ (vM (rU (b_ (a_ 0) c_)) (.one 2) (pZ 1 (pV Y1 2 (pR (a_ 1)) (.one 3) [] (⟨(pR (dC (.str [45,48,49]))),(.one 4),[]⟩::[]) (e_ sh (a_ 3) (a_ 4))))) (pU (a_ 1))))
def y0:List D->Ow->R D:=(qT 3 z9r)
def z7N:qv ["n", "terms", "switch"] ["n"] (qg (top 15)):='3'
def z7Q(T:Txt K mg):Callee P w K mg base "all_terms" 1 1 y0:=
 Callee.self (rj (k:=0) T.d_all_terms z7N '4' λf pP A outer s H E hr=>
  (have x0:Nx ["term", "sign"]:=⟨⟩;(qF '2' (qF '2' (qS '2')))))
def zdx:DS:=
 (m_ (qM (pQ (e_ (qe rK) (a_ 0) (dC (.str [45])))) (pU (qO (b_ (dC (.int 0)) (b_ (dC (.int 1)) c_)))) qQ) (pU (qO (b_ (l_ AK (b_ (a_ 0) c_)) c_))))
def Kk:List D->Ow->R D:=(qT 1 zdx)
def zaZ:qv ["sign"] ["sign"] (qg (top 16)):='3'
def zb1(T:Txt K mg):Callee P w K mg base "bits_of" 1 1 Kk:=
 Callee.self (rj (k:=0) T.d_bits_of zaZ '4' λf pP A outer s H E hr=>
  ((qF '2' (qS '2'))))
def RD:DS:=
 (pU (e_ sh (e_ sh (H8 (a_ 0) Ge (IH (a_ 1))) (a_ 2)) (H8 (a_ 0) (IH (e_ sh (a_ 1) (dC (.int 1)))) Ge)))
def DW:List D->Ow->R D:=(qT 3 RD)
def z8m:qv ["term", "switch", "sign"] ["term", "switch", "sign"] (qg (top 18)):='3'
def z7R(T:Txt K mg):Callee P w K mg base "with_sign" 1 3 DW:=
 Callee.self (rj (k:=0) T.d_with_sign z8m '4' λf pP A outer s H E hr=>
  ((qS (by delta RD;walk_at "s"))))
def RA:DS:=
 (pU (e_ (fI xy) (l_ qt (b_ (a_ 0) c_)) (Ms IA (a_ 0) (b_ (dC (.str [45])) c_))))
def vP:List D->Ow->R D:=(qT 1 RA)
def z9b:qv ["term"] ["term"] (qg (top 19)):='3'
def z9N(T:Txt K mg):Callee P w K mg base "signs_in" 1 1 vP:=
 Callee.self (rj (k:=0) T.d_signs_in z9b '4' λf pP A outer s H E hr=>
  ((qS (by delta RA;walk_at "s"))))
def KJ:DS:=
 (m_ (qM (tG (qP (l_ yI (b_ (pV Y1 1 (pR (sG (a_ 2) (a_ 0))) (.one 3) [] [] (e_ rT (a_ 3) (sG (a_ 2) (a_ 1)))) c_)))) (pU (dC (.bl Y1))) qQ) (pU (By (e_ (qe rH) (sG (a_ 2) (a_ 0)) (sG (a_ 2) (a_ 1))) (e_ wJ (a_ 0) (a_ 1)))))
def AX:List D->Ow->R D:=(qT 3 KJ)
def z42:qv ["other", "point", "holders"] ["other", "point", "holders"] (qg (top 32)):='3'
def z45(T:Txt K mg):Callee P w K mg base "makes_point_go" 1 3 AX:=
 Callee.self (rj (k:=0) T.d_makes_point_go z42 '4' λf pP A outer s H E hr=>
  (have x0:Nx ["term"]:=⟨⟩;(qF '2' (qS '2'))))
def Hd:DS:=
 (pU (pV Y1 1 (FN (a_ 0)) (.one 2) [(pQ (e_ rT (a_ 1) (sG (a_ 0) (a_ 2))))] [] (a_ 2)))
def y_:List D->Ow->R D:=(qT 2 Hd)
def z7D:qv ["held", "one"] ["held", "one"] (qg (top 40)):='3'
def z7B(T:Txt K mg):Callee P w K mg base "holders_in" 1 2 y_:=
 Callee.self (rj (k:=0) T.d_holders_in z7D '4' λf pP A outer s H E hr=>
  (have x0:Nx ["term"]:=⟨⟩;(qS (by delta Hd;walk_at "s"))))
def z5Z:DS:=
 (m_ (qM (pQ (e_ wJ (a_ 1) (l_ qt (b_ (a_ 0) c_)))) (pU (e_ p9 (a_ 0) (a_ 1))) qQ) (pU (dC (.int 0))))
def D3:List D->Ow->R D:=(qT 2 z5Z)
def z4S:qv ["_law_script", "_law_k"] ["_law_script", "_law_k"] (qg (top 47)):='3'
def z5a(T:Txt K mg):Callee P w K mg base "_law_cell_at" 1 2 D3:=
 Callee.self (rj (k:=0) T.d__law_cell_at z4S '4' λf pP A outer s H E hr=>
  ((qF '2' (qS '2'))))
def z9f:DS:=
 (m_ (qM (qP (e_ p9 (a_ 0) (dC (.int 1)))) (m_ (pZ 2 (e_ (fI tO) (e_ p9 (a_ 0) (dC (.int 0))) (a_ 1))) (m_ (xw (e_ (fI wa) (e_ p9 (a_ 0) (dC (.int 0))) (a_ 1)) (a_ 0) (dC (.int 0))) (pU (a_ 2)))) qQ) (m_ (xw (e_ (fI tO) (e_ sh (e_ (fI uJ) (e_ p9 (a_ 0) (dC (.int 0))) (dC (.int 48271))) (dC (.int 29))) (dC (.int 2147483647))) (a_ 0) (dC (.int 0))) (m_ (pZ 3 (e_ (fI tO) (e_ sh (e_ sh (e_ (fI uJ) (e_ p9 (a_ 0) (dC (.int 0))) (e_ p9 (a_ 0) (dC (.int 0)))) (e_ (fI uJ) (dC (.int 39373)) (e_ p9 (a_ 0) (dC (.int 0))))) (dC (.int 7))) (dC (.int 2147483629)))) (m_ (pZ 3 (e_ (fI tO) (e_ sh (e_ (fI uJ) (a_ 3) (a_ 3)) (e_ (fI uJ) (dC (.int 16807)) (a_ 3))) (dC (.int 2147483587)))) (pU (e_ (fI tO) (e_ (fI wa) (a_ 3) (dC (.int 8))) (a_ 1)))))))
def uC:List D->Ow->R D:=(qT 4 z9f)
def z83:qv ["_law_state_here", "_law_many", "_law_found", "_law_stirred"] ["_law_state_here", "_law_many"] (qg (top 49)):='3'
def z7Z(T:Txt K mg):Callee P w K mg base "_law_take" 1 2 uC:=
 Callee.self (rj (k:=0) T.d__law_take z83 '4' λf pP A outer s H E hr=>
  ((qF '2' (qF '2' (qF '2' (qF '2' (qS '2')))))))
def z9j:DS:=
 (m_ (pZ 2 (dC (.str []))) (m_ (vM (rU (b_ (a_ 0) c_)) (.one 3) (m_ (pZ 2 (e_ sh (l_ F6 (b_ (e_ (fI tO) (a_ 1) (dC (.int 2))) c_)) (a_ 2))) (pZ 1 (e_ (fI wa) (a_ 1) (dC (.int 2)))))) (pU (a_ 2))))
def AU:List D->Ow->R D:=(qT 4 z9j)
def z7T:qv ["_law_n", "_law_point", "_law_found", "_law_k"] ["_law_n", "_law_point"] (qg (top 51)):='3'
def z7Y(T:Txt K mg):Callee P w K mg base "_law_bits" 1 2 AU:=
 Callee.self (rj (k:=0) T.d__law_bits z7T '4' λf pP A outer s H E hr=>
  ((qF '2' (qF '2' (qS '2')))))
def R4:DS:=
 (pU (BD (j_ 1 Kn (b_ (a_ 0) c_)) (Jd Fs Fs (a_ 1) (a_ 0) (a_ 2))))
def KL:List D->Ow->R D:=(qT 3 R4)
def z3s:qv ["thing", "least", "most"] ["thing", "least", "most"] (qg (top 5)):='3'
def z3G(T:Txt K mg):Callee P w K mg base "is_whole_within" 2 3 KL:=
 Callee.self (rj (k:=1) T.d_is_whole_within z3s '4' λf pP A outer s H E hr=>
  ((qS (by delta R4;walk_at "s"))))
def z8V:DS:=
 (m_ (pZ 1 (qO (b_ (dC (.int 0)) c_))) (m_ (vM (pR (a_ 0)) (.one 2) (pZ 1 (pV Y1 2 (pR (a_ 1)) (.one 3) [] (⟨(pR (j_ 1 Kk (b_ (a_ 2) c_))),(.one 4),[]⟩::[]) (e_ sh (e_ (fI uJ) (dC (.int 2)) (a_ 3)) (a_ 4))))) (pU (a_ 1))))
def sH:List D->Ow->R D:=(qT 3 z8V)
def z8d:qv ["term", "points", "sign"] ["term"] (qg (top 17)):='3'
def z8l(T:Txt K mg):Callee P w K mg base "points_of" 2 1 sH:=
 Callee.self (rj (k:=1) T.d_points_of z8d '4' λf pP A outer s H E hr=>
  (have x0:Nx ["point", "bit"]:=⟨⟩;(qF '2' (qF '2' (qS '2')))))
def KI:DS:=
 (m_ (qM (xv (pQ (e_ Ft (j_ 1 vP (b_ (a_ 0) c_)) (j_ 1 vP (b_ (a_ 1) c_)))) (tG (qP (l_ yI (b_ (pV Y1 1 (pR (sG (a_ 2) (a_ 1))) (.one 3) [] [] (e_ rT (a_ 3) (sG (a_ 2) (a_ 0)))) c_))))) (pU (dC (.bl Y1))) qQ) (pU (By (e_ (qe rH) (sG (a_ 2) (a_ 0)) (sG (a_ 2) (a_ 1))) (By (e_ ye (j_ 1 vP (b_ (a_ 0) c_)) (j_ 1 vP (b_ (a_ 1) c_))) (e_ ye (a_ 0) (a_ 1))))))
def AY:List D->Ow->R D:=(qT 3 KI)
def z4t:qv ["other", "term", "held"] ["other", "term", "held"] (qg (top 34)):='3'
def z4C(T:Txt K mg):Callee P w K mg base "makes_term_go" 2 3 AY:=
 Callee.self (rj (k:=1) T.d_makes_term_go z4t '4' λf pP A outer s H E hr=>
  (have x0:Nx ["point"]:=⟨⟩;(qF '2' (qS '2'))))
def G9:DS:=
 (pU (l_ yL (b_ (pV Y1 1 (pR (a_ 0)) (.one 1) [] [] (j_ 1 vP (b_ (a_ 1) c_))) c_)))
def tI:List D->Ow->R D:=(qT 1 G9)
def z9G:qv ["form"] ["form"] (qg (top 39)):='3'
def z8Y(T:Txt K mg):Callee P w K mg base "signs_of" 2 1 tI:=
 Callee.self (rj (k:=1) T.d_signs_of z9G '4' λf pP A outer s H E hr=>
  (have x0:Nx ["term"]:=⟨⟩;(qS (by delta G9;walk_at "s"))))
def yY(Pt:Nat)(F:List D->Ow->R D):DS:=
 (m_ (qM (tG (qP (a_ 1))) (pU (qO (b_ (qR c_) c_))) qQ) (m_ (qM (pQ (e_ (qe rK) (a_ 2) (dC (.int 0)))) (pU (qO c_)) qQ) (m_ (pZ 3 (BO Pt 8 (a_ 1) (l_ qt (b_ (j_ 2 y_ (b_ (a_ 0) (b_ (a_ 9) c_))) c_)))) (m_ (pZ 4 (wY c_)) (CT 5 6 7 (a_ 0) (pR (j_ 2 y_ (b_ (a_ 0) (b_ (a_ 3) c_)))) (pV Y1 1 (pR (a_ 1)) (.one 9) [(pQ (e_ r8 (a_ 9) (sG (a_ 0) (a_ 6))))] [] (a_ 9)) (zR (a_ 4) (b_ (pV Y1 1 (pR (tN Pt 8 3 F (b_ (a_ 5) (b_ (a_ 7) (b_ (e_ (fI xy) (a_ 2) (dC (.int 1))) c_))))) (.one 9) [] [] (e_ sh (qR (b_ (a_ 6) c_)) (a_ 9))) c_)) (pU (a_ 4)))))))
def wq(Pt:Nat):Nat->List D->Ow->R D
 |0=>λ_ _=>.bad
 |k+1=>zL (xx 9 8 Pt (yY Pt (wq Pt k)))
def QP:qv ["held", "wanted", "many", "hardest", "found", "rest", "term", "left", "<tab>"] ["held", "wanted", "many"] (qg (top 41)):='3'
theorem Ru{c Pt:ab}(T:Txt K mg)(hT:yN K mg "covers" (top 41) c)(L:vN mg base c Pt):∀k,oD P w K mg base "covers" (4+k) 3 Pt (wq Pt k)
 |0=>oD.bad (F:=xx 9 8 Pt F1) (MX (k:=3) (i:=8) (z := "<tab>") hT QP rfl (BM 'b') '4' λf A outer s H E hr=>Qe)
 | k+1=>oD.frz (MX (k:=4+k) (i:=8) (z := "<tab>") hT QP rfl (BM 'b') '4' λf A outer s H E hr=>
  have c_self:=Ru T hT L k
  (have x0:Nx ["one"]:=⟨⟩;have x1:Nx ["cover"]:=⟨⟩;(by unfold yY;walk_at "ss")))
def Ce(Pt:Nat):List D->Ow->R D:=wq Pt 20
def zcy{c Pt:ab}(T:Txt K mg)(a:yN K mg "covers" (top 41) c)(L:vN mg base c Pt):oD P w K mg base "covers" 24 3 Pt (Ce Pt):=Ru T a L 20
def z8o:DS:=
 (m_ (pZ 2 (j_ 2 D3 (b_ (a_ 0) (b_ (a_ 1) c_)))) (m_ (qM (pQ (e_ Bu (a_ 2) (e_ (fI xr) (dC (.int 10)) (dC (.int 18))))) (pU (wY (b_ (e_ (fI xy) (a_ 2) (e_ (fI xr) (dC (.int 10)) (dC (.int 18)))) (b_ (dC (.bl YP)) c_)))) qQ) (pU (wY (b_ (e_ (fI tO) (a_ 2) (dC (.int 2147483647))) (b_ (dC (.bl Y1)) c_))))))
def D6:List D->Ow->R D:=(qT 3 z8o)
def z6O:qv ["_law_script", "_law_k", "_law_cell"] ["_law_script", "_law_k"] (qg (top 48)):='3'
def z6D(T:Txt K mg):Callee P w K mg base "_law_state" 2 2 D6:=
 Callee.self (rj (k:=1) T.d__law_state z6O '4' λf pP A outer s H E hr=>
  ((qF '2' (qF '2' (qS '2')))))
def RC:DS:=
 (pU (Gc (dC (.str [])) (b_ (pV Y1 1 (rU (b_ (a_ 1) c_)) (.one 2) [] [] (e_ p9 (dC (.str [48,49,45,45])) (j_ 2 uC (b_ (a_ 0) (b_ (dC (.int 4)) c_))))) c_)))
def DV:List D->Ow->R D:=(qT 2 RC)
def z8r:qv ["_law_state_here", "_law_n"] ["_law_state_here", "_law_n"] (qg (top 50)):='3'
def z87(T:Txt K mg):Callee P w K mg base "_law_term" 2 2 DV:=
 Callee.self (rj (k:=1) T.d__law_term z8r '4' λf pP A outer s H E hr=>
  (have x0:Nx ["_law_k"]:=⟨⟩;(qS (by delta RC;walk_at "s"))))
def RY:DS:=
 (m_ (pZ 1 (wY c_)) (m_ (vM (rU (b_ (e_ (fI s_) (dC (.int 1)) (l_ qt (b_ (a_ 0) c_))) c_)) (.one 2) (m_ (pZ 3 (j_ 2 AU (b_ (l_ qt (b_ (a_ 0) c_)) (b_ (a_ 2) c_)))) (qM (pQ (e_ (qe rK) (pV Y1 1 (rU (b_ (l_ qt (b_ (a_ 0) c_)) c_)) (.one 4) [(pQ (e_ r8 (e_ p9 (a_ 0) (a_ 4)) (qR (b_ (dC (.str [45])) (b_ (e_ p9 (a_ 3) (a_ 4)) c_)))))] [] (a_ 4)) (qO c_))) (uL (zQ (a_ 1) (b_ (a_ 2) c_))) qQ))) (pU (a_ 1))))
def Co:List D->Ow->R D:=zL (qT 4 RY)
def z67:qv ["_law_term_here", "_law_found", "_law_point", "_law_bits_here"] ["_law_term_here"] (qg (top 52)):='3'
def z5U(T:Txt K mg):Callee P w K mg base "_law_points" 2 1 Co:=
 Callee.frz (rj (k:=1) T.d__law_points z67 '4' λf pP A outer s H E hr=>
  (have x0:Nx ["_law_k"]:=⟨⟩;(qF '2' (qF '2' (qS '2')))))
def RH:DS:=
 (pU (By (e_ Iu (a_ 0) (dC .non)) (j_ 3 KL (b_ (a_ 0) (b_ (dC (.int 0)) (b_ (dC (.int 1)) c_))))))
def DU:List D->Ow->R D:=(qT 1 RH)
def z8s:qv ["thing"] ["thing"] (qg (top 8)):='3'
def z7P(T:Txt K mg):Callee P w K mg base "is_answer" 3 1 DU:=
 Callee.self (rj (k:=2) T.d_is_answer z8s '4' λf pP A outer s H E hr=>
  ((qS (by delta RH;walk_at "s"))))
def R5:DS:=
 (pU (pV Y1 1 (pR (a_ 0)) (.one 2) [(pQ (e_ rT (a_ 1) (j_ 1 sH (b_ (a_ 2) c_))))] [] (a_ 2)))
def xf:List D->Ow->R D:=(qT 2 R5)
def z4B:qv ["terms", "point"] ["terms", "point"] (qg (top 20)):='3'
def z4x(T:Txt K mg):Callee P w K mg base "terms_holding" 3 2 xf:=
 Callee.self (rj (k:=2) T.d_terms_holding z4B '4' λf pP A outer s H E hr=>
  (have x0:Nx ["term"]:=⟨⟩;(qS (by delta R5;walk_at "s"))))
def R1:DS:=
 (pU (l_ yI (b_ (pV Y1 1 (pR (j_ 1 sH (b_ (a_ 1) c_))) (.one 2) [] [] (e_ (qe rH) (e_ p9 (a_ 0) (a_ 2)) (dC (.int 0)))) c_)))
def Aa:List D->Ow->R D:=(qT 2 R1)
def z3V:qv ["function", "term"] ["function", "term"] (qg (top 22)):='3'
def z3u(T:Txt K mg):Callee P w K mg base "holds_no_nought" 3 2 Aa:=
 Callee.self (rj (k:=2) T.d_holds_no_nought z3V '4' λf pP A outer s H E hr=>
  (have x0:Nx ["point"]:=⟨⟩;(qS (by delta R1;walk_at "s"))))
def RP:DS:=
 (pU (l_ wV (b_ (pV Y1 1 (pR (j_ 1 sH (b_ (a_ 1) c_))) (.one 2) [] [] (e_ (qe rK) (e_ p9 (a_ 0) (a_ 2)) (dC (.int 1)))) c_)))
def D0:List D->Ow->R D:=(qT 2 RP)
def z62:qv ["function", "term"] ["function", "term"] (qg (top 23)):='3'
def z5M(T:Txt K mg):Callee P w K mg base "holds_a_one" 3 2 D0:=
 Callee.self (rj (k:=2) T.d_holds_a_one z62 '4' λf pP A outer s H E hr=>
  (have x0:Nx ["point"]:=⟨⟩;(qS (by delta RP;walk_at "s"))))
def RK:DS:=
 (m_ (pZ 2 (w_ 1 (pR (a_ 1)) (.one 4) [] [] (a_ 4) (pV Y1 1 (pR (j_ 1 sH (b_ (a_ 4) c_))) (.one 5) [(pQ (e_ rT (a_ 5) (a_ 0)))] [] (a_ 5)))) (m_ (pZ 3 (pV Y1 1 (pR (a_ 1)) (.one 4) [(qP (sG (a_ 2) (a_ 4)))] [] (a_ 4))) (pU (pV Y1 1 (pR (a_ 3)) (.one 4) [(tG (qP (l_ wV (b_ (pV Y1 1 (pR (a_ 3)) (.one 5) [] [] (j_ 3 AY (b_ (a_ 5) (b_ (a_ 4) (b_ (a_ 2) c_))))) c_))))] [] (a_ 4)))))
def Cm:List D->Ow->R D:=(qT 4 RK)
def z74:qv ["points", "terms", "held", "useful"] ["points", "terms"] (qg (top 35)):='3'
def z76(T:Txt K mg):Callee P w K mg base "kept_terms" 3 2 Cm:=
 Callee.self (rj (k:=2) T.d_kept_terms z74 '4' λf pP A outer s H E hr=>
  (have x0:Nx ["point"]:=⟨⟩;have x1:Nx ["term"]:=⟨⟩;have x2:Nx ["other"]:=⟨⟩;(qF '2' (qF '2' (qS '2')))))
def KA(Pt:Nat):DS:=
 (m_ (pZ 2 (dC (.int 0))) (m_ (pZ 3 (tN Pt 5 3 (Ce Pt) (b_ (a_ 0) (b_ (a_ 1) (b_ (a_ 2) c_))))) (m_ (C9 20 (tG (qP (a_ 3))) (m_ (CS 2 (dC (.int 1))) (pZ 3 (tN Pt 5 3 (Ce Pt) (b_ (a_ 0) (b_ (a_ 1) (b_ (a_ 2) c_))))))) (m_ (pZ 4 (l_ C3 (b_ (pV Y1 1 (pR (a_ 3)) (.one 6) [] [] (j_ 1 tI (b_ (a_ 6) c_))) c_))) (pU (l_ C5 (b_ (pV Y1 1 (pR (a_ 3)) (.one 6) [(pQ (e_ (qe rK) (j_ 1 tI (b_ (a_ 6) c_)) (a_ 4)))] [] (l_ tY (b_ (l_ AI (b_ (a_ 6) c_)) c_))) c_)))))))
def Hu(Pt:Nat):List D->Ow->R D:=(xx 6 5 Pt (KA Pt))
def z4P:qv ["held", "wanted", "many", "found", "fewest", "<tab>"] ["held", "wanted"] (qg (top 42)):='3'
def z5f{c Pt:ab}(T:Txt K mg)(hT:yN K mg "covers" (top 41) c)(L:vN mg base c Pt):oD P w K mg base "least_covers" 25 2 Pt (Hu Pt):=
 oD.self (Mc (k:=24) (i:=5) (z := "<tab>") T.d_least_covers z4P rfl (BM 'b') '4' λf pP A outer s H E hr=>
  (have x0:Nx ["cover"]:=⟨⟩;(qF '2' (qF '2' (qF '2' (qF '2' (qS '2')))))))
def z56:DS:=
 (m_ (pZ 1 (e_ p9 (qO (b_ (dC (.int 4)) (b_ (dC (.int 3)) (b_ (dC (.int 3)) (b_ (dC (.int 2)) (b_ (dC (.int 4)) (b_ (dC (.int 3)) (b_ (dC (.int 4)) (b_ (dC (.int 1)) c_))))))))) (j_ 2 uC (b_ (a_ 0) (b_ (dC (.int 8)) c_))))) (m_ (pZ 2 (j_ 2 uC (b_ (a_ 0) (b_ (dC (.int 6)) c_)))) (m_ (qM (pQ (e_ wJ (a_ 2) (dC (.int 4)))) (m_ (pZ 3 (e_ p9 (qO (b_ (qO (b_ (dC (.int 0)) (b_ (dC (.int 1)) c_))) (b_ (qO (b_ (dC (.int 0)) (b_ (dC (.int 1)) (b_ (dC .non) c_)))) (b_ (qO (b_ (dC (.int 0)) (b_ (dC (.int 0)) (b_ (dC (.int 0)) (b_ (dC (.int 1)) (b_ (dC .non) c_)))))) (b_ (qO (b_ (dC (.int 1)) (b_ (dC (.int 1)) (b_ (dC (.int 1)) (b_ (dC (.int 0)) (b_ (dC .non) c_)))))) c_))))) (a_ 2))) (pU (l_ tY (b_ (pV Y1 1 (rU (b_ (e_ (fI s_) (dC (.int 1)) (a_ 1)) c_)) (.one 7) [] [] (e_ p9 (a_ 3) (j_ 2 uC (b_ (a_ 0) (b_ (l_ qt (b_ (a_ 3) c_)) c_))))) c_)))) qQ) (m_ (pZ 4 (qO c_)) (m_ (vM (rU (b_ (e_ sh (dC (.int 1)) (j_ 2 uC (b_ (a_ 0) (b_ (dC (.int 5)) c_)))) c_)) (.one 5) (pZ 4 (e_ sh (a_ 4) (j_ 1 Co (b_ (j_ 2 DV (b_ (a_ 0) (b_ (a_ 1) c_))) c_))))) (m_ (pZ 6 (pV YP 1 (rU (b_ (e_ (fI s_) (dC (.int 1)) (a_ 1)) c_)) (.one 7) [] [] (l_ AK (b_ (e_ rT (a_ 7) (a_ 4)) c_)))) (m_ (qM (pQ (e_ (qe rK) (a_ 2) (dC (.int 5)))) (xw (dC .non) (a_ 6) (j_ 2 uC (b_ (a_ 0) (b_ (e_ (fI s_) (dC (.int 1)) (a_ 1)) c_)))) qQ) (pU (l_ tY (b_ (a_ 6) c_))))))))))
def D9:List D->Ow->R D:=zL (qT 7 z56)
def z4A:qv ["_law_state_here", "_law_n", "_law_way", "_law_some", "_law_held", "_law_turn", "_law_found"] ["_law_state_here"] (qg (top 53)):='3'
def z4y(T:Txt K mg):Callee P w K mg base "_law_function" 3 1 D9:=
 Callee.frz (rj (k:=2) T.d__law_function z4A '4' λf pP A outer s H E hr=>
  (have x0:Nx ["_law_point"]:=⟨⟩;(qF '2' (qF '2' (qF '2' (qF '2' (qF '2' (qF '2' (qF '2' (qS '2'))))))))))
def KE:DS:=
 (m_ (pZ 2 (pV Y1 1 (pR (a_ 1)) (.one 6) [] [] (l_ yL (b_ (pV Y1 1 (pR (j_ 1 sH (b_ (a_ 6) c_))) (.one 7) [] [] (e_ (fI s_) (dC (.int 1)) (a_ 7))) c_)))) (m_ (pZ 3 (l_ yL (b_ (pV Y1 1 (pR (a_ 0)) (.one 6) [] [] (e_ (fI s_) (dC (.int 1)) (a_ 6))) c_))) (m_ (pZ 4 (qO (b_ (qR (b_ (qR c_) (b_ (dC (.int 0)) c_))) c_))) (m_ (vM (rU (b_ (l_ qt (b_ (a_ 1) c_)) c_)) (.one 5) (pZ 4 (e_ tj (a_ 4) (pV Y1 2 (pR (a_ 4)) (.two 6 7) [] [] (qR (b_ (e_ tj (a_ 6) (qR (b_ (e_ p9 (a_ 1) (a_ 5)) c_))) (b_ (e_ (fI Fq) (a_ 7) (e_ p9 (a_ 2) (a_ 5))) c_))))))) (pU (l_ CY (b_ (pV Y1 2 (pR (a_ 4)) (.two 6 7) [(pQ (e_ (qe rK) (e_ (fI BC) (a_ 7) (a_ 3)) (a_ 3)))] [] (qR (b_ (l_ qt (b_ (a_ 6) c_)) (b_ (j_ 1 tI (b_ (a_ 6) c_)) c_)))) c_)))))))
def D1:List D->Ow->R D:=(qT 6 KE)
def z65:qv ["_law_points_here", "_law_terms", "_law_masks", "_law_wanted", "_law_rows", "_law_at"] ["_law_points_here", "_law_terms"] (qg (top 54)):='3'
def z63(T:Txt K mg):Callee P w K mg base "_law_fewest" 3 2 D1:=
 Callee.self (rj (k:=2) T.d__law_fewest z65 '4' λf pP A outer s H E hr=>
  (have x0:Nx ["_law_point"]:=⟨⟩;have x1:Nx ["_law_term_here"]:=⟨⟩;have x2:Nx ["_law_row", "_law_held"]:=⟨⟩;(qF '2' (qF '2' (qF '2' (qF '2' (qS '2')))))))
def z7r:DS:=
 (m_ (qM (xv (tG (qP (yP "tuple" (a_ 0)))) (pQ (yV YP wt (l_ qt (b_ (a_ 0) c_))))) (pU (dC (.bl Y1))) qQ) (pU (l_ yI (b_ (pV Y1 1 (pR (a_ 0)) (.one 1) [] [] (j_ 1 DU (b_ (a_ 1) c_))) c_))))
def DY:List D->Ow->R D:=(qT 1 z7r)
def z5O:qv ["thing"] ["thing"] (qg (top 9)):='3'
def z60(T:Txt K mg):Callee P w K mg base "is_function" 4 1 DY:=
 Callee.self (rj (k:=3) T.d_is_function z5O '4' λf pP A outer s H E hr=>
  (have x0:Nx ["answer"]:=⟨⟩;(qF '2' (qS '2'))))
def Ht:DS:=
 (pU (BD (e_ (qe rH) (e_ p9 (a_ 1) (a_ 2)) (dC (.str [45]))) (j_ 2 Aa (b_ (a_ 0) (b_ (j_ 3 DW (b_ (a_ 1) (b_ (a_ 2) (b_ (dC (.str [45])) c_)))) c_)))))
def D4:List D->Ow->R D:=(qT 3 Ht)
def z4X:qv ["function", "term", "switch"] ["function", "term", "switch"] (qg (top 25)):='3'
def z5e(T:Txt K mg):Callee P w K mg base "can_widen_at" 4 3 D4:=
 Callee.self (rj (k:=3) T.d_can_widen_at z4X '4' λf pP A outer s H E hr=>
  ((qS (by delta Ht;walk_at "s"))))
def RQ:DS:=
 (m_ (pZ 2 (pV Y1 1 (pR (a_ 0)) (.one 3) [] [] (qR (b_ (a_ 3) (b_ (j_ 2 xf (b_ (a_ 1) (b_ (a_ 3) c_))) c_))))) (pU (pV Y1 2 (pR (a_ 2)) (.two 3 4) [(pQ (e_ (qe rK) (l_ qt (b_ (a_ 4) c_)) (dC (.int 1))))] [] (qR (b_ (a_ 3) (b_ (e_ p9 (a_ 4) (dC (.int 0))) c_))))))
def D2:List D->Ow->R D:=(qT 3 RQ)
def z5u:qv ["points", "terms", "holders"] ["points", "terms"] (qg (top 29)):='3'
def z5t(T:Txt K mg):Callee P w K mg base "sole_holders" 4 2 D2:=
 Callee.self (rj (k:=3) T.d_sole_holders z5u '4' λf pP A outer s H E hr=>
  (have x0:Nx ["point"]:=⟨⟩;have x1:Nx ["point", "held_by"]:=⟨⟩;(qF '2' (qS '2'))))
def RU:DS:=
 (m_ (pZ 2 (w_ 1 (pR (a_ 0)) (.one 3) [] [] (a_ 3) (j_ 2 xf (b_ (a_ 1) (b_ (a_ 3) c_))))) (pU (pV Y1 1 (pR (a_ 0)) (.one 3) [(tG (qP (l_ wV (b_ (pV Y1 1 (pR (a_ 0)) (.one 4) [] [] (j_ 3 AX (b_ (a_ 4) (b_ (a_ 3) (b_ (a_ 2) c_))))) c_))))] [] (a_ 3))))
def Hn:List D->Ow->R D:=(qT 3 RU)
def z5L:qv ["points", "terms", "holders"] ["points", "terms"] (qg (top 33)):='3'
def z5H(T:Txt K mg):Callee P w K mg base "kept_points" 4 2 Hn:=
 Callee.self (rj (k:=3) T.d_kept_points z5L '4' λf pP A outer s H E hr=>
  (have x0:Nx ["point"]:=⟨⟩;have x1:Nx ["other"]:=⟨⟩;(qF '2' (qS '2'))))
def R6:DS:=
 (qM (tG (qP (j_ 1 DY (b_ (a_ 0) c_)))) F1 qQ)
def Cp:List D->Ow->R D:=(qT 1 R6)
def z4D:qv ["thing"] ["thing"] (qg (top 10)):='3'
def z4q(T:Txt K mg):Callee P w K mg base "need_function" 5 1 Cp:=
 Callee.self (rj (k:=4) T.d_need_function z4D '4' λf pP A outer s H E hr=>
  ((qS (by delta R6;walk_at "s"))))
def Hj:DS:=
 (pU (CM (l_ wV (b_ (pV Y1 1 (rU (b_ (l_ qt (b_ (a_ 1) c_)) c_)) (.one 2) [] [] (j_ 3 D4 (b_ (a_ 0) (b_ (a_ 1) (b_ (a_ 2) c_))))) c_))))
def D5:List D->Ow->R D:=(qT 2 Hj)
def z7J:qv ["function", "term"] ["function", "term"] (qg (top 26)):='3'
def z8p(T:Txt K mg):Callee P w K mg base "is_widest" 5 2 D5:=
 Callee.self (rj (k:=4) T.d_is_widest z7J '4' λf pP A outer s H E hr=>
  (have x0:Nx ["switch"]:=⟨⟩;(qS (by delta Hj;walk_at "s"))))
def R0:DS:=
 (pU (AB Y1 2 (pR (j_ 2 D2 (b_ (a_ 0) (b_ (a_ 1) c_)))) (.two 2 3) [] [] (a_ 3)))
def DX:List D->Ow->R D:=(qT 2 R0)
def z64:qv ["points", "terms"] ["points", "terms"] (qg (top 30)):='3'
def z5R(T:Txt K mg):Callee P w K mg base "terms_alone" 5 2 DX:=
 Callee.self (rj (k:=4) T.d_terms_alone z64 '4' λf pP A outer s H E hr=>
  (have x0:Nx ["point", "term"]:=⟨⟩;(qS (by delta R0;walk_at "s"))))
def z8F:DS:=
 (m_ (uL (j_ 1 Cp (b_ (a_ 0) c_))) (pU (pV Y1 1 (pR (j_ 1 y0 (b_ (j_ 1 DZ (b_ (a_ 0) c_)) c_))) (.one 1) [(qP (j_ 2 Aa (b_ (a_ 0) (b_ (a_ 1) c_))))] [] (a_ 1))))
def D8:List D->Ow->R D:=(qT 1 z8F)
def z7e:qv ["function"] ["function"] (qg (top 24)):='3'
def z6X(T:Txt K mg):Callee P w K mg base "good_terms" 6 1 D8:=
 Callee.self (rj (k:=5) T.d_good_terms z7e '4' λf pP A outer s H E hr=>
  (have x0:Nx ["term"]:=⟨⟩;(qF '2' (qS '2'))))
def OE:DS:=
 (m_ (pZ 2 (j_ 2 DX (b_ (a_ 0) (b_ (a_ 1) c_)))) (m_ (pZ 3 (pV Y1 1 (pR (a_ 0)) (.one 5) [(tG (qP (j_ 2 xf (b_ (a_ 2) (b_ (a_ 5) c_)))))] [] (a_ 5))) (m_ (pZ 4 (j_ 2 Hn (b_ (a_ 3) (b_ (a_ 1) c_)))) (pU (qR (b_ (a_ 2) (b_ (a_ 4) (b_ (j_ 2 Cm (b_ (a_ 4) (b_ (a_ 1) c_))) c_))))))))
def B7:List D->Ow->R D:=(qT 5 OE)
def zeG:qv ["points", "terms", "taken", "open_points", "points_left"] ["points", "terms"] (qg (top 36)):='3'
def Zv(T:Txt K mg):Callee P w K mg base "sweep" 6 2 B7:=
 Callee.self (rj (k:=5) T.d_sweep zeG '4' λf pP A outer s H E hr=>
  (have x0:Nx ["point"]:=⟨⟩;(qF '2' (qF '2' (qF '2' (qS '2'))))))
def Hg:DS:=
 (pU (pV Y1 1 (pR (j_ 1 D8 (b_ (a_ 0) c_))) (.one 1) [(C1 (qP (j_ 2 D0 (b_ (a_ 0) (b_ (a_ 1) c_)))) (qP (j_ 2 D5 (b_ (a_ 0) (b_ (a_ 1) c_)))))] [] (a_ 1)))
def yt:List D->Ow->R D:=(qT 1 Hg)
def z9u:qv ["function"] ["function"] (qg (top 27)):='3'
def z96(T:Txt K mg):Callee P w K mg base "greatest" 7 1 yt:=
 Callee.self (rj (k:=6) T.d_greatest z9u '4' λf pP A outer s H E hr=>
  (have x0:Nx ["term"]:=⟨⟩;(qS (by delta Hg;walk_at "s"))))
def J9:DS:=
 (m_ (pZ 1 (j_ 1 yt (b_ (a_ 0) c_))) (pU (j_ 2 DX (b_ (j_ 2 Ab (b_ (a_ 0) (b_ (dC (.int 1)) c_))) (b_ (a_ 1) c_)))))
def Dz:List D->Ow->R D:=(qT 2 J9)
def zcn:qv ["function", "terms"] ["function"] (qg (top 31)):='3'
def zck(T:Txt K mg):Callee P w K mg base "needed" 8 1 Dz:=
 Callee.self (rj (k:=7) T.d_needed zcn '4' λf pP A outer s H E hr=>
  ((qF '2' (qS '2'))))
def Jw:DS:=
 (m_ (pZ 1 (j_ 1 yt (b_ (a_ 0) c_))) (m_ (pZ 2 (j_ 2 Ab (b_ (a_ 0) (b_ (dC (.int 1)) c_)))) (m_ (pZ 3 (wY c_)) (m_ (pZ 4 (dC (.bl YP))) (m_ (C9 100 (qP (a_ 4)) (m_ (yi 5 6 7 (j_ 2 B7 (b_ (a_ 2) (b_ (a_ 1) c_)))) (m_ (pZ 4 (e_ (qe rH) (qR (b_ (a_ 6) (b_ (a_ 7) c_))) (qR (b_ (a_ 2) (b_ (a_ 1) c_))))) (m_ (uL (zR (a_ 3) (b_ (a_ 5) c_))) (FI 2 1 (b_ (a_ 6) (b_ (a_ 7) c_))))))) (pU (qR (b_ (l_ tY (b_ (l_ AH (b_ (a_ 3) c_)) c_)) (b_ (l_ tY (b_ (a_ 2) c_)) (b_ (l_ tY (b_ (a_ 1) c_)) c_))))))))))
def Du:List D->Ow->R D:=zL (qT 8 Jw)
def ZN:qv ["function", "terms", "points", "all_taken", "changes", "taken", "points_left", "terms_left"] ["function"] (qg (top 37)):='3'
def zfK(T:Txt K mg):Callee P w K mg base "swept" 8 1 Du:=
 Callee.frz (rj (k:=7) T.d_swept ZN '4' λf pP A outer s H E hr=>
  ((qF '2' (qF '2' (qF '2' (qF '2' (qF '2' (qS '2'))))))))
def Hr:DS:=
 (pU (w_ 1 (pR (j_ 1 yt (b_ (a_ 0) c_))) (.one 1) [] [] (a_ 1) (j_ 1 sH (b_ (a_ 1) c_))))
def Hs:List D->Ow->R D:=(qT 1 Hr)
def z66:qv ["function"] ["function"] (qg (top 43)):='3'
def z5K(T:Txt K mg):Callee P w K mg base "held_points" 8 1 Hs:=
 Callee.self (rj (k:=7) T.d_held_points z66 '4' λf pP A outer s H E hr=>
  (have x0:Nx ["term"]:=⟨⟩;(qS (by delta Hr;walk_at "s"))))
def Ho(Pt:Nat):DS:=
 (pU (tN Pt 1 2 (Hu Pt) (b_ (j_ 1 Hs (b_ (a_ 0) c_)) (b_ (j_ 2 Ab (b_ (a_ 0) (b_ (dC (.int 1)) c_))) c_))))
def Hq(Pt:Nat):List D->Ow->R D:=(xx 2 1 Pt (Ho Pt))
def z5S:qv ["function", "<tab>"] ["function"] (qg (top 44)):='3'
def z5G{c Pt:ab}(T:Txt K mg)(hT:yN K mg "covers" (top 41) c)(L:vN mg base c Pt):oD P w K mg base "least_forms" 26 1 Pt (Hq Pt):=
 oD.self (Mc (k:=25) (i:=1) (z := "<tab>") T.d_least_forms z5S rfl (BM 'b') '4' λf pP A outer s H E hr=>
  ((qS (by delta Ho;walk_at "s"))))
def Hb(Pt:Nat):DS:=
 (pU (e_ p9 (tN Pt 1 1 (Hq Pt) (b_ (a_ 0) c_)) (dC (.int 0))))
def D7(Pt:Nat):List D->Ow->R D:=(xx 2 1 Pt (Hb Pt))
def z7t:qv ["function", "<tab>"] ["function"] (qg (top 45)):='3'
def z6U{c Pt:ab}(T:Txt K mg)(hT:yN K mg "covers" (top 41) c)(L:vN mg base c Pt):oD P w K mg base "least_form" 27 1 Pt (D7 Pt):=
 oD.self (Mc (k:=26) (i:=1) (z := "<tab>") T.d_least_form z7t rfl (BM 'b') '4' λf pP A outer s H E hr=>
  ((qS (by delta Hb;walk_at "s"))))
def UD(Pt:Nat):DS:=
 (m_ (vM (rU (b_ (l_ AL (b_ (dC (.int 1)) (b_ (l_ AJ (b_ (l_ qt (b_ (a_ 0) c_)) (b_ (dC (.int 5)) c_))) c_))) c_)) (.one 1) (m_ (pZ 2 (j_ 2 D6 (b_ (a_ 0) (b_ (a_ 1) c_)))) (m_ (pZ 3 (j_ 1 D9 (b_ (a_ 2) c_))) (m_ (yi 4 5 6 (j_ 1 Du (b_ (a_ 3) c_))) (m_ (Az (.two 7 8) (qR (b_ (tN Pt 13 1 (D7 Pt) (b_ (a_ 3) c_)) (b_ (j_ 1 yt (b_ (a_ 3) c_)) c_)))) (m_ (Az (.two 9 10) (j_ 2 D1 (b_ (a_ 5) (b_ (a_ 6) c_)))) (m_ (qM (pQ (e_ (qe rH) (qR (b_ (e_ tj (l_ qt (b_ (a_ 4) c_)) (a_ 9)) (b_ (e_ tj (j_ 1 tI (b_ (a_ 4) c_)) (a_ 10)) c_))) (qR (b_ (l_ qt (b_ (a_ 7) c_)) (b_ (j_ 1 tI (b_ (a_ 7) c_)) c_))))) (pU (dC (.bl Y1))) qQ) (m_ (pZ 11 (j_ 1 Dz (b_ (a_ 3) c_))) (m_ (qM (pQ (e_ (qe rH) (pV Y1 1 (pR (a_ 11)) (.one 14) [(xv (pQ (e_ r8 (a_ 14) (a_ 4))) (pQ (e_ r8 (a_ 14) (a_ 7))))] [] (a_ 14)) (qO c_))) (pU (dC (.bl Y1))) qQ) (m_ (qM (pQ (e_ (qe rH) (pV Y1 1 (pR (e_ tj (a_ 4) (a_ 6))) (.one 14) [(pQ (e_ r8 (a_ 14) (a_ 8)))] [] (a_ 14)) (qO c_))) (pU (dC (.bl Y1))) qQ) (vM (pR (a_ 5)) (.one 12) (m_ (qM (pQ (e_ (qe rH) (pV Y1 1 (pR (a_ 4)) (.one 14) [(pQ (e_ rT (a_ 12) (j_ 1 sH (b_ (a_ 14) c_))))] [] (a_ 14)) (qO c_))) (pU (dC (.bl Y1))) qQ) (qM (pQ (e_ ye (l_ qt (b_ (pV Y1 1 (pR (a_ 6)) (.one 14) [(pQ (e_ rT (a_ 12) (j_ 1 sH (b_ (a_ 14) c_))))] [] (a_ 14)) c_)) (dC (.int 2)))) (pU (dC (.bl Y1))) qQ))))))))))))) (pU (dC (.bl YP))))
def F_law(Pt:Nat):List D->Ow->R D:=xx 14 13 Pt (UD Pt)
def W_:qv ["_law_script", "_law_k", "_law_state_here", "_law_function_here", "_law_taken", "_law_points_here", "_law_terms", "_law_least", "_law_every", "_law_many", "_law_signs", "_law_must", "_law_point", "<tab>"] ["_law_script"] (qg (top 55)):='3'
def WQ{f c Pt:ab}{fd:d8}(hF:L2.Fun K "law" "law" (top 55) f fd)(T:Txt K mg)(hT:yN K mg "covers" (top 41) c)(L:vN mg base c Pt):oP P w K mg base xo 28 f fd ["_law_script"] (yK K yG 1 Pt (F_law Pt)):=
 T_ (k:=27) (i:=13) (z := "<tab>") hF W_ rfl (BM 'b') λpP A outer s H E hr=>
  (have x0:Nx ["_law_term_here"]:=⟨⟩;(qF '2' (qS '2')))
def Vm{f c Pt:ab}{a:d8}(b:L2.Fun K "law" "law" (top 55) f a)(d:yN K mg "covers" (top 41) c)(T:Txt K mg)(L:vN mg base c Pt):oP P w K mg base xo 28 f a ["_law_script"] (yK K yG 1 Pt (F_law Pt)):=
 WQ b T d L
end
def fa_mk{K:ah}{h:aX}{mg:Str->Option ae}(X:K.In h)(G:h.Ns bO mg){n:Str}{st:er}{f:ab}{c d:Option ab}{sl:Array (Option ae)}{e g i j m b:ae}(a:gY K bO n=XV (XV (.ref f)))
  (l:K.lookup f=XV ⟨e,c,.func (cy n n (xF st) (u_ st) (qg st) .none g i j d b m),sl⟩) (q:eU K b n=YP) (k:cT K (.ref f)=YP):qK K mg n st:=⟨f,_,iB X G a,Je l q k⟩
def gs_mk{K:ah}{h:aX}{mg:Str->Option ae}(X:K.In h)(G:h.Ns bO mg){n:Str}{cs:List Nat}{t:Tok}(s:gY K bO n=XV (XV (.str ⟨cs.toArray⟩ t))):Io mg n cs:=⟨_,iB X G s⟩
def gt_mk{K:ah}{h:aX}{mg:Str->Option ae}(X:K.In h)(G:h.Ns bO mg){n:Str}{a:List (Int×Int)}{e:ab}{o:Obj}(d:gY K bO n=XV (XV (.ref e)))(u:K.lookup e=XV o)(v:FY o a=YP)(y:(e==sysModules)=Y1):Ay K mg n a:=⟨_,_,iB X G d,u,v,y⟩
def all_mk{P:aM}{w:aV}{K:ah}{h:aX}{mg:Str->Option ae}{A:ab}(X:K.In h)(G:h.Ns bO mg)(n:mg "law" = XV (.ref A))(T:Txt K mg)
  {f:ab} {M B:Option ab} {sl:Array (Option ae)} {N C D E F:ae} {o:ae} (a:gY K bO "law" = XV (XV (.ref f)))
  (l:K.lookup f=XV ⟨N,M,.func (cy "law" "law" (xF (top 55)) (u_ (top 55)) (qg (top 55)) .none C D E B o F),sl⟩) (q:eU K o "law" = YP) (k:cT K (.ref f)=YP)
  {m:ab} {p r:Option ab} {O:Array (Option ae)} {t v x y z:ae} {d:ab} (H:gY K bO "covers" = XV (XV (.ref m)))
  (I:K.lookup m=XV ⟨t,p,.func (cy "covers" "covers" (xF (top 41)) (u_ (top 41)) (qg (top 41)) .none v x y r (.ref d) z),O⟩) (Q:eU K (.ref d) "covers" = YP) (R:cT K (.ref m)=YP)
  {Pt:ab} {g:ae} {i:Option ab} {j:Array (Option ae)} {b:Array ae} (S:K.lookup d=XV ⟨g,i,.fields b,j⟩) (U:b[11]?=XV (.ref Pt)) (V:jc K=YP)
  : jc K=YP/\∃(c Pt:ab),jz K "covers" = XV (c,Pt)/\∃J:d8,(∀(s:af)(u:ae),kO s J ⟨[u],[]⟩ [("_law_script",u)])/\∀base:aX,K.In base->base.Ns bO mg->vN mg base c Pt->oP P w K mg base xo 28 A J ["_law_script"] (yK K yG 1 Pt (F_law Pt)):=by have W:L2.Fun K "law" "law" (top 55) f (cy "law" "law" (xF (top 55)) (u_ (top 55)) (qg (top 55)) .none C D E B o F):=Je l q k;have e:=n.symm.trans (iB X G a);cases e;have Y:yN K mg "covers" (top 41) d:=⟨m,_,iB X G H,Je I Q R,rfl⟩;exact⟨V,d,Pt,Vq H I S U,_,λs u=>.of_eq rfl,λbase Z nb L=>Vm W Y T L⟩
end K10
-- TN 28
namespace K10
open PySem DL
def X7:Nat->List (List Nat)
 |0=>[[]]
 |n+1=>(X7 n).flatMap λt=>[t++[45],t++[48],t++[49]]
noncomputable def Oo:Nat->List Nat
 |45=>[0,1]
 |49=>[1]
 |_=>[0]
def pS(cs:List Nat):List Nat:=cs.foldl (λps c=>ps.flatMap λp=>(Oo c).map (2*p + ·)) [0]
def pO(l:List Nat):List D:=l.map λ(p:Nat)=>D.int (p:Int)
def z72(O:Ow):y0 [.int 1] O=.ok (.lst ((X7 1).map .str)) O:=by kernel_rfl
def z71(O:Ow):y0 [.int 2] O=.ok (.lst ((X7 2).map .str)) O:=by kernel_rfl
def z6K(O:Ow):y0 [.int 3] O=.ok (.lst ((X7 3).map .str)) O:=by kernel_rfl
def z6B(O:Ow):y0 [.int 4] O=.ok (.lst ((X7 4).map .str)) O:=by kernel_rfl
def oC:List (List Nat):=X7 1++X7 2++X7 3++X7 4
def YX(O:Ow):(oC.map λcs=>sH [.str cs] O)=oC.map λcs=>R.ok (.lst (pO (pS cs))) O:=by kernel_rfl
def wZ:Nat->Nat->List Nat
 |0,_=>[]
 |n+1,p=>wZ n (p/2)++[48+p%2]
def pD:List (List Nat×Nat):=oC.flatMap λcs=>(aL (2 ^ cs.length)).map λp=>(cs,p)
def pv:List (Nat×Nat):=[1,2,3,4].flatMap λn=>(aL (2 ^ n)).map λp=>(n,p)
def Zr(O:Ow):(pv.map λq=>AU [.int (q.1:Nat),.int (q.2:Nat)] O)=pv.map λq=>R.ok (.str (wZ q.1 q.2)) O:=by kernel_rfl
def Qm{n p:Nat}(b:1<=n)(c:n<=4)(a:p<2 ^ n):(n,p)∈pv:=by
 unfold pv;rw[iH];refine⟨n,?_,aB.mpr ⟨p,bM.mpr a,rfl⟩⟩;have:n=1\/n=2\/n=3\/n=4:=by lia
 rcases this with rfl|rfl|rfl|rfl<;>simp
def F5:DT:=pQ (e_ (qe rK) (pV Y1 1 (rU (b_ (l_ qt (b_ (a_ 0) c_)) c_)) (.one 4) [(pQ (e_ r8 (e_ p9 (a_ 0) (a_ 4)) (qR (b_ (dC (.str [45])) (b_ (e_ p9 (a_ 3) (a_ 4)) c_)))))] [] (a_ 4)) (qO c_))
def B2(cs bs:List Nat):Bool:=(aL cs.length).all λi=>cs.getD i 0==45||cs.getD i 0==bs.getD i 1
def sgn(c:Nat):Bool:=c==45||c==48||c==49
def bit(c:Nat):Bool:=c==48||c==49
def VZ(O:Ow){c b:Nat}(a:sgn c=YP)(d:bit b=YP):r8 O (.str [c]) (.tup [.str [45],.str [b]])=.ok (.bl (!(c==45||c==b))) O:=by unfold sgn at a;unfold bit at d;simp only[dH,beq_iff_eq] at a d;rcases a with(rfl|rfl)|rfl<;>rcases d with rfl|rfl<;>kernel_rfl
def QN:(pD.all λq=>B2 q.1 (wZ q.1.length q.2)==(pS q.1).contains q.2&&(wZ q.1.length q.2).length==q.1.length&&(wZ q.1.length q.2).all bit&&q.1.all sgn)=YP:=by decide +kernel
def zcv:(oC.all λcs=>decide ((aL (2 ^ cs.length)).filter (λp=>(pS cs).contains p)=pS cs))=YP:=by decide +kernel
def P8{cs:List Nat}{p:Nat}(h:cs∈oC)(a:p<2 ^ cs.length):(cs,p)∈pD:=by unfold pD;rw[iH];exact⟨cs,h,aB.mpr ⟨p,bM.mpr a,rfl⟩⟩
def zd6:(oC.all λcs=>decide (1<=cs.length))=YP:=by decide +kernel
def PU:(oC.all λcs=>decide (cs.length<=4))=YP:=by decide +kernel
def AW{cs:List Nat}(h:cs∈oC)(O:Ow):sH [.str cs] O=.ok (.lst (pO (pS cs))) O:=ge.mp (YX O) cs h
def Z1{cs a:List Nat}{O:Ow}{k:Nat}{x:Option D}(s:a.length=cs.length)(t:cs.length<=4)(m:∀c∈cs,sgn c=YP)(n:∀b∈a,bit b=YP):
  F5 [XV (.str cs),XV (.own k),x,XV (.str a)] O=.ok (B2 cs a) O:=by
 let p:D->Bool:=λd=>match d with|.int i=>!(cs.getD i.toNat 0==45||cs.getD i.toNat 0==a.getD i.toNat 1)|_=>Y1
 have f:rU (b_ (l_ qt (b_ (a_ 0) c_)) c_) [XV (.str cs),XV (.own k),x,XV (.str a)] O=.ok (.val ((aL cs.length).map λ(i:Nat)=>D.int (i:Int))) O:=
  yX (p8 ((uM (p8 rfl)).trans (GR 'd'))) 'd'
 have j:=DR (ext:=1) (i:=4) (ts:=[(pQ (e_ r8 (e_ p9 (a_ 0) (a_ 4)) (qR (b_ (dC (.str [45])) (b_ (e_ p9 (a_ 3) (a_ 4)) c_)))))]) (te:=a_ 4) (p:=p) (e:=λd=>d) f (by simp;lia) (λd l=>by
  obtain⟨i,f,rfl⟩:=aB.mp l;have f:i<cs.length:=bM.mp f;have g:i<a.length:=by lia
  have o:p (.int (i:Int)) = !(cs[i]==45||cs[i]==a[i]):=by
   show(!(cs.getD (i:Int).toNat 0==45||cs.getD (i:Int).toNat 0==a.getD (i:Int).toNat 1))=_;have:((i:Int)).toNat=i:=by lia
   rw[this,aY,aY,ay f,ay g];rfl
  rw[o];have q:pQ (e_ r8 (e_ p9 (a_ 0) (a_ 4)) (qR (b_ (dC (.str [45])) (b_ (e_ p9 (a_ 3) (a_ 4)) c_)))) [XV (.str cs),XV (.own k),x,XV (.str a),XV (.int (i:Int))] O=.ok (!(cs[i]==45||cs[i]==a[i])) O:=by
   refine sj ((qC ((qC rfl rfl).trans (Dt 'd' f)) ?_).trans (VZ O (m _ (cu f)) (n _ (cu g))));show((b_ (dC (.str [45])) (b_ (e_ p9 (a_ 3) (a_ 4)) c_) _ O).bnd _)=_;rw[qL rfl ((qC rfl rfl).trans (Dt 'd' g))];rfl
  show((pQ (e_ r8 (e_ p9 (a_ 0) (a_ 4)) (qR (b_ (dC (.str [45])) (b_ (e_ p9 (a_ 3) (a_ 4)) c_)))) [XV (.str cs),XV (.own k),x,XV (.str a),XV (.int (i:Int))] O).bnd _)=_;rw[q];cases (!(cs[i]==45||cs[i]==a[i]))<;>rfl) (λd l _=>rfl) Y1
 have r:(((aL cs.length).map λ(i:Nat)=>D.int (i:Int)).filter p).map (λd=>d)=(((aL cs.length).filter λi=>!(cs.getD i 0==45||cs.getD i 0==a.getD i 1)).map λ(i:Nat)=>((i:Nat):Int)).map D.int:=by
  rw[List.map_id',nJ,bi];rfl
 rw[r] at j;have h:e_ (qe rK) (pV Y1 1 (rU (b_ (l_ qt (b_ (a_ 0) c_)) c_)) (.one 4) [(pQ (e_ r8 (e_ p9 (a_ 0) (a_ 4)) (qR (b_ (dC (.str [45])) (b_ (e_ p9 (a_ 3) (a_ 4)) c_)))))] [] (a_ 4)) (qO c_) [XV (.str cs),XV (.own k),x,XV (.str a)] O=.ok (.bl (B2 cs a)) O:=by
  refine(qC j rfl).trans ((VM O _).trans ?_);congr 2;unfold B2;rw[dU,gp,lR,fe,ar];simp[Decidable.or_iff_not_imp_left]
 exact sj h
def zfI{cs:List Nat}{p:Nat}(h:(cs,p)∈pD)(b:cs.length<=4)(O:Ow)(k:Nat)(x:Option D):F5 [XV (.str cs),XV (.own k),x,XV (.str (wZ cs.length p))] O=.ok ((pS cs).contains p) O:=by have:=ar.mp QN _ h;simp only[aQ,beq_iff_eq] at this;obtain⟨⟨⟨d,e⟩,f⟩,g⟩:=this;rw[Z1 e b (λc a=>ar.mp g c a) (λc a=>ar.mp f c a),d]
def z6E{cs:List Nat}(h:cs∈oC){O:Ow}(B:Av O):Co [.str cs] O=.ok (.lst (pO (pS cs))) O:=by
 have s:cs.length<=4:=by simpa using ar.mp PU cs h
 have C:1<=cs.length:=by simpa using ar.mp zd6 cs h
 have L:2 ^ cs.length<=16:=aE (cX 'u' s) 'u';unfold Co zL qT RY;let n:=O.length;let g:DS:=m_ (pZ 3 (j_ 2 AU (b_ (l_ qt (b_ (a_ 0) c_)) (b_ (a_ 2) c_)))) (qM F5 (uL (zQ (a_ 1) (b_ (a_ 2) c_))) qQ);have j:∀i k b d,(∃y z,k=[XV (.str cs),XV (.own O.length),y,z]/\b=O++[pO ((aL i).filter λp=>(pS cs).contains p)])->((aL (2 ^ cs.length)).map λ(i:Nat)=>D.int (i:Int))[i]?=XV d->
   ∃a l,(match Tg.put (.one 2) d k with|some a=>g a b|none=>.bad)=.nx a l/\(∃y z,a=[XV (.str cs),XV (.own O.length),y,z]/\l=O++[pO ((aL (i+1)).filter λp=>(pS cs).contains p)]):=by
  rintro i k b d ⟨y,z,rfl,rfl⟩ c;rw[bG] at c;have f:i<2 ^ cs.length:=by
   by_cases f:i<2 ^ cs.length
   ·exact f
   ·rw[aT.mpr (by simpa using f)] at c;cases c
  rw[i7 f] at c;cases c;have E:=P8 h f;generalize t:(O++[pO ((aL i).filter λp=>(pS cs).contains p)])=m;have w:=ge.mp (Zr m) _ (Qm C s f);have F:=zfI E s m O.length (XV (D.int (i:Nat)));dsimp only at w;have G:pZ 3 (j_ 2 AU (b_ (l_ qt (b_ (a_ 0) c_)) (b_ (a_ 2) c_))) [XV (.str cs),XV (.own O.length),XV (.int (i:Nat)),z] m=.nx [XV (.str cs),XV (.own O.length),XV (.int (i:Nat)),XV (.str (wZ cs.length i))] m:=
   wk ((sI (qL ((uM (p8 rfl)).trans (GR 'd')) rfl) rfl).trans w)
  show ∃a l,(match pZ 3 (j_ 2 AU (b_ (l_ qt (b_ (a_ 0) c_)) (b_ (a_ 2) c_))) [XV (.str cs),XV (.own O.length),XV (.int (i:Nat)),z] m with|.nx a b=>qM F5 (uL (zQ (a_ 1) (b_ (a_ 2) c_))) qQ a b|r=>r)=.nx a l/\_;rw[G];dsimp only;unfold qM;rw[F];dsimp only[R.bnS];subst t;by_cases o:(pS cs).contains i=YP
  ·rw[Y2 o];have H:(aL (i+1)).filter (λp=>(pS cs).contains p)=(aL i).filter (λp=>(pS cs).contains p)++[i]:=by
    rw[i0,f6,cY,gM,Y2 o]
   have M:((aL i).filter λp=>(pS cs).contains p).length<=i:=by
    have:=aZ (λp=>(pS cs).contains p) (aL i);simpa using this
   refine⟨[XV (.str cs),XV (.own O.length),XV (.int (i:Nat)),XV (.str (wZ cs.length i))],O++[pO ((aL (i+1)).filter λp=>(pS cs).contains p)],?_,_,_,rfl,rfl⟩;unfold uL zQ a_;dsimp only[eN,eQ,R.bnd,b_,c_];have u:(O++[pO ((aL i).filter λp=>(pS cs).contains p)])[O.length]?=XV (pO ((aL i).filter λp=>(pS cs).contains p)):=by simp
   rw[u];dsimp only;rw[Y2 (by unfold pO;rw[au];lia)];dsimp only[R.bnS];rw[gh _ _ (aD _),g9,fi,H];unfold pO;rw[bT];rfl
  ·rw[Z5 o];refine⟨_,_,rfl,_,_,rfl,?_⟩;rw[i0,f6,cY,gM,Z5 o,bP]
 have I:pZ 1 (wY c_) [XV (.str cs),X9,X9,X9] O=.nx [XV (.str cs),XV (.own O.length),X9,X9] (O++[[]]):=rfl;have J:rU (b_ (e_ (fI s_) (dC (.int 1)) (l_ qt (b_ (a_ 0) c_))) c_) [XV (.str cs),XV (.own O.length),X9,X9] (O++[[]])=.ok (.val ((aL (2 ^ cs.length)).map λ(i:Nat)=>D.int (i:Int))) (O++[[]]):=by
  refine yX (p8 ((qC rfl ((uM (p8 rfl)).trans (GR 'd'))).trans ?_)) 'd';have:cs.length=1\/cs.length=2\/cs.length=3\/cs.length=4:=by lia
  rcases this with e|e|e|e<;>rw[e]<;>rfl
 obtain⟨a,l,v,y,z,rfl,rfl⟩:=GW (λi k b=>∃y z,k=[XV (.str cs),XV (.own O.length),y,z]/\b=O++[pO ((aL i).filter λp=>(pS cs).contains p)]) j (2 ^ cs.length) 0 [XV (.str cs),XV (.own O.length),X9,X9] (O++[[]]) ⟨X9,X9,rfl,rfl⟩ 'k' (bX _);have A:((aL (2 ^ cs.length)).map λ(i:Nat)=>D.int (i:Int)).length=2 ^ cs.length:=by simp
 rw[A] at v;have K:(aL (2 ^ cs.length)).filter (λp=>(pS cs).contains p)=pS cs:=by simpa using ar.mp zcv cs h
 rw[K] at v;show uK O.length (fin (m_ (pZ 1 (wY c_)) _ [XV (.str cs),X9,X9,X9] O))=_;rw[r_ I,r_ ((Jz J).trans (by
  show vq _ _ ((aL (2 ^ cs.length)).map λ(i:Nat)=>D.int (i:Int)).length 0 _ _=_;rw[A];exact v)),sv (x:=.own O.length) rfl]
 refine zcj B [pO (pS cs)] ?_;unfold frz;dsimp only;rw[Z5 (bz _)];have u:(O++[pO (pS cs)])[O.length]?=XV (pO (pS cs)):=by simp
 rw[u];dsimp only;rw[wm λd c=>?_]
 ·rfl
 ·obtain⟨q,_,rfl⟩:=aB.mp c;exact DH rfl
def vm(d:D):Prop:=d=.int 0\/d=.int 1\/d=.non
def uF:D->Bool
 |.int i=>i==0
 |_=>Y1
structure Fn(n:Nat)(f:List D):Prop where
 n1:1<=n
 n4:n<=4
 len:f.length=2 ^ n
 ans:∀d∈f,vm d
def tP(f:List D)(cs:List Nat):Bool:=(pS cs).all λp=>!uF (f.getD p .non)
def ne0(O:Ow){d:D}(h:vm d):qe rH O d (.int 0)=.ok (.bl (!uF d)) O:=by rcases h with rfl|rfl|rfl<;>kernel_rfl
def Ax{n:Nat}(a:1<=n)(b:n<=4):n=1\/n=2\/n=3\/n=4:=by lia
def xG{n:Nat}(a:1<=n)(b:n<=4){cs:List Nat}(h:cs∈X7 n):cs∈oC:=by unfold oC;rcases Ax a b with rfl|rfl|rfl|rfl<;>simp[h]
def z75:([1,2,3,4].all λn=>(X7 n).all λcs=>cs.length==n)=YP:=by decide +kernel
def xh{n:Nat}(a:1<=n)(b:n<=4){cs:List Nat}(h:cs∈X7 n):cs.length=n:=by have:=ar.mp z75 n (by rcases Ax a b with rfl|rfl|rfl|rfl<;>simp);simpa using ar.mp this cs h
def zbb:(oC.all λcs=>(pS cs).all λp=>decide (p<2 ^ cs.length))=YP:=by decide +kernel
def Gr{cs:List Nat}(h:cs∈oC){p:Nat}(a:p∈pS cs):p<2 ^ cs.length:=by have:=ar.mp zbb cs h;simpa using ar.mp this p a
def z9d:(oC.all λcs=>decide ((pS cs).length<=16))=YP:=by decide +kernel
def B_{cs:List Nat}(h:cs∈oC):(pS cs).length<=16:=by simpa using ar.mp z9d cs h
theorem OQ:∀l:List Bool,wM (l.map D.bl)=XV l
 |[]=>rfl
 | b::l=>by
  show(wM (l.map D.bl)).map (b :: ·)=_;rw[OQ l];rfl
def QE(O:Ow)(l:List Bool):yI O [.lst (l.map D.bl)]=.ok (.bl (l.all id)) O:=by show(match wM (l.map D.bl) with|some bs=>R.ok (D.bl (bs.all id)) O|none=>R.bad)=_;rw[OQ]
def Dh{f:List D}{p:Nat}(h:p<f.length):f.getD p .non=f[p]:=by rw[aY,ay h];rfl
def Kx{α:Type}(l:List α):l.filter (λ_=>YP)=l:=by simp
def Qu{n:Nat}{f:List D}(a:Fn n f){cs:List Nat}(h:cs∈X7 n)(O:Ow):Aa [.tup f,.str cs] O=.ok (.bl (tP f cs)) O:=by
 have b:=xG a.n1 a.n4 h;have l:=xh a.n1 a.n4 h;have c:pR (j_ 1 sH (b_ (a_ 1) c_)) [XV (.tup f),XV (.str cs)] O=.ok (.val (pO (pS cs))) O:=uD ((sI (p8 rfl) rfl).trans (AW b O));have j:=DR (ext:=1) (i:=2) (ts:=[]) (te:=e_ (qe rH) (e_ p9 (a_ 0) (a_ 2)) (dC (.int 0))) (p:=λ_=>YP) (e:=λd=>.bl (match d with|.int i=>!uF (f.getD i.toNat .non)|_=>Y1)) c (by unfold pO;have:=B_ b;simp;lia) (λd k=>rfl) (λd k _=>by
  obtain⟨q,m,rfl⟩:=aB.mp k;have g:q<f.length:=by rw[a.len,<- l];exact Gr b m
  refine(qC ((qC rfl rfl).trans (JC (i:=q) g)) rfl).trans ((ne0 O (a.ans _ (cu g))).trans ?_);have:((q:Int)).toNat=q:=by lia
  show _=R.ok (D.bl (!uF (f.getD ((q:Int)).toNat .non))) O;rw[this,Dh g]) Y1
 have o:(((pO (pS cs)).filter λ_=>YP).map λd=>D.bl (match d with|.int i=>!uF (f.getD i.toNat .non)|_=>Y1))=((pS cs).map λp=>!uF (f.getD p .non)).map D.bl:=by
  rw[Kx];unfold pO;rw[bi,bi];exact gF λq _=>by
   show D.bl (!uF (f.getD ((q:Int)).toNat .non))=D.bl (!uF (f.getD q .non));have:((q:Int)).toNat=q:=by lia
   rw[this]
 rw[o] at j;show fin (pU _ [XV (.tup f),XV (.str cs)] O)=_;rw[sv ((uM (p8 j)).trans (QE O _))];show R.ok (D.bl _) O=_;unfold tP;congr 2;rw[mh];rfl
def zdC(O:Ow){d:D}(h:vm d):DU [d] O=.ok (.bl YP) O:=by rcases h with rfl|rfl|rfl<;>kernel_rfl
def DQ{n:Nat}(a:n<=4):2 ^ n<=16:=aE (cX 'u' a) 'u'
def GL(O:Ow)(f:List D):qt O [.tup f]=.ok (.int f.length) O:=rfl
def z5I{n:Nat}{f:List D}(a:Fn n f)(O:Ow):DY [.tup f] O=.ok (.bl YP) O:=by
 have b:=DR (ext:=1) (i:=1) (ts:=[]) (te:=j_ 1 DU (b_ (a_ 1) c_)) (it0:=pR (a_ 0)) (σ:=[XV (.tup f)]) (O:=O) (ds:=f) (p:=λ_=>YP) (e:=λ_=>.bl YP) rfl (by have:=DQ a.n4;have:=a.len;lia) (λd c=>rfl) (λd c _=>(sI (p8 rfl) rfl).trans (zdC O (a.ans d c))) Y1;have g:(f.filter λ_=>YP).map (λ_=>D.bl YP)=(f.map λ_=>YP).map D.bl:=by rw[Kx,bi];rfl
 rw[g] at b;have h:qM (xv (tG (qP (yP "tuple" (a_ 0)))) (pQ (yV YP wt (l_ qt (b_ (a_ 0) c_))))) (pU (dC (.bl Y1))) qQ [XV (.tup f)] O=.nx [XV (.tup f)] O:=by
  have:xv (tG (qP (yP "tuple" (a_ 0)))) (pQ (yV YP wt (l_ qt (b_ (a_ 0) c_)))) [XV (.tup f)] O=.ok Y1 O:=by
   show(pQ (yV YP wt (l_ qt (b_ (a_ 0) c_))) [XV (.tup f)] O)=_;refine sj ?_;show R.ok (D.bl (if YP=YP then !(uf wt (f.length:Nat)).isSome else _)) O=_;rw[a.len];rcases Ax a.n1 a.n4 with rfl|rfl|rfl|rfl<;>rfl
  rw[vO this];rfl
 show fin (m_ _ _ [XV (.tup f)] O)=_;rw[r_ h,sv ((uM (p8 b)).trans (QE O _))];show R.ok (D.bl _) O=_;congr 2;rw[mh];exact ar.mpr λ_ _=>rfl
def Yw{n:Nat}{f:List D}(a:Fn n f)(O:Ow):Cp [.tup f] O=.ok .non O:=by show fin (qM _ _ qQ [XV (.tup f)] O)=_;have b:j_ 1 DY (b_ (a_ 0) c_) [XV (.tup f)] O=.ok (.bl YP) O:=(sI (p8 rfl) rfl).trans (z5I a O);rw[vO (xI (yo b))];rfl
def z9v{n:Nat}{f:List D}(a:Fn n f)(O:Ow):DZ [.tup f] O=.ok (.int n) O:=by
 show fin (pU (CO wt (l_ qt (b_ (a_ 0) c_))) [XV (.tup f)] O)=_;have:CO wt (l_ qt (b_ (a_ 0) c_)) [XV (.tup f)] O=.ok (.int n) O:=by
  show(match uf wt (f.length:Nat) with|some v=>R.ok (D.int v) O|none=>R.bad)=_;rw[a.len];rcases Ax a.n1 a.n4 with rfl|rfl|rfl|rfl<;>rfl
 rw[sv this];rfl
def z7O{n:Nat}(a:1<=n)(b:n<=4)(O:Ow):y0 [.int n] O=.ok (.lst ((X7 n).map .str)) O:=by
 rcases Ax a b with rfl|rfl|rfl|rfl
 ·exact z72 O
 ·exact z71 O
 ·exact z6K O
 ·exact z6B O
def QY{n:Nat}(a:1<=n)(b:n<=4):(X7 n).length<=81:=by rcases Ax a b with rfl|rfl|rfl|rfl<;>decide
def vp(n:Nat)(f:List D):List (List Nat):=(X7 n).filter (tP f)
def Nb:D->List Nat
 |.str cs=>cs
 |_=>[]
def zbv(l:List (List Nat))(p:List Nat->Bool):((l.map D.str).filter λd=>p (Nb d)).map (λd=>d)=(l.filter p).map D.str:=by rw[List.map_id',nJ];rfl
def z7d{n:Nat}{f:List D}(a:Fn n f)(O:Ow):D8 [.tup f] O=.ok (.lst ((vp n f).map .str)) O:=by
 have c:pR (j_ 1 y0 (b_ (j_ 1 DZ (b_ (a_ 0) c_)) c_)) [XV (.tup f)] O=.ok (.val ((X7 n).map .str)) O:=
  uD ((sI (p8 ((sI (p8 rfl) rfl).trans (z9v a O))) rfl).trans (z7O a.n1 a.n4 O))
 have g:=DR (ext:=1) (i:=1) (ts:=[(qP (j_ 2 Aa (b_ (a_ 0) (b_ (a_ 1) c_))))]) (te:=a_ 1) (p:=λd=>tP f (Nb d)) (e:=λd=>d) c (by have:=QY a.n1 a.n4;simp;lia) (λd h=>by
  obtain⟨b,j,rfl⟩:=aB.mp h;have k:qP (j_ 2 Aa (b_ (a_ 0) (b_ (a_ 1) c_))) [XV (.tup f),XV (.str b)] O=.ok (tP f b) O:=yo ((sI (qL rfl rfl) rfl).trans (Qu a j O));show((qP (j_ 2 Aa (b_ (a_ 0) (b_ (a_ 1) c_))) [XV (.tup f),XV (.str b)] O).bnd _)=R.ok (tP f b) O;rw[k];cases tP f b<;>rfl) (λd h _=>rfl) Y1
 rw[zbv] at g;show fin (m_ (uL (j_ 1 Cp (b_ (a_ 0) c_))) _ [XV (.tup f)] O)=_;have l:j_ 1 Cp (b_ (a_ 0) c_) [XV (.tup f)] O=.ok .non O:=(sI (p8 rfl) rfl).trans (Yw a O);rw[r_ (J3 l),sv g];rfl
structure oQ(O:Ow)(m:Nat)(s:Int)(b:Bool):Prop where
 at_:O[m]?=XV [.int s,.bl b]
 nn:0<=s
 lt:b=Y1->s<2147483647
def oQ.len{O:Ow}{m:Nat}{s:Int}{b:Bool}(h:oQ O m s b):m<O.length:=(aq.mp h.at_).1
def GO{O:Ow}{m:Nat}{x y:D}(h:O[m]?=XV [x,y]):p9 O (.own m) (.int 0)=.ok x O:=by show(match O[m]? with|some ds=>(match L2.atI ds 0 with|some d=>R.ok d O|none=>R.bad)|none=>_)=_;rw[h];rfl
def Qj{O:Ow}{m:Nat}{x y:D}(h:O[m]?=XV [x,y]):p9 O (.own m) (.int 1)=.ok y O:=by show(match O[m]? with|some ds=>(match L2.atI ds 1 with|some d=>R.ok d O|none=>R.bad)|none=>_)=_;rw[h];rfl
def JB{te b c:DE}{σ:Sg}{O O1 O2 a:Ow}{y:D}{k:Nat}{i:Int}{ds:List D}{j:Nat}(d:te σ O=.ok y O1)(e:b σ O1=.ok (.own k) O2)(f:c σ O2=.ok (.int i) a)(g:a[k]?=XV ds)(h:L2.ixN ds.length i=XV j):
  xw te b c σ O=.nx σ (a.set k (ds.set j y)):=by show((te σ O).bnS _)=_;rw[d];show((b σ O1).bnS _)=_;rw[e];show((c σ O2).bnS _)=_;rw[f];show(match a[k]? with|some ds=>(match L2.ixN ds.length i with|some j=>RS.nx σ (a.set k (ds.set j y))|none=>RS.bad)|none=>RS.bad)=_;rw[g];show(match L2.ixN ds.length i with|some j=>RS.nx σ (a.set k (ds.set j y))|none=>RS.bad)=_;rw[h]
def B3{O:Ow}{i j:Int}(h:0<j):fI tO O (.int i) (.int j)=.ok (.int (i%j)) O:=by show(match tO i j with|some d=>R.ok d O|none=>R.bad)=_;unfold tO;rw[Y2 h]
def NO{O:Ow}{i j:Int}(h:0<j)(a:j<1073741824):fI wa O (.int i) (.int j)=.ok (.int (i/j)) O:=by show(match wa i j with|some d=>R.ok d O|none=>R.bad)=_;unfold wa;rw[Y2 ⟨h,a⟩]
def Dp{O:Ow}{i j:Int}(h:-1000000000000000<i)(a:i<1000000000000000):fI uJ O (.int i) (.int j)=.ok (.int (i*j)) O:=by show(match uJ i j with|some d=>R.ok d O|none=>R.bad)=_;unfold uJ;rw[Y2 (.inl ⟨h,a⟩)]
def Dw{O:Ow}{i j:Int}:sh O (.int i) (.int j)=.ok (.int (i+j)) O:=rfl
def Cb{O:Ow}{m:Nat}{s:Int}{b:Bool}(h:oQ O m s b){k:Nat}(H:1<=k)(I:k<=1000):
  ∃(r:Nat)(d:Int),r<k/\uC [.own m,.int k] O=.ok (.int r) (O.set m [.int d,.bl b])/\oQ (O.set m [.int d,.bl b]) m d b:=by
 have f:(0:Int)<(k:Int):=by lia
 have g:∀d,(O.set m [.int d,.bl b])[m]?=XV [D.int d,D.bl b]:=λd=>by rw[bA h.len]
 have A:∀x:Int,∃r:Nat,r<k/\x%(k:Int)=(r:Int):=λx=>by
  have J:=i5 x (show(k:Int)≠0 by lia);have K:=hJ x f;exact⟨(x%(k:Int)).toNat,by lia,by lia⟩
 cases b with
 | true=>
  obtain⟨r,i,l⟩:=A s;refine⟨r,s/k,i,?_,g _,Int.ediv_nonneg h.nn 'd',λz=>by cases z⟩;have n:qP (e_ p9 (a_ 0) (dC (.int 1))) [XV (.own m),XV (.int k),X9,X9] O=.ok YP O:=yo ((qC rfl rfl).trans (Qj h.at_));have o:pZ 2 (e_ (fI tO) (e_ p9 (a_ 0) (dC (.int 0))) (a_ 1)) [XV (.own m),XV (.int k),X9,X9] O=.nx [XV (.own m),XV (.int k),XV (.int r),X9] O:=by
   rw[wk ((qC ((qC rfl rfl).trans (GO h.at_)) rfl).trans (B3 f)),l];rfl
  have p:xw (e_ (fI wa) (e_ p9 (a_ 0) (dC (.int 0))) (a_ 1)) (a_ 0) (dC (.int 0)) [XV (.own m),XV (.int k),XV (.int r),X9] O=.nx [XV (.own m),XV (.int k),XV (.int r),X9] (O.set m [.int (s/k),.bl YP]):=
   JB (ds:=[.int s,.bl YP]) (j:=0) ((qC ((qC rfl rfl).trans (GO h.at_)) rfl).trans (NO f 'd')) rfl rfl h.at_ rfl
  show fin (m_ (qM _ _ _) _ [XV (.own m),XV (.int k),X9,X9] O)=_;have q:qM (qP (e_ p9 (a_ 0) (dC (.int 1)))) (m_ (pZ 2 (e_ (fI tO) (e_ p9 (a_ 0) (dC (.int 0))) (a_ 1))) (m_ (xw (e_ (fI wa) (e_ p9 (a_ 0) (dC (.int 0))) (a_ 1)) (a_ 0) (dC (.int 0))) (pU (a_ 2)))) qQ [XV (.own m),XV (.int k),X9,X9] O=.rt (.int r) (O.set m [.int (s/k),.bl YP]):=by
   rw[vO n,Y2 rfl,r_ o,r_ p];rfl
  rw[Dk q];rfl
 | false=>
  have L:=h.lt rfl;let a:Int:=(s*48271+29)%2147483647;have t:0<=a:=i5 _ 'u';have u:a<2147483647:=hJ _ 'u';let c:=O.set m [.int a,.bl Y1];have B:c[m]?=XV [D.int a,D.bl Y1]:=g a;let e:Int:=(a*a+39373*a+7)%2147483629;have C:0<=e:=i5 _ 'u';have E:e<2147483629:=hJ _ 'u';let v:Int:=(e*e+16807*e)%2147483587;have n:qP (e_ p9 (a_ 0) (dC (.int 1))) [XV (.own m),XV (.int k),X9,X9] O=.ok Y1 O:=yo ((qC rfl rfl).trans (Qj h.at_));have F:qM (qP (e_ p9 (a_ 0) (dC (.int 1)))) (m_ (pZ 2 (e_ (fI tO) (e_ p9 (a_ 0) (dC (.int 0))) (a_ 1))) (m_ (xw (e_ (fI wa) (e_ p9 (a_ 0) (dC (.int 0))) (a_ 1)) (a_ 0) (dC (.int 0))) (pU (a_ 2)))) qQ [XV (.own m),XV (.int k),X9,X9] O=.nx [XV (.own m),XV (.int k),X9,X9] O:=by
   rw[vO n];rfl
  have o:xw (e_ (fI tO) (e_ sh (e_ (fI uJ) (e_ p9 (a_ 0) (dC (.int 0))) (dC (.int 48271))) (dC (.int 29))) (dC (.int 2147483647))) (a_ 0) (dC (.int 0)) [XV (.own m),XV (.int k),X9,X9] O=.nx [XV (.own m),XV (.int k),X9,X9] c:=
   JB (ds:=[.int s,.bl Y1]) (j:=0) ((qC ((qC ((qC ((qC rfl rfl).trans (GO h.at_)) rfl).trans (Dp (by have:=h.nn;lia) 'd')) rfl).trans Dw) rfl).trans (B3 'u')) rfl rfl h.at_ rfl
  have y:∀z w,e_ p9 (a_ 0) (dC (.int 0)) [XV (.own m),XV (.int k),z,w] c=.ok (.int a) c:=λz w=>(qC rfl rfl).trans (GO B);have p:pZ 3 (e_ (fI tO) (e_ sh (e_ sh (e_ (fI uJ) (e_ p9 (a_ 0) (dC (.int 0))) (e_ p9 (a_ 0) (dC (.int 0)))) (e_ (fI uJ) (dC (.int 39373)) (e_ p9 (a_ 0) (dC (.int 0))))) (dC (.int 7))) (dC (.int 2147483629))) [XV (.own m),XV (.int k),X9,X9] c=.nx [XV (.own m),XV (.int k),X9,XV (.int e)] c:=
   wk ((qC ((qC ((qC ((qC (y X9 X9) (y X9 X9)).trans (Dp 'd' 'd')) ((qC rfl (y X9 X9)).trans (Dp 'u' 'u'))).trans Dw) rfl).trans Dw) rfl).trans (B3 'u'))
  have q:pZ 3 (e_ (fI tO) (e_ sh (e_ (fI uJ) (a_ 3) (a_ 3)) (e_ (fI uJ) (dC (.int 16807)) (a_ 3))) (dC (.int 2147483587))) [XV (.own m),XV (.int k),X9,XV (.int e)] c=.nx [XV (.own m),XV (.int k),X9,XV (.int v)] c:=
   wk ((qC ((qC ((qC rfl rfl).trans (Dp 'd' 'd')) ((qC rfl rfl).trans (Dp 'u' 'u'))).trans Dw) rfl).trans (B3 'u'))
  obtain⟨r,i,l⟩:=A (v/8);refine⟨r,a,i,?_,g _,t,λ_=>u⟩;have G:pU (e_ (fI tO) (e_ (fI wa) (a_ 3) (dC (.int 8))) (a_ 1)) [XV (.own m),XV (.int k),X9,XV (.int v)] c=.rt (.int r) c:=by
   rw[sv ((qC ((qC rfl rfl).trans (NO 'u' 'u')) rfl).trans (B3 f)),l]
  show fin (m_ _ _ [XV (.own m),XV (.int k),X9,X9] O)=_;rw[r_ F,r_ o,r_ p,r_ q,G];rfl
def zeR{ns:List Int}{k:Nat}(O:Ow):∃s b,D6 [.lst (ns.map .int),.int k] O=.ok (.own O.length) (O++[[.int s,.bl b]])/\oQ (O++[[.int s,.bl b]]) O.length s b:=by
 have f:∀s b,(O++[[D.int s,D.bl b]])[O.length]?=XV [D.int s,D.bl b]:=λs b=>by simp
 obtain⟨c,l⟩:∃c:Int,D3 [.lst (ns.map .int),.int k] O=.ok (.int c) O:=by
  have d:pQ (e_ wJ (a_ 1) (l_ qt (b_ (a_ 0) c_))) [XV (.lst (ns.map .int)),XV (.int k)] O=.ok (decide ((k:Int)<(ns.map D.int).length)) O:=sj ((qC rfl ((uM (p8 rfl)).trans rfl)).trans rfl);by_cases g:(k:Int)<(ns.map D.int).length
  ·have e:k<(ns.map D.int).length:=by lia
   have m:e_ p9 (a_ 0) (a_ 1) [XV (.lst (ns.map .int)),XV (.int k)] O=.ok (ns.map D.int)[k] O:=(qC rfl rfl).trans (Dl e);refine⟨ns[k]'(by simpa using e),?_⟩;show fin (m_ _ _ [XV (.lst (ns.map .int)),XV (.int k)] O)=_;have a:qM (pQ (e_ wJ (a_ 1) (l_ qt (b_ (a_ 0) c_)))) (pU (e_ p9 (a_ 0) (a_ 1))) qQ [XV (.lst (ns.map .int)),XV (.int k)] O=.rt (.int (ns[k]'(by simpa using e))) O:=by
    rw[vO d,Y2 (decide_eq_true g),sv m];simp
   rw[Dk a];rfl
  ·refine⟨0,?_⟩;show fin (m_ _ _ [XV (.lst (ns.map .int)),XV (.int k)] O)=_;have a:qM (pQ (e_ wJ (a_ 1) (l_ qt (b_ (a_ 0) c_)))) (pU (e_ p9 (a_ 0) (a_ 1))) qQ [XV (.lst (ns.map .int)),XV (.int k)] O=.nx [XV (.lst (ns.map .int)),XV (.int k)] O:=by
    rw[vO d,Z5 (by simpa using g)];rfl
   rw[r_ a];rfl
 have h:pZ 2 (j_ 2 D3 (b_ (a_ 0) (b_ (a_ 1) c_))) [XV (.lst (ns.map .int)),XV (.int k),X9] O=.nx [XV (.lst (ns.map .int)),XV (.int k),XV (.int c)] O:=wk ((sI (qL rfl rfl) rfl).trans l);have i:∀σ,e_ (fI xr) (dC (.int 10)) (dC (.int 18)) σ O=.ok (.int 1000000000000000000) O:=λσ=>by
  refine(qC (σ:=σ) (O:=O) rfl rfl).trans ?_;kernel_rfl
 have d:pQ (e_ Bu (a_ 2) (e_ (fI xr) (dC (.int 10)) (dC (.int 18)))) [XV (.lst (ns.map .int)),XV (.int k),XV (.int c)] O=.ok (decide ((1000000000000000000:Int)<=c)) O:=sj ((qC rfl (i _)).trans rfl);by_cases j:(1000000000000000000:Int)<=c
 ·refine⟨c-1000000000000000000,YP,?_,f _ _,by lia,λz=>by cases z⟩;have a:qM (pQ (e_ Bu (a_ 2) (e_ (fI xr) (dC (.int 10)) (dC (.int 18))))) (pU (wY (b_ (e_ (fI xy) (a_ 2) (e_ (fI xr) (dC (.int 10)) (dC (.int 18)))) (b_ (dC (.bl YP)) c_)))) qQ [XV (.lst (ns.map .int)),XV (.int k),XV (.int c)] O=.rt (.own O.length) (O++[[.int (c-1000000000000000000),.bl YP]]):=by
   rw[vO d,Y2 (decide_eq_true j)];refine sv ?_;show((b_ _ _ _ O).bnd _)=_;rw[qL ((qC rfl (i _)).trans rfl) rfl];rfl
  show fin (m_ _ _ [XV (.lst (ns.map .int)),XV (.int k),X9] O)=_;rw[r_ h,Dk a];rfl
 ·refine⟨c%2147483647,Y1,?_,f _ _,i5 _ 'u',λ_=>hJ _ 'u'⟩;have a:qM (pQ (e_ Bu (a_ 2) (e_ (fI xr) (dC (.int 10)) (dC (.int 18))))) (pU (wY (b_ (e_ (fI xy) (a_ 2) (e_ (fI xr) (dC (.int 10)) (dC (.int 18)))) (b_ (dC (.bl YP)) c_)))) qQ [XV (.lst (ns.map .int)),XV (.int k),XV (.int c)] O=.nx [XV (.lst (ns.map .int)),XV (.int k),XV (.int c)] O:=by
   rw[vO d,Z5 (by simpa using j)];rfl
  show fin (m_ _ _ [XV (.lst (ns.map .int)),XV (.int k),X9] O)=_;rw[r_ h,r_ a];have n:wY (b_ (e_ (fI tO) (a_ 2) (dC (.int 2147483647))) (b_ (dC (.bl Y1)) c_)) [XV (.lst (ns.map .int)),XV (.int k),XV (.int c)] O=.ok (.own O.length) (O++[[.int (c%2147483647),.bl Y1]]):=by
   show((b_ _ _ _ O).bnd _)=_;rw[qL ((qC rfl rfl).trans (B3 'u')) rfl];rfl
  rw[sv n];rfl
def Zq{O:Ow}{m:Nat}{x:List D}(h:O[m]?=XV x):O.set m x=O:=by obtain⟨a,rfl⟩:=aq.mp h;exact List.set_getElem_self a
def JW{O:Ow}(h:Av O)(m:Nat)(s:Int)(b:Bool):Av (O.set m [.int s,.bl b]):=by
 intro c e d a;rw[cb];rcases fE e with f|rfl
 ·exact h c f d a
 ·simp only[am,ba,or_false] at a;rcases a with rfl|rfl<;>rfl
def J1{a:Ow}(b:Av a)(X:Ow){d d':D}(h:frz (a++X) a.length 8 d=XV d'):uK a.length (.ok d (a++X))=.ok d' a:=by
 unfold uK;dsimp only;rw[h];have:(a++X).take a.length=a:=by simp
 rw[this,wm λc e=>wm λd f=>DH (b c e d f)]
def QM{ext:Nat}{it0:DI}{i:Nat}{te:DE}{σ:Sg}{O:Ow}{ds:List D}{m:Nat}{s:Int}{b:Bool}{P:D->Prop}(n:oQ O m s b)(p:it0 σ O=.ok (.val ds) O)(y:ds.length<1900000)
  (q:∀d∈ds,∀c,oQ (O.set m [.int c,.bl b]) m c b->∃v f,te ((qo (qo (σ++aP ext X9) [i]) [i]).set i (XV d)) (O.set m [.int c,.bl b])=.ok v (O.set m [.int f,.bl b])/\oQ (O.set m [.int f,.bl b]) m f b/\P v):
  ∃vs c,pV Y1 ext it0 (.one i) [] [] te σ O=.ok (.lst vs) (O.set m [.int c,.bl b])/\oQ (O.set m [.int c,.bl b]) m c b/\vs.length=ds.length/\∀v∈vs,P v:=by
 obtain⟨a,g,e,c,rfl,h,k,l⟩:=QS (ds:=ds) (step:=zS ⟨it0,.one i,[]⟩ [] te (qo (σ++aP ext X9) (qm [⟨it0,.one i,[]⟩])))
  (λj g a=>∃c,g=O.set m [.int c,.bl b]/\oQ g m c b/\a.length=j/\∀v∈a,P v) (λj g a d r o=>by
   obtain⟨c,rfl,h,k,l⟩:=r;have z:=(aq.mp o).1;obtain⟨v,f,t,u,x⟩:=q d (aN o) c h;refine⟨a++[v],_,?_,f,rfl,u,by simp[k],λw hw=>?_⟩
   ·show we [] te ((qo (qo (σ++aP ext X9) [i]) [i]).set i (XV d)) (O.set m [.int c,.bl b]) a=_;unfold we;rw[t];show(if a.length<4000000 then _ else _)=_;rw[Y2 'd']
   ·rcases aH.mp hw with hw|hw
    ·exact l w hw
    ·have:w=v:=by simpa using hw
     rw[this];exact x) ds.length 0 O [] ⟨s,(Zq n.at_).symm,n,rfl,by simp⟩ 'd' (bX _)
 refine⟨a,c,?_,h,k,l⟩;unfold pV AQ;rw[p];show wW Y1 (xM (qD (.val ds) _ ds.length 0 O []))=_;rw[e];rfl
theorem Kh:∀(n:Nat)(cs:List Nat),cs.length=n->(∀c∈cs,sgn c=YP)->cs∈X7 n
 | 0,cs,h,_=>by
  have:cs=[]:=cj.mp h;subst this;simp[X7]
 | n+1,cs,h,hs=>by
  have b:cs≠[]:=by intro e;subst e;simp at h
  obtain⟨t,c,rfl⟩:∃t c,cs=t++[c]:=⟨_,_,(List.dropLast_concat_getLast b).symm⟩;have d:=Kh n t (by simpa using h) λc f=>hs c (bB _ f);unfold X7;rw[iH];refine⟨t,d,?_⟩;have a:=hs c 'k';unfold sgn at a;simp only[dH,beq_iff_eq] at a;rcases a with(z|z)|z<;>rw[z]<;>simp
def XS{σ:Sg}{O f:Ow}{e:DA}:∀(cs:List Nat),1<=cs.length->cs.length<=4->e σ O=.ok [.lst (cs.map λc=>.str [c])] f->Gc (dC (.str [])) e σ O=.ok (.str cs) f
 |[],h,_,_=>by simp at h
 |[a],_,_,h=>by show((e σ O).bnd _)=_;rw[h];rfl
 |[a,b],_,_,h=>by show((e σ O).bnd _)=_;rw[h];rfl
 |[a,b,c],_,_,h=>by show((e σ O).bnd _)=_;rw[h];rfl
 |[a,b,c,d],_,_,h=>by show((e σ O).bnd _)=_;rw[h];rfl
 |_::_::_::_::_::_,_,h,_=>by simp at h
theorem PJ:∀(vs:List D),(∀v∈vs,∃c,v=D.str [c]/\sgn c=YP)->∃cs:List Nat,vs=cs.map (λc=>D.str [c])/\∀c∈cs,sgn c=YP
 |[],_=>⟨[],rfl,by simp⟩
 | v::vs,h=>by
  obtain⟨c,rfl,a⟩:=h v al;obtain⟨cs,rfl,b⟩:=PJ vs λw d=>h w (ai _ d);exact⟨c::cs,rfl,λx f=>(am.mp f).elim (λe=>by rw[e];exact a) (b x)⟩
def Yh{O:Ow}{m:Nat}{s:Int}{b:Bool}(h:oQ O m s b){n:Nat}(A:1<=n)(B:n<=4):
  ∃cs a,cs∈X7 n/\DV [.own m,.int n] O=.ok (.str cs) (O.set m [.int a,.bl b])/\oQ (O.set m [.int a,.bl b]) m a b:=by
 have g:rU (b_ (a_ 1) c_) [XV (.own m),XV (.int n)] O=.ok (.val ((aL n).map λ(i:Nat)=>D.int (i:Int))) O:=yX (p8 rfl) 'd';obtain⟨j,a,l,o,p,q⟩:=QM (ext:=1) (i:=2) (te:=e_ p9 (dC (.str [48,49,45,45])) (j_ 2 uC (b_ (a_ 0) (b_ (dC (.int 4)) c_)))) (P:=λv=>∃c,v=D.str [c]/\sgn c=YP) h g (by simp;lia) (λd C a t=>by
  obtain⟨r,u,w,e,f⟩:=Cb t (k:=4) 'u' 'u';rw[d6] at e f;have x:r<[48,49,45,45].length:=w;refine⟨D.str [[48,49,45,45][r]],u,(qC rfl ((sI (qL rfl rfl) rfl).trans e)).trans (Dt 'u' x),f,_,rfl,?_⟩;have:r=0\/r=1\/r=2\/r=3:=by lia
  rcases this with rfl|rfl|rfl|rfl<;>rfl)
 obtain⟨cs,rfl,y⟩:=PJ j q;have z:cs.length=n:=by simpa using p
 refine⟨cs,a,Kh n cs z y,?_,o⟩;show fin (pU _ [XV (.own m),XV (.int n)] O)=_;rw[sv (XS cs 'd' 'd' (p8 l))];rfl
def Jj{σ:Sg}{O:Ow}{t:DE}{n:Nat}(a:n<=4)(h:t σ O=.ok (.int n) O):e_ (fI s_) (dC (.int 1)) t σ O=.ok (.int ((2 ^ n:Nat):Int)) O:=by
 refine(qC rfl h).trans ?_;have:n=0\/n=1\/n=2\/n=3\/n=4:=by lia
 rcases this with rfl|rfl|rfl|rfl|rfl<;>rfl
def XD(O:Ow)(p:Int)(l:List Int):rT O (.int p) (.lst (l.map D.int))=.ok (.bl (l.any λq=>q==p)) O:=by
 show qe zj O (.int p) (.lst (l.map D.int))=_;unfold qe py;have e:qz O 8 (.lst (l.map D.int))=XV (.list (l.map gR)):=by
  show(qh (qz O 7) (l.map D.int)).map ee=_;rw[J4];rfl
 rw[e];show R.ok (D.bl ((l.map gR).any λy=>bd y (.int p))) O=_;rw[List.any_map];rfl
def OC{O:Ow}{n f:Nat}{ds:List D}(h:∀d∈ds,AF n d=YP):frz O n (f+1) (.tup ds)=XV (.tup ds):=by show(qh (frz O n f) ds).map D.tup=_;rw[wm λd a=>DH (h d a)];rfl
def P5{d:D}(h:vm d)(n:Nat):AF n d=YP:=by rcases h with rfl|rfl|rfl<;>rfl
def L8:List D:=[.int 4,.int 3,.int 3,.int 2,.int 4,.int 3,.int 4,.int 1]
def Ls:List D:=[.lst [.int 0,.int 1],.lst [.int 0,.int 1,.non],.lst [.int 0,.int 0,.int 0,.int 1,.non],.lst [.int 1,.int 1,.int 1,.int 0,.non]]
def UT(O:Ow){r:Nat}(h:r<8):∃n:Nat,1<=n/\n<=4/\p9 O (.lst L8) (.int r)=.ok (.int n) O:=by
 have:r=0\/r=1\/r=2\/r=3\/r=4\/r=5\/r=6\/r=7:=by lia
 rcases this with rfl|rfl|rfl|rfl|rfl|rfl|rfl|rfl
 ·exact⟨4,by decide,by decide,rfl⟩
 ·exact⟨3,by decide,by decide,rfl⟩
 ·exact⟨3,by decide,by decide,rfl⟩
 ·exact⟨2,by decide,by decide,rfl⟩
 ·exact⟨4,by decide,by decide,rfl⟩
 ·exact⟨3,by decide,by decide,rfl⟩
 ·exact⟨4,by decide,by decide,rfl⟩
 ·exact⟨1,by decide,by decide,rfl⟩
def Uv(O:Ow){r:Nat}(h:r<4):∃l:List D,1<=l.length/\l.length<=5/\(∀d∈l,vm d)/\p9 O (.lst Ls) (.int r)=.ok (.lst l) O:=by
 have:r=0\/r=1\/r=2\/r=3:=by lia
 rcases this with rfl|rfl|rfl|rfl
 ·exact⟨[.int 0,.int 1],by decide,by decide,by simp[vm],rfl⟩
 ·exact⟨[.int 0,.int 1,.non],by decide,by decide,by simp[vm],rfl⟩
 ·exact⟨[.int 0,.int 0,.int 0,.int 1,.non],by decide,by decide,by simp[vm],rfl⟩
 ·exact⟨[.int 1,.int 1,.int 1,.int 0,.non],by decide,by decide,by simp[vm],rfl⟩
def Zu(n:Nat):1<=2 ^ n:=mq
set_option maxHeartbeats 1000000 in
def z9w{O:Ow}(Q:Av O){m:Nat}{s:Int}{b:Bool}(h:oQ O m s b):
  ∃n f I,Fn n f/\D9 [.own m] O=.ok (.tup f) (O.set m [.int I,.bl b])/\oQ (O.set m [.int I,.bl b]) m I b:=by
 obtain⟨r,S,r1,r2,h1⟩:=Cb h (k:=8) 'u' 'u';obtain⟨n,F,B,hn⟩:=UT (O.set m [.int S,.bl b]) r1;obtain⟨w,v,w1,w2,T⟩:=Cb h1 (k:=6) 'u' 'u';rw[d6] at w2 T;have SO:=DQ B;have e1:pZ 1 (e_ p9 (qO (b_ (dC (.int 4)) (b_ (dC (.int 3)) (b_ (dC (.int 3)) (b_ (dC (.int 2)) (b_ (dC (.int 4)) (b_ (dC (.int 3)) (b_ (dC (.int 4)) (b_ (dC (.int 1)) c_))))))))) (j_ 2 uC (b_ (a_ 0) (b_ (dC (.int 8)) c_)))) [XV (.own m),X9,X9,X9,X9,X9,X9] O=.nx [XV (.own m),XV (.int n),X9,X9,X9,X9,X9] (O.set m [.int S,.bl b]):=
  wk ((qC (x:=.lst L8) rfl ((sI (qL rfl rfl) rfl).trans r2)).trans hn)
 have e2:pZ 2 (j_ 2 uC (b_ (a_ 0) (b_ (dC (.int 6)) c_))) [XV (.own m),XV (.int n),X9,X9,X9,X9,X9] (O.set m [.int S,.bl b])=.nx [XV (.own m),XV (.int n),XV (.int w),X9,X9,X9,X9] (O.set m [.int v,.bl b]):=wk ((sI (qL rfl rfl) rfl).trans w2);have ht:pQ (e_ wJ (a_ 2) (dC (.int 4))) [XV (.own m),XV (.int n),XV (.int w),X9,X9,X9,X9] (O.set m [.int v,.bl b])=.ok (decide ((w:Int)<4)) (O.set m [.int v,.bl b]):=sj ((qC rfl rfl).trans rfl);have hlen:(O.set m [.int v,.bl b]).length=O.length:=cb;by_cases hw:(w:Int)<4
 ·-- answers drawn from a list
  obtain⟨l,l1,l5,la,hl⟩:=Uv (O.set m [.int v,.bl b]) (show w<4 by lia);have U:pZ 3 (e_ p9 (qO (b_ (qO (b_ (dC (.int 0)) (b_ (dC (.int 1)) c_))) (b_ (qO (b_ (dC (.int 0)) (b_ (dC (.int 1)) (b_ (dC .non) c_)))) (b_ (qO (b_ (dC (.int 0)) (b_ (dC (.int 0)) (b_ (dC (.int 0)) (b_ (dC (.int 1)) (b_ (dC .non) c_)))))) (b_ (qO (b_ (dC (.int 1)) (b_ (dC (.int 1)) (b_ (dC (.int 1)) (b_ (dC (.int 0)) (b_ (dC .non) c_)))))) c_))))) (a_ 2)) [XV (.own m),XV (.int n),XV (.int w),X9,X9,X9,X9] (O.set m [.int v,.bl b])=.nx [XV (.own m),XV (.int n),XV (.int w),XV (.lst l),X9,X9,X9] (O.set m [.int v,.bl b]):=
   wk ((qC (x:=.lst Ls) rfl rfl).trans hl)
  have J:rU (b_ (e_ (fI s_) (dC (.int 1)) (a_ 1)) c_) [XV (.own m),XV (.int n),XV (.int w),XV (.lst l),X9,X9,X9] (O.set m [.int v,.bl b])=.ok (.val ((aL (2 ^ n)).map λ(i:Nat)=>D.int (i:Int))) (O.set m [.int v,.bl b]):=yX (p8 (Jj B rfl)) 'd';obtain⟨o,C,c1,c2,c3,c4⟩:=QM (ext:=1) (i:=7) (te:=e_ p9 (a_ 3) (j_ 2 uC (b_ (a_ 0) (b_ (l_ qt (b_ (a_ 3) c_)) c_)))) (P:=vm) T J (by simp;lia) (λd u I hs=>by
   rw[d6] at hs;obtain⟨q,t5,V,G,q3⟩:=Cb hs (k:=l.length) l1 'd';rw[d6] at G q3;rw[d6];refine⟨l[q],t5,?_,by rw[d6];exact q3,la _ (cu V)⟩;rw[d6];exact(qC (x:=.lst l) rfl ((sI (qL rfl ((uM (p8 rfl)).trans rfl)) rfl).trans G)).trans (Dl V))
  rw[d6] at c1 c2;have hv:o.length=2 ^ n:=by simpa using c3
  refine⟨n,o,C,⟨F,B,hv,c4⟩,?_,c2⟩;show uK O.length (fin (m_ _ _ [XV (.own m),X9,X9,X9,X9,X9,X9] O))=_;rw[r_ e1,r_ e2];have W:qM (pQ (e_ wJ (a_ 2) (dC (.int 4)))) (m_ (pZ 3 (e_ p9 (qO (b_ (qO (b_ (dC (.int 0)) (b_ (dC (.int 1)) c_))) (b_ (qO (b_ (dC (.int 0)) (b_ (dC (.int 1)) (b_ (dC .non) c_)))) (b_ (qO (b_ (dC (.int 0)) (b_ (dC (.int 0)) (b_ (dC (.int 0)) (b_ (dC (.int 1)) (b_ (dC .non) c_)))))) (b_ (qO (b_ (dC (.int 1)) (b_ (dC (.int 1)) (b_ (dC (.int 1)) (b_ (dC (.int 0)) (b_ (dC .non) c_)))))) c_))))) (a_ 2))) (pU (l_ tY (b_ (pV Y1 1 (rU (b_ (e_ (fI s_) (dC (.int 1)) (a_ 1)) c_)) (.one 7) [] [] (e_ p9 (a_ 3) (j_ 2 uC (b_ (a_ 0) (b_ (l_ qt (b_ (a_ 3) c_)) c_))))) c_)))) qQ [XV (.own m),XV (.int n),XV (.int w),X9,X9,X9,X9] (O.set m [.int v,.bl b])=.rt (.tup o) (O.set m [.int C,.bl b]):=by
   rw[vO ht,Y2 (decide_eq_true hw),r_ U,sv ((uM (p8 c1)).trans rfl)]
  rw[Dk W];show uK O.length (.ok (.tup o) (O.set m [.int C,.bl b]))=_;have:=J1 (JW Q m C b) [] (d:=.tup o) (d':=.tup o) (OC λd u=>P5 (c4 d u) _);rw[bP,cb] at this;exact this
 ·-- the points of X7
  have U:qM (pQ (e_ wJ (a_ 2) (dC (.int 4)))) (m_ (pZ 3 (e_ p9 (qO (b_ (qO (b_ (dC (.int 0)) (b_ (dC (.int 1)) c_))) (b_ (qO (b_ (dC (.int 0)) (b_ (dC (.int 1)) (b_ (dC .non) c_)))) (b_ (qO (b_ (dC (.int 0)) (b_ (dC (.int 0)) (b_ (dC (.int 0)) (b_ (dC (.int 1)) (b_ (dC .non) c_)))))) (b_ (qO (b_ (dC (.int 1)) (b_ (dC (.int 1)) (b_ (dC (.int 1)) (b_ (dC (.int 0)) (b_ (dC .non) c_)))))) c_))))) (a_ 2))) (pU (l_ tY (b_ (pV Y1 1 (rU (b_ (e_ (fI s_) (dC (.int 1)) (a_ 1)) c_)) (.one 7) [] [] (e_ p9 (a_ 3) (j_ 2 uC (b_ (a_ 0) (b_ (l_ qt (b_ (a_ 3) c_)) c_))))) c_)))) qQ [XV (.own m),XV (.int n),XV (.int w),X9,X9,X9,X9] (O.set m [.int v,.bl b])=.nx [XV (.own m),XV (.int n),XV (.int w),X9,X9,X9,X9] (O.set m [.int v,.bl b]):=by
   rw[vO ht,Z5 (by simpa using hw)];rfl
  obtain⟨q,C,V,G,h3⟩:=Cb T (k:=5) 'u' 'u';rw[d6] at G h3;have J:rU (b_ (e_ sh (dC (.int 1)) (j_ 2 uC (b_ (a_ 0) (b_ (dC (.int 5)) c_)))) c_) [XV (.own m),XV (.int n),XV (.int w),X9,XV (.lst []),X9,X9] (O.set m [.int v,.bl b])=.ok (.val ((aL (1+q)).map λ(i:Nat)=>D.int (i:Int))) (O.set m [.int C,.bl b]):=by
   refine yX (p8 ((qC rfl ((sI (qL rfl rfl) rfl).trans G)).trans ?_)) 'd';rw[Dw];congr 2
  obtain⟨H,K,f1,t,l,y,rfl,rfl,E,E3⟩:=GW (ds:=(aL (1+q)).map λ(i:Nat)=>D.int (i:Int)) (step:=λd L O=>match Tg.put (.one 5) d L with|some H=>(pZ 4 (e_ sh (a_ 4) (j_ 1 Co (b_ (j_ 2 DV (b_ (a_ 0) (b_ (a_ 1) c_))) c_)))) H O|none=>.bad)
   (λi L K=>∃(t:Int)(l:List Nat)(y:Option D),L=[XV (.own m),XV (.int n),XV (.int w),X9,XV (.lst (pO l)),y,X9]/\K=O.set m [.int t,.bl b]/\oQ K m t b/\l.length<=16*i)
   (λi L K d hI u=>by
    obtain⟨t,l,y,rfl,rfl,E,E3⟩:=hI;have J:i<1+q:=by have:=(aq.mp u).1;simpa using this
    obtain⟨M,c,t1,t2,t3⟩:=Yh E F B;rw[d6] at t2 t3;have X:=z6E (xG F B t1) (JW Q m c b);have rz:=B_ (xG F B t1);refine⟨_,_,wk ((qC (x:=.lst (pO l)) rfl ((sI (p8 ((sI (qL rfl rfl) rfl).trans t2)) rfl).trans X)).trans (?_:_=R.ok (D.lst (pO (l++pS M))) _)),c,l++pS M,XV d,rfl,rfl,t3,by simp;lia⟩;show(if (pO l).length+(pO (pS M)).length<=4000000 then R.ok (D.lst (pO l++pO (pS M))) _ else R.bad)=_;rw[Y2 (by unfold pO;simp;lia)];unfold pO;rw[bT])
   (1+q) 0 [XV (.own m),XV (.int n),XV (.int w),X9,XV (.lst []),X9,X9] (O.set m [.int C,.bl b]) ⟨C,[],X9,rfl,rfl,h3,by simp⟩ 'k' (bX _)
  have hx:=E3
  -- the answers
  let g:D->D:=λd=>match d with|.int p=>.int (if ((l.map λ(p:Nat)=>(p:Int)).any λq=>q==p) then 1 else 0)|d=>d
  have Y:rU (b_ (e_ (fI s_) (dC (.int 1)) (a_ 1)) c_) [XV (.own m),XV (.int n),XV (.int w),X9,XV (.lst (pO l)),y,X9] (O.set m [.int t,.bl b])=.ok (.val ((aL (2 ^ n)).map λ(i:Nat)=>D.int (i:Int))) (O.set m [.int t,.bl b]):=yX (p8 (Jj B rfl)) 'd';have hc:=DR (ext:=1) (i:=7) (ts:=[]) (te:=l_ AK (b_ (e_ rT (a_ 7) (a_ 4)) c_)) (p:=λ_=>YP) (e:=g) Y (by simp;lia) (λd u=>rfl) (λd u _=>by
   obtain⟨p,X,rfl⟩:=aB.mp u;have e:pO l=(l.map λ(p:Nat)=>(p:Int)).map D.int:=by unfold pO;rw[bi];rfl
   refine(uM (p8 ((qC (x:=.int (p:Int)) (y:=.lst (pO l)) rfl rfl).trans (by rw[e];exact XD _ _ _)))).trans ?_;rfl) YP
  generalize Cy:(((aL (2 ^ n)).map λ(i:Nat)=>D.int (i:Int)).filter λ_=>YP).map g=o at hc;have Z:o.length=2 ^ n:=by rw[<- Cy,au,Kx];simp
  have SK:∀d∈o,vm d:=by
   intro d u;rw[<- Cy] at u;obtain⟨d',CF,rfl⟩:=aB.mp u;obtain⟨p,X,rfl⟩:=aB.mp (ax.mp CF).1;show vm (.int (if _ then 1 else 0));split
   ·exact .inr (.inl rfl)
   ·exact .inl rfl
  have E4:(O.set m [.int t,.bl b]).length=O.length:=cb;have e5:pZ 6 (pV YP 1 (rU (b_ (e_ (fI s_) (dC (.int 1)) (a_ 1)) c_)) (.one 7) [] [] (l_ AK (b_ (e_ rT (a_ 7) (a_ 4)) c_))) [XV (.own m),XV (.int n),XV (.int w),X9,XV (.lst (pO l)),y,X9] (O.set m [.int t,.bl b])=.nx [XV (.own m),XV (.int n),XV (.int w),X9,XV (.lst (pO l)),y,XV (.own O.length)] (O.set m [.int t,.bl b]++[o]):=by
   rw[wk (hc.trans rfl),E4];rfl
  have rn:∀(c:Int)(ws:List D),(O.set m [.int c,.bl b]++[ws])[O.length]?=XV ws:=λc ws=>by
   have:O.length=(O.set m [.int c,.bl b]).length:=cb.symm;rw[this];simp
  -- one of them may be free
  obtain⟨A,c,k1,k2,k3,k4⟩:∃A c,qM (pQ (e_ (qe rK) (a_ 2) (dC (.int 5)))) (xw (dC .non) (a_ 6) (j_ 2 uC (b_ (a_ 0) (b_ (e_ (fI s_) (dC (.int 1)) (a_ 1)) c_)))) qQ [XV (.own m),XV (.int n),XV (.int w),X9,XV (.lst (pO l)),y,XV (.own O.length)] (O.set m [.int t,.bl b]++[o])
    = .nx [XV (.own m),XV (.int n),XV (.int w),X9,XV (.lst (pO l)),y,XV (.own O.length)] (O.set m [.int c,.bl b]++[A])/\A.length=2 ^ n/\(∀d∈A,vm d)/\oQ (O.set m [.int c,.bl b]) m c b:=by
   have hq:pQ (e_ (qe rK) (a_ 2) (dC (.int 5))) [XV (.own m),XV (.int n),XV (.int w),X9,XV (.lst (pO l)),y,XV (.own O.length)] (O.set m [.int t,.bl b]++[o])=.ok ((w:Int)==5) (O.set m [.int t,.bl b]++[o]):=sj ((qC rfl rfl).trans rfl);rw[vO hq];by_cases h5:((w:Int)==5)=YP
   ·rw[Y2 h5];have EW:m<(O.set m [.int t,.bl b]).length:=E.len;have sU:oQ (O.set m [.int t,.bl b]++[o]) m t b:=⟨by rw[aG EW];exact E.at_,E.nn,E.lt⟩;obtain⟨z,c,z1,z2,N⟩:=Cb sU (k:=2 ^ n) (Zu n) 'd';rw[lD _ _ EW,d6] at z2 N;refine⟨o.set z .non,c,?_,by rw[cb];exact Z,λd u=>?_,?_⟩
    ·have ez:j_ 2 uC (b_ (a_ 0) (b_ (e_ (fI s_) (dC (.int 1)) (a_ 1)) c_)) [XV (.own m),XV (.int n),XV (.int w),X9,XV (.lst (pO l)),y,XV (.own O.length)] (O.set m [.int t,.bl b]++[o])=.ok (.int (z:Int)) (O.set m [.int c,.bl b]++[o]):=(sI (qL rfl (Jj B rfl)) rfl).trans z2;rw[JB (y:=.non) (k:=O.length) (i:=(z:Int)) (ds:=o) (j:=z) rfl rfl ez (rn c o) (by
      unfold L2.ixN;rw[Y2 'd',Y2 (by rw[Z];lia)];rfl)]
     have vC:(O.set m [.int c,.bl b]++[o]).set O.length (o.set z .non)=O.set m [.int c,.bl b]++[o.set z .non]:=by
      rw[gh _ _ (by rw[cb];exact aD _),cb,g9];rfl
     rw[vC]
    ·rcases fE u with u|rfl
     ·exact SK d u
     ·exact .inr (.inr rfl)
    ·have LH:m<(O.set m [.int c,.bl b]).length:=by rw[cb];exact h.len
     exact⟨by have:=N.at_;rw[aG LH] at this;exact this,N.nn,N.lt⟩
   ·rw[Z5 h5];exact⟨o,t,rfl,Z,SK,E⟩
  refine⟨n,A,c,⟨F,B,k2,k3⟩,?_,k4⟩;show uK O.length (fin (m_ _ _ [XV (.own m),X9,X9,X9,X9,X9,X9] O))=_;rw[r_ e1,r_ e2,r_ U];have W:pZ 4 (qO c_) [XV (.own m),XV (.int n),XV (.int w),X9,X9,X9,X9] (O.set m [.int v,.bl b])=.nx [XV (.own m),XV (.int n),XV (.int w),X9,XV (.lst []),X9,X9] (O.set m [.int v,.bl b]):=rfl;have hlr:((aL (1+q)).map λ(i:Nat)=>D.int (i:Int)).length=1+q:=by simp
  rw[r_ W,r_ ((Jz J).trans (by
   show vq _ _ ((aL (1+q)).map λ(i:Nat)=>D.int (i:Int)).length 0 _ _=_;rw[hlr];exact f1)),r_ e5,r_ k1]
  have e7:l_ tY (b_ (a_ 6) c_) [XV (.own m),XV (.int n),XV (.int w),X9,XV (.lst (pO l)),y,XV (.own O.length)] (O.set m [.int c,.bl b]++[A])=.ok (.tup A) (O.set m [.int c,.bl b]++[A]):=by
   refine(uM (p8 rfl)).trans ?_;show(match (O.set m [.int c,.bl b]++[A])[O.length]? with|some ds=>R.ok (D.tup ds) _|none=>_)=_;rw[rn]
  rw[sv e7];show uK O.length (.ok (.tup A) (O.set m [.int c,.bl b]++[A]))=_;have:=J1 (JW Q m c b) [A] (d:=.tup A) (d':=.tup A) (OC λd u=>P5 (k3 d u) _);rw[cb] at this;exact this
def uQ:D->Bool
 |.int 1=>YP
 |_=>Y1
def BH(f:List D)(cs:List Nat):Bool:=(pS cs).any λp=>uQ (f.getD p .non)
def eq1(O:Ow){d:D}(h:vm d):qe rK O d (.int 1)=.ok (.bl (uQ d)) O:=by rcases h with rfl|rfl|rfl<;>kernel_rfl
def z5T{n:Nat}{f:List D}(a:Fn n f){cs:List Nat}(h:cs∈X7 n)(O:Ow):D0 [.tup f,.str cs] O=.ok (.bl (BH f cs)) O:=by
 have b:=xG a.n1 a.n4 h;have g:=xh a.n1 a.n4 h;have c:pR (j_ 1 sH (b_ (a_ 1) c_)) [XV (.tup f),XV (.str cs)] O=.ok (.val (pO (pS cs))) O:=uD ((sI (p8 rfl) rfl).trans (AW b O));have j:=wc (o:=Y1) (ext:=1) (i:=2) (te:=e_ (qe rK) (e_ p9 (a_ 0) (a_ 2)) (dC (.int 1))) (e:=λp=>D.bl (uQ (f.getD p .non))) (τ:=λp=>[XV (.tup f),XV (.str cs),XV (.int (p:Nat))]) c (by have:=B_ b;lia) (λ_=>rfl) (λq k=>by
  have d:q<f.length:=by rw[a.len,<- g];exact Gr b k
  refine(qC ((qC rfl rfl).trans (JC (i:=q) d)) rfl).trans ((eq1 O (a.ans _ (cu d))).trans ?_);rw[Dh d])
 show fin (pU _ [XV (.tup f),XV (.str cs)] O)=_;rw[sv ((uM (p8 j)).trans (GQ O _ _))];rfl
noncomputable def allS:List (List Nat×Nat):=oC.flatMap λcs=>(aL cs.length).map λk=>(cs,k)
def zeN{cs:List Nat}{k:Nat}(h:cs∈oC)(a:k<cs.length):(cs,k)∈allS:=by unfold allS;rw[iH];exact⟨cs,h,aB.mpr ⟨k,bM.mpr a,rfl⟩⟩
def zf5(O:Ow):(allS.map λq=>DW [.str q.1,.int (q.2:Nat),.str [45]] O)=allS.map λq=>R.ok (.str (q.1.set q.2 45)) O:=by kernel_rfl
def Y3{cs:List Nat}{k:Nat}(h:cs∈oC)(a:k<cs.length)(O:Ow):DW [.str cs,.int (k:Nat),.str [45]] O=.ok (.str (cs.set k 45)) O:=ge.mp (zf5 O) _ (zeN h a)
def z7o:(oC.all λcs=>cs.all sgn)=YP:=by decide +kernel
def QZ{n:Nat}(a:1<=n)(b:n<=4){cs:List Nat}(h:cs∈X7 n):∀c∈cs,sgn c=YP:=ar.mp (ar.mp z7o cs (xG a b h))
def GV{n:Nat}(b:1<=n)(d:n<=4){cs:List Nat}(h:cs∈X7 n){k c:Nat}(e:sgn c=YP):cs.set k c∈X7 n:=by
 refine Kh n _ (by rw[cb];exact xh b d h) λx a=>?_;rcases fE a with a|rfl
 ·exact QZ b d h x a
 ·exact e
def PL(O:Ow){c:Nat}(h:sgn c=YP):qe rH O (.str [c]) (.str [45])=.ok (.bl (c !=45)) O:=by unfold sgn at h;simp only[dH,beq_iff_eq] at h;rcases h with(rfl|rfl)|rfl<;>kernel_rfl
def yJ(f:List D)(cs:List Nat)(k:Nat):Bool:=cs.getD k 0 !=45&&tP f (cs.set k 45)
def B8(f:List D)(cs:List Nat):Bool:=!(aL cs.length).any (yJ f cs)
def J_{cs:List Nat}{k:Nat}(h:k<cs.length):cs.getD k 0=cs[k]:=by rw[aY,ay h];rfl
def VI{n:Nat}{f:List D}(b:Fn n f){cs:List Nat}(h:cs∈X7 n){k:Nat}(d:k<cs.length)(O:Ow):D4 [.tup f,.str cs,.int (k:Nat)] O=.ok (.bl (yJ f cs k)) O:=by
 have g:=xG b.n1 b.n4 h;have j:cs.length<=4:=by rw[xh b.n1 b.n4 h];exact b.n4
 have e:=QZ b.n1 b.n4 h _ (cu d);show fin (Ht [XV (.tup f),XV (.str cs),XV (.int (k:Nat))] O)=_;have l:e_ (qe rH) (e_ p9 (a_ 1) (a_ 2)) (dC (.str [45])) [XV (.tup f),XV (.str cs),XV (.int (k:Nat))] O=.ok (.bl (cs[k] !=45)) O:=(qC ((qC rfl rfl).trans (Dt 'd' d)) rfl).trans (PL O e);unfold Ht yJ;rw[J_ d];simp only[m_,pZ,qM,pU,uL,qQ,a_,dC,b_,c_,j_,l_,e_,pQ,qP,tG,CP,R.bnd,R.bnS,fin,eQ,eN,fi,hV,aO,eD,fh,jE,iI,j8,if_true,if_false,gC,ji,bJ,ite_true,ite_false,BD];have i:(match (match e_ p9 (a_ 1) (a_ 2) [XV (.tup f),XV (.str cs),XV (.int (k:Nat))] O with|.ok a O=>R.ok a O|r=>r) with|_=>True):=trivial;rw[show p9 O (D.str cs) (D.int (k:Nat))=.ok (.str [cs[k]]) O from Dt 'd' d];simp only[m_,pZ,qM,pU,uL,qQ,a_,dC,b_,c_,j_,l_,e_,pQ,qP,tG,CP,R.bnd,R.bnS,fin,eQ,eN,fi,hV,aO,eD,fh,jE,iI,j8,if_true,if_false,gC,ji,bJ,ite_true,ite_false,PL O e];cases m:(cs[k] !=45) with
 | true=>
  simp only[m_,pZ,qM,pU,uL,qQ,a_,dC,b_,c_,j_,l_,e_,pQ,qP,tG,CP,R.bnd,R.bnS,fin,eQ,eN,fi,hV,aO,eD,fh,jE,iI,j8,if_true,if_false,gC,ji,bJ,ite_true,ite_false,Y3 g d O,Qu b (GV b.n1 b.n4 h (k:=k) (c:=45) rfl) O,Bool.true_and]
 |false=>simp only[m_,pZ,qM,pU,uL,qQ,a_,dC,b_,c_,j_,l_,e_,pQ,qP,tG,CP,R.bnd,R.bnS,fin,eQ,eN,fi,hV,aO,eD,fh,jE,iI,j8,if_true,if_false,gC,ji,bJ,ite_true,ite_false,kN]
def zc0{n:Nat}{f:List D}(a:Fn n f){cs:List Nat}(h:cs∈X7 n)(O:Ow):D5 [.tup f,.str cs] O=.ok (.bl (B8 f cs)) O:=by
 have g:cs.length<=4:=by rw[xh a.n1 a.n4 h];exact a.n4
 have b:rU (b_ (l_ qt (b_ (a_ 1) c_)) c_) [XV (.tup f),XV (.str cs)] O=.ok (.val ((aL cs.length).map λ(i:Nat)=>D.int (i:Int))) O:=yX (p8 ((uM (p8 rfl)).trans (GR 'd'))) 'd';have c:=wc (o:=Y1) (ext:=1) (i:=2) (te:=j_ 3 D4 (b_ (a_ 0) (b_ (a_ 1) (b_ (a_ 2) c_)))) (e:=λk=>D.bl (yJ f cs k)) (τ:=λp=>[XV (.tup f),XV (.str cs),XV (.int (p:Nat))]) b (by rw[eJ];lia) (λ_=>rfl) (λk d=>by
  exact(sI (Cd rfl (qL rfl rfl)) rfl).trans (VI a h (bM.mp d) O))
 show fin (Hj [XV (.tup f),XV (.str cs)] O)=_;unfold Hj B8;have:=(uM (p8 c)).trans (GQ O _ _);unfold pU CM;rw[this];rfl
def HX(f:List D)(cs:List Nat):Bool:=BH f cs&&B8 f cs
def rk(n:Nat)(f:List D):List (List Nat):=(vp n f).filter (HX f)
def Qd{n:Nat}{f:List D}{cs:List Nat}(h:cs∈vp n f):cs∈X7 n/\tP f cs=YP:=ax.mp h
def Q6{n:Nat}{f:List D}(a:Fn n f):(vp n f).length<=81:=aE (aZ _ _) (QY a.n1 a.n4)
def zbX{n:Nat}{f:List D}(a:Fn n f):∀cs∈vp n f,cs∈oC:=λcs h=>xG a.n1 a.n4 (Qd h).1
def ZI{c d:DT}{σ:Sg}{O:Ow}{a b:Bool}(e:c σ O=.ok a O)(f:a=YP->d σ O=.ok b O):C1 c d σ O=.ok (a&&b) O:=by
 show((c σ O).bnd _)=_;rw[e];cases a with
 |true=>exact f rfl
 |false=>rfl
def G0{n:Nat}{f:List D}(a:Fn n f)(O:Ow):yt [.tup f] O=.ok (.lst ((rk n f).map .str)) O:=by
 have d:pR (j_ 1 D8 (b_ (a_ 0) c_)) [XV (.tup f)] O=.ok (.val ((vp n f).map .str)) O:=uD ((sI (p8 rfl) rfl).trans (z7d a O));have g:=w4 (o:=Y1) (ext:=1) (i:=1) (t:=C1 (qP (j_ 2 D0 (b_ (a_ 0) (b_ (a_ 1) c_)))) (qP (j_ 2 D5 (b_ (a_ 0) (b_ (a_ 1) c_))))) (te:=a_ 1) (p:=HX f) (e:=D.str) (τ:=λb=>[XV (.tup f),XV (.str b)]) d (by have:=Q6 a;lia) (λ_=>rfl) (λb h=>by
  obtain⟨c,j⟩:=Qd h;exact ZI (yo ((sI (qL rfl rfl) rfl).trans (z5T a c O))) λ_=>yo ((sI (qL rfl rfl) rfl).trans (zc0 a c O))) (λb _ _=>rfl)
 show fin (Hg [XV (.tup f)] O)=_;unfold Hg;rw[sv (g.trans rfl)];rfl
def zen:(oC.all λcs=>cs.all λc=>decide (c<1114112))=YP:=by decide +kernel
def zb(q:D->Bool)(n:Nat)(f:List D):List Nat:=(aL (2 ^ n)).filter λp=>q (f.getD p .non)
def z7z{α:Type}{n i:Nat}(f:Nat->α):((aL n).map f)[i]?=if i<n then XV (f i) else X9:=by
 rw[bG];by_cases h:i<n
 ·rw[i7 h,Y2 h];rfl
 ·rw[Z5 h,aT.mpr (by simp;lia)];rfl
def Vl{n:Nat}{f:List D}(a:Fn n f){p:Nat}(b:p<2 ^ n):vm (f.getD p .non):=by rw[Dh (by rw[a.len];exact b)];exact a.ans _ (cu _)
def RT{n:Nat}{f:List D}(b:Fn n f)(a:D)(q:D->Bool)(O:Ow)(m:∀d,vm d->qe rK O d a=.ok (.bl (q d)) O):Ab [.tup f,a] O=.ok (.lst (pO (zb q n f))) O:=by
 have s:=DQ b.n4;have c:Gk (b_ (a_ 0) c_) [XV (.tup f),XV a] O=.ok (.val (yk f)) O:=rfl;have r:=Cg (o:=Y1) (ext:=2) (g:=.two 2 3) (ts:=[(pQ (e_ (qe rK) (a_ 3) (a_ 1)))]) (te:=a_ 2) (l:=aL (2 ^ n)) (inj:=λ(p:Nat)=>D.tup [.int (p:Int),f.getD p .non]) (p:=λp=>q (f.getD p .non)) (e:=λ(p:Nat)=>D.int (p:Int))
  (τ:=λ(p:Nat)=>[XV (.tup f),XV a,XV (.int (p:Int)),XV (f.getD p .non)]) c (λi=>by
   rw[z7z];show(yk f)[i]?=_;rw[Rg];by_cases c:i<2 ^ n
   ·have j:i<f.length:=by rw[b.len];exact c
    rw[Y2 c,ay j];show XV (D.tup [.int (i:Nat),f[i]])=_;rw[Dh j]
   ·rw[Z5 c,aT.mpr (by rw[b.len];lia)];rfl) (by
   show(yk f).length=_;unfold yk;simp[b.len]) (by rw[eJ];lia) (λk _=>rfl) (λp h=>GU (by
   have h:=bM.mp h;exact sj ((qC rfl rfl).trans (m _ (Vl b h))))) (λp _ _=>rfl)
 show fin (pU _ [XV (.tup f),XV a] O)=_;rw[sv (r.trans rfl)];rfl
def pX(ts:List (List Nat))(p:Nat):List (List Nat):=ts.filter λcs=>(pS cs).contains p
def Dr(O:Ow)(p:Nat)(l:List Nat):rT O (.int (p:Int)) (.lst (pO l))=.ok (.bl (l.contains p)) O:=by
 refine(CZ O (x:=.int (p:Int)) (y:=.lst (pO l)) (l:=pO l) rfl (B6 7 l) (.inl rfl) (b:=l.contains p) ?_).1;unfold pO;rw[be,aB];constructor
 ·exact λh=>⟨p,h,rfl⟩
 ·rintro⟨q,h,e⟩;have:(q:Int)=(p:Int):=D.int.inj e;have:q=p:=by lia
  exact this▸h
def Km{ts:List (List Nat)}(h:∀cs∈ts,cs∈oC)(c:ts.length<=81)(p:Nat)(O:Ow):xf [.lst (ts.map .str),.int (p:Int)] O=.ok (.lst ((pX ts p).map .str)) O:=by
 have a:=w4 (o:=Y1) (ext:=1) (i:=2) (it0:=pR (a_ 0)) (σ:=[XV (.lst (ts.map .str)),XV (.int (p:Int))]) (O0:=O) (O:=O) (l:=ts) (inj:=D.str) (t:=pQ (e_ rT (a_ 1) (j_ 1 sH (b_ (a_ 2) c_)))) (te:=a_ 2) (p:=λcs=>(pS cs).contains p) (e:=D.str) (τ:=λcs=>[XV (.lst (ts.map .str)),XV (.int (p:Int)),XV (.str cs)]) rfl 'd' (λ_=>rfl)
  (λcs b=>sj (q_ rfl (qX (p8 rfl) (AW (h cs b) O)) (Dr O p _))) (λ_ _ _=>rfl)
 exact B5 (a.trans rfl)
def uv(ts:List (List Nat))(p:Nat):Bool:=(pX ts p).length==1
def Iz(ts:List (List Nat))(p:Nat):D:=.tup [.int (p:Int),.str ((pX ts p).headD [])]
def FO(ps:List Nat)(ts:List (List Nat)):List D:=(ps.filter (uv ts)).map (Iz ts)
def AD(ps:List Nat)(ts:List (List Nat)):List (List Nat):=(ps.filter (uv ts)).map λp=>(pX ts p).headD []
def TZ(O:Ow)(l:List D):qe rK O (.int (l.length:Int)) (.int 1)=.ok (.bl (l.length==1)) O:=by
 refine(F3 O (x:=.int (l.length:Int)) (y:=.int 1) rfl rfl (b:=l.length==1) ?_).1;rw[beq_iff_eq];constructor
 ·intro h;rw[h];rfl
 ·intro h;have:(l.length:Int)=1:=D.int.inj h;lia
def Ut{ts:List (List Nat)}{p:Nat}(h:uv ts p=YP)(O:Ow):p9 O (.lst ((pX ts p).map .str)) (.int 0)=.ok (.str ((pX ts p).headD [])) O:=by
 unfold uv at h;rw[beq_iff_eq] at h;cases e:pX ts p with
 |nil=>rw[e] at h;cases h
 |cons x r=>exact Dl (i:=0) (ds:=(x::r).map D.str) 'k'
def W1{ps:List Nat}{ts:List (List Nat)}(h:∀cs∈ts,cs∈oC)(b:ts.length<=81)(a:ps.length<=16)(O:Ow):D2 [.lst (pO ps),.lst (ts.map .str)] O=.ok (.lst (FO ps ts)) O:=by
 have c:=wc (o:=Y1) (ext:=1) (i:=3) (it0:=pR (a_ 0)) (σ:=[XV (.lst (pO ps)),XV (.lst (ts.map .str)),X9]) (O0:=O) (O:=O) (l:=ps) (inj:=λ(p:Nat)=>D.int (p:Int)) (te:=qR (b_ (a_ 3) (b_ (j_ 2 xf (b_ (a_ 1) (b_ (a_ 3) c_))) c_))) (e:=λ(p:Nat)=>D.tup [.int (p:Int),.lst ((pX ts p).map .str)]) (τ:=λ(p:Nat)=>[XV (.lst (pO ps)),XV (.lst (ts.map .str)),X9,XV (.int (p:Int))]) rfl 'd' (λ_=>rfl)
  (λp _=>by
   show((b_ (a_ 3) (b_ (j_ 2 xf (b_ (a_ 1) (b_ (a_ 3) c_))) c_)) _ O).bnd _=_;rw[qL (x:=.int (p:Int)) (y:=.lst ((pX ts p).map .str)) rfl (qX (qL rfl rfl) (Km h b p O))];rfl)
 have d:=Cg (o:=Y1) (ext:=2) (g:=.two 3 4) (it0:=pR (a_ 2)) (σ:=[XV (.lst (pO ps)),XV (.lst (ts.map .str)),XV (.lst (ps.map λ(p:Nat)=>D.tup [.int (p:Int),.lst ((pX ts p).map .str)]))]) (O0:=O) (O:=O) (ts:=[(pQ (e_ (qe rK) (l_ qt (b_ (a_ 4) c_)) (dC (.int 1))))]) (te:=qR (b_ (a_ 3) (b_ (e_ p9 (a_ 4) (dC (.int 0))) c_))) (l:=ps) (inj:=λ(p:Nat)=>D.tup [.int (p:Int),.lst ((pX ts p).map .str)]) (p:=uv ts) (e:=Iz ts)
  (τ:=λ(p:Nat)=>[XV (.lst (pO ps)),XV (.lst (ts.map .str)),XV (.lst (ps.map λ(p:Nat)=>D.tup [.int (p:Int),.lst ((pX ts p).map .str)])),XV (.int (p:Int)),XV (.lst ((pX ts p).map .str))]) (src:=.val (ps.map λ(p:Nat)=>D.tup [.int (p:Int),.lst ((pX ts p).map .str)])) rfl (λ_=>rfl) (by show(ps.map _).length=_;simp) 'd' (λ_ _=>rfl)
  (λp _=>GU (sj (q_ (tR (p8 rfl) rfl) rfl ((TZ O _).trans (by rw[au];rfl))))) (λp _ a=>by
   show((b_ (a_ 3) (b_ (e_ p9 (a_ 4) (dC (.int 0))) c_)) _ O).bnd _=_;rw[qL (x:=.int (p:Int)) (y:=.str ((pX ts p).headD [])) rfl (q_ rfl rfl (Ut a O))];rfl)
 show fin (RQ [XV (.lst (pO ps)),XV (.lst (ts.map .str)),X9] O)=_;exact u9 (sQ (c.trans rfl) (sv (d.trans rfl)))
theorem Nt{α:Type}{src:Src}{step:D->Ow->List D->R (List D)}{O:Ow}{inj:α->D}{g:α->D}{all:List α}(j:∀i,src.get O i=(all.map inj)[i]?):∀(ds c:List α)(b:List D)(f:Nat),all=c++ds->ds.length<=f->
  (∀a∈ds,∀b:List D,b.length<1000->step (inj a) O b=.ok (b++[g a]) O)->b.length+ds.length<1000->qD src step f c.length O b=.ok (b++ds.map g) O
 | [],c,b,f,ha,_,_,_=>by
  have e:src.get O c.length=X9:=by rw[j,ha];simp
  cases f<;>(unfold qD;rw[e];simp)
 |d::ds,c,b,0,_,h,_,_=>by simp at h
 | d::ds,c,b,f+1,ha,h,hs,hl=>by
  unfold qD;have e:src.get O c.length=XV (inj d):=by rw[j,ha];simp
  rw[e];simp only[aO] at hl;show((step (inj d) O b).bnd λk l=>qD src step f (c.length+1) l k)=_;rw[hs d al b 'd'];show qD src step f (c.length+1) O (b++[g d])=_;have:=Nt j ds (c++[d]) (b++[g d]) f (by rw[ha];simp) (by simpa using h) (λm n=>hs m (ai _ n)) (by rw[az,ef];lia);rw[az,ef] at this;rw[this];simp
def XY{α:Type}{ext:Nat}{it0:DI}{g:Tg}{te:DE}{σ:Sg}{O O0:Ow}{src:Src}{l:List α}{inj:α->D}{e:α->List Nat}{τ:α->Sg}{o:Bool}(h:it0 σ O0=.ok src O)(j:∀i,src.get O i=(l.map inj)[i]?)(hsz:src.size O=l.length)(k:l.length<1000)
  (m:∀a∈l,g.put (inj a) (qo (qo (σ++aP ext X9) (g.slots++[])) (g.slots++[]))=XV (τ a)) (n:∀a∈l,te (τ a) O=.ok (.str (e a)) O):AB o ext it0 g [] [] te σ O0=if o=YP then .ok (.own O.length) (O++[(qi (l.map e)).map .str]) else .ok (.lst ((qi (l.map e)).map .str)) O:=by
 unfold AB wo;rw[h];show MU o (xM (qD src _ (src.size O) 0 O []))=_;have w:=Nt (O:=O) (src:=src) (step:=tX ⟨it0,g,[]⟩ [] (yb te) (qo (σ++aP ext X9) (qm [⟨it0,g,[]⟩]))) (g:=λa=>D.str (e a)) j l [] [] (src.size O) rfl 'd' (λa d c p=>by
  show(match g.put (inj a) (qo (qo (σ++aP ext X9) (g.slots++[])) (g.slots++[])) with|some qW=>(ux [] qW O).bnd λb f=>if b=YP then tQ [] (yb te) qW f c else .ok c f|none=>.bad)=_;rw[m a d];show((te (τ a) O).bnd _)=_;rw[n a d];show(if c.length<1000 then R.ok (c++[D.str (e a)]) O else R.bad)=_;rw[Y2 p]) (by simp;lia)
 have q:qD src (tX ⟨it0,g,[]⟩ [] (yb te) (qo (σ++aP ext X9) (qm [⟨it0,g,[]⟩]))) (src.size O) 0 O []=.ok ((l.map e).map .str) O:=by rw[bi];exact w
 rw[q];show(match uu ((l.map e).map D.str) with|some ss=>if ss.length<1000 then _ else _|none=>_)=_;rw[DL.strL_map];show(if (l.map e).length<1000 then _ else _)=_;rw[Y2 (by rw[au];exact k)]
def yu{α:Type}{p:α->Bool}{l:List α}{k:Nat}(h:l.length<=k):(l.filter p).length<=k:=aE (aZ _ _) h
def PR{ps:List Nat}{ts:List (List Nat)}(h:∀cs∈ts,cs∈oC)(b:ts.length<=81)(a:ps.length<=16)(O:Ow):DX [.lst (pO ps),.lst (ts.map .str)] O=.ok (.lst ((qi (AD ps ts)).map .str)) O:=by
 have d:=yu (p:=uv ts) a;have f:pR (j_ 2 D2 (b_ (a_ 0) (b_ (a_ 1) c_))) [XV (.lst (pO ps)),XV (.lst (ts.map .str))] O=.ok (.val (FO ps ts)) O:=uD (qX (qL rfl rfl) (W1 h b a O));have c:=XY (o:=Y1) (ext:=2) (g:=.two 2 3) (te:=a_ 3) (l:=ps.filter (uv ts)) (inj:=Iz ts) (e:=λp=>(pX ts p).headD []) (τ:=λ(p:Nat)=>[XV (.lst (pO ps)),XV (.lst (ts.map .str)),XV (.int (p:Int)),XV (.str ((pX ts p).headD []))]) f (λi=>rfl) (by
   show(FO ps ts).length=_;unfold FO;rw[au]) 'd' (λ_ _=>rfl) (λ_ _=>rfl)
 exact B5 (c.trans rfl)
def Ds{n:Nat}{f:List D}(a:Fn n f)(q:D->Bool):(zb q n f).length<=16:=by have:=DQ a.n4;exact yu (by rw[eJ];exact this)
def z_{n:Nat}{f:List D}(a:Fn n f):∀cs∈rk n f,cs∈oC:=λcs h=>zbX a cs (ax.mp h).1
def Kr{n:Nat}{f:List D}(a:Fn n f):(rk n f).length<=81:=yu (Q6 a)
theorem M8{α:Type}{src:Src}{step:D->Ow->List D->R (List D)}{O:Ow}{inj:α->D}{g:α->D}{all:List α}(c:∀i,src.get O i=(all.map inj)[i]?)(j:∀b a r,all=b++a::r->step (inj a) O (b.map g)=.ok (b.map g++[g a]) O):∀(ds b:List α)(f:Nat),all=b++ds->ds.length<=f->qD src step f b.length O (b.map g)=.ok (all.map g) O
 | [],b,f,ha,_=>by
  have e:src.get O b.length=X9:=by rw[c,ha];simp
  have k:all=b:=by rw[ha];simp
  cases f<;>(unfold qD;rw[e,k])
 |d::ds,b,0,_,h=>by simp at h
 | d::ds,b,f+1,ha,h=>by
  unfold qD;have e:src.get O b.length=XV (inj d):=by rw[c,ha];simp
  rw[e];show((step (inj d) O (b.map g)).bnd λl m=>qD src step f (b.length+1) m l)=_;rw[j b d ds ha];show qD src step f (b.length+1) O (b.map g++[g d])=_;have:=M8 c j ds (b++[d]) f (by rw[ha];simp) (by simpa using h);rw[az,ef,bT] at this;exact this
def JO{α:Type}{ext i:Nat}{it0:DI}{tk tv:DE}{σ:Sg}{O O0:Ow}{l:List α}{inj key val:α->D}{kk:α->DK}{τ:α->Sg}(n:it0 σ O0=.ok (.val (l.map inj)) O)(y:l.length<1000)(j:(l.map kk).Nodup)
  (o:∀a,(qo (qo (σ++aP ext X9) [i]) [i]).set i (XV (inj a))=τ a) (p:∀a∈l,tk (τ a) O=.ok (key a) O) (q:∀a∈l,v_ (key a)=XV (kk a)) (s:∀a∈l,tv (τ a) O=.ok (val a) O):
  w_ ext it0 (.one i) [] [] tk tv σ O0=.ok (.map (l.map kk) (l.map val)) O:=by
 unfold w_ wo;rw[n];show((xM (qD (.val (l.map inj)) _ ((l.map inj).length) 0 O [])).bnd _)=_;have w:=M8 (O:=O) (src:=.val (l.map inj)) (step:=tX ⟨it0,.one i,[]⟩ [] (Ap tk tv) (qo (σ++aP ext X9) (qm [⟨it0,.one i,[]⟩]))) (inj:=inj) (g:=λa=>sE (kk a,val a)) (all:=l) (λ_=>rfl) (λc a r f=>by
  have h:a∈l:=by rw[f];simp
  show(match (XV ((qo (qo (σ++aP ext X9) [i]) [i]).set i (XV (inj a))):Option Sg) with|some qW=>(ux [] qW O).bnd λb m=>if b=YP then tQ [] (Ap tk tv) qW m (c.map λa=>sE (kk a,val a)) else .ok (c.map λa=>sE (kk a,val a)) m|none=>.bad)=_;rw[o a];show((tk (τ a) O).bnd _)=_;rw[p a h];show(match v_ (key a) with|some k=>_|none=>_)=_;rw[q a h];show((tv (τ a) O).bnd _)=_;rw[s a h];have d:(c.map λa=>sE (kk a,val a)).length<1000:=by
   rw[au];have:=congrArg kB f;simp at this;lia
  have t:(c.map λa=>sE (kk a,val a)).any (BG (kk a))=Y1:=by
   rw[im];intro x u;obtain⟨b,v,rfl⟩:=aB.mp u;have:kk b≠kk a:=by
    rw[f,bT,bh,dF] at j;exact j.2.2 _ (aB.mpr ⟨b,v,rfl⟩) _ al
   show ¬ decide (kk b=kk a)=YP;rw[decide_eq_true_eq];exact this
  show(if _/\_ then R.ok _ O else R.bad)=_;rw[Y2 ⟨d,t⟩];rfl) l [] ((l.map inj).length) rfl 'k'
 rw[show qD (.val (l.map inj)) _ ((l.map inj).length) 0 O []=_ from w];show R.ok (D.map (Cu (l.map λa=>sE (kk a,val a))) (Cv (l.map λa=>sE (kk a,val a)))) O=_;have e:(l.map λa=>sE (kk a,val a))=(l.map λa=>(kk a,val a)).map sE:=by rw[bi];rfl
 rw[e,JK,Js,bi,bi];rfl
theorem DN{α:Type}{kk:α->DK}{val:α->D}{a:α}:∀{l:List α},a∈l->(l.map kk).Nodup->wb (kk a) (l.map kk) (l.map val)=XV (val a)
 |[],h,_=>by cases h
 | b::l,h,hn=>by
  rw[bh,bw] at hn;show(if kk b=kk a then XV (val b) else wb (kk a) (l.map kk) (l.map val))=_;rcases am.mp h with rfl|h
  ·rw[Y2 rfl]
  ·rw[Z5 (λ(e:kk b=kk a)=>hn.1 (by rw[e];exact aB.mpr ⟨a,h,rfl⟩))];exact DN h hn.2
def Dm{td a:DE}{σ:Sg}{O:Ow}{ks:List DK}{ds:List D}{y d:D}{k:DK}(b:td σ O=.ok (.map ks ds) O)(c:a σ O=.ok y O)(e:v_ y=XV k)(f:wb k ks ds=XV d):sG td a σ O=.ok d O:=by unfold sG;rw[b];show((a σ O).bnd _)=_;rw[c];show(match v_ y with|some k=>_|none=>_)=_;rw[e];show(match wb k ks ds with|some d=>R.ok d O|none=>R.bad)=_;rw[f]
abbrev Tm(ts:List (List Nat)):Prop:=∀cs∈ts,cs∈oC
def yf{ts:List (List Nat)}(h:Tm ts)(k:Nat):(ts.map D.str).all (pl k)=YP:=ar.mpr λd b=>by
 obtain⟨a,e,rfl⟩:=aB.mp b;have:(a.all λc=>decide (c<1114112))=YP:=ar.mp zen a (h a e);cases k<;>exact this
def PK{a b:List (List Nat)}(h:a.map D.str=b.map D.str):a=b:=by have:=congrArg (List.map λd=>match d with|D.str x=>x|_=>[]) h;simpa [bi,Function.comp_def] using this
def Uo(O:Ow){x:List Nat}(a:x∈oC){l:List (List Nat)}(c:Tm l){y:D}(d:tJ O y=XV (l.map D.str)):rT O (.str x) y=.ok (.bl (l.contains x)) O/\r8 O (.str x) y=.ok (.bl (!l.contains x)) O:=by
 refine CZ O (x:=.str x) (l:=l.map D.str) ?_ (yf c 7) (.inl d) (b:=l.contains x) ?_
 ·have:=yf (ts:=[x]) (λg f=>by rw[cF.mp f];exact a) 7;simpa using this
 ·rw[be,aB];exact⟨λh=>⟨x,h,rfl⟩,λ⟨q,h,e⟩=>by cases e;exact h⟩
def T6(O:Ow){a b:List (List Nat)}(c:Tm a)(d:Tm b):qe rH O (.lst (a.map .str)) (.lst (b.map .str))=.ok (.bl (a !=b)) O:=
 (I8 O (yf c 7) (yf d 7) (b:=a==b) (by rw[beq_iff_eq];exact⟨λh=>h▸rfl,PK⟩)).2
def Uj(O:Ow)(a b:List Nat):qe rH O (.lst (pO a)) (.lst (pO b))=.ok (.bl (a !=b)) O:=
 (I8 O (B6 7 a) (B6 7 b) (b:=a==b) (by rw[beq_iff_eq];exact⟨λh=>h▸rfl,J5⟩)).2
def F4{ts:List (List Nat)}(h:Tm ts)(p:Nat):Tm (pX ts p):=λa b=>h a (ax.mp b).1
def Yt{ts:List (List Nat)}(h:ts.length<=81)(p:Nat):(pX ts p).length<=81:=yu h
def yy(ts:List (List Nat))(o p:Nat):Bool:=((pX ts o).all λt=>(pX ts p).contains t)&&(pX ts o !=pX ts p||decide (o<p))
abbrev CN(p:Nat):DK:=.inl (p:Int)
def Ox{ps:List Nat}(h:ps.Nodup):(ps.map CN).Nodup:=fy.mpr (h.imp λn e=>n (by have:=oj e;lia))
abbrev FL(ps:List Nat)(ts:List (List Nat)):D:=.map (ps.map CN) (ps.map λp=>.lst ((pX ts p).map .str))
def Ua(O:Ow)(a b:Nat):wJ O (.int (a:Int)) (.int (b:Int))=.ok (.bl (decide (a<b))) O:=by show R.ok (D.bl (decide ((a:Int)<(b:Int)))) O=_;rw[show decide ((a:Int)<(b:Int))=decide (a<b) from by rw[decide_eq_decide];lia]
def VL{ps:List Nat}{ts:List (List Nat)}(k:ps.Nodup)(h:Tm ts)(m:ts.length<=81){o p:Nat}(d:o∈ps)(f:p∈ps)(O:Ow):AX [.int (o:Int),.int (p:Int),FL ps ts] O=.ok (.bl (yy ts o p)) O:=by
 let σ:Sg:=[XV (.int (o:Int)),XV (.int (p:Int)),XV (FL ps ts)];have a:∀(τ:Sg)(j q:Nat),τ[2]?=XV (XV (FL ps ts))->τ[j]?=XV (XV (.int (q:Int)))->q∈ps->sG (a_ 2) (a_ j) τ O=.ok (.lst ((pX ts q).map .str)) O:=λτ j q n r s=>
  Dm (ks:=ps.map CN) (ds:=ps.map λp=>.lst ((pX ts p).map .str)) (by unfold a_;rw[n]) (by unfold a_;rw[r]) rfl (DN (kk:=CN) (val:=λp=>D.lst ((pX ts p).map .str)) s (Ox k))
 have c:=wc (o:=Y1) (ext:=1) (i:=3) (it0:=pR (sG (a_ 2) (a_ 0))) (σ:=σ) (O0:=O) (O:=O) (l:=pX ts o) (inj:=D.str) (te:=e_ rT (a_ 3) (sG (a_ 2) (a_ 1))) (e:=λt=>D.bl ((pX ts p).contains t)) (τ:=λt=>σ++[XV (.str t)])
  (uD (a σ 0 o rfl rfl d)) (by have:=Yt m o;lia) (λ_=>rfl) (λt u=>q_ rfl (a _ 1 p rfl rfl f) (Uo O (F4 h o t u) (F4 h p) rfl).1)
 have b:=xI (yo ((tR (p8 (c.trans rfl)) (QR O _ _))));show fin (KJ σ O)=_;unfold KJ yy;cases g:(pX ts o).all λt=>(pX ts p).contains t with
 | false=>
  rw[g] at b;exact u9 (Dc b rfl)
 | true=>
  rw[g] at b;exact u9 (yW b (sv (Ja (q_ (a σ 0 o rfl rfl d) (a σ 1 p rfl rfl f) (T6 O (F4 h o) (F4 h p))) λ_=>q_ rfl rfl (Ua O o p))))
def K_(ps:List Nat)(ts:List (List Nat)):List Nat:=ps.filter λp=>!(ps.any λo=>yy ts o p)
def z5J{ps:List Nat}{ts:List (List Nat)}(f:ps.Nodup)(n:ps.length<=16)(h:Tm ts)(g:ts.length<=81)(O:Ow):Hn [.lst (pO ps),.lst (ts.map .str)] O=.ok (.lst (pO (K_ ps ts))) O:=by
 let σ:Sg:=[XV (.lst (pO ps)),XV (.lst (ts.map .str)),X9];have d:=JO (ext:=1) (i:=3) (it0:=pR (a_ 0)) (tk:=a_ 3) (tv:=j_ 2 xf (b_ (a_ 1) (b_ (a_ 3) c_))) (σ:=σ) (O:=O) (O0:=O) (l:=ps) (inj:=λ(p:Nat)=>D.int (p:Int)) (key:=λ(p:Nat)=>D.int (p:Int)) (kk:=CN) (val:=λp=>.lst ((pX ts p).map .str)) (τ:=λp=>σ++[XV (.int (p:Int))])
  rfl 'd' (Ox f) (λ_=>rfl) (λ_ _=>rfl) (λ_ _=>rfl) (λp _=>qX (qL rfl rfl) (Km h g p O))
 let a:Sg:=[XV (.lst (pO ps)),XV (.lst (ts.map .str)),XV (FL ps ts)];have j:∀p∈ps,l_ wV (b_ (pV Y1 1 (pR (a_ 0)) (.one 4) [] [] (j_ 3 AX (b_ (a_ 4) (b_ (a_ 3) (b_ (a_ 2) c_))))) c_) (a++[XV (.int (p:Int))]) O=.ok (.bl (ps.any λo=>yy ts o p)) O:=λp b=>by
  have c:=wc (o:=Y1) (ext:=1) (i:=4) (it0:=pR (a_ 0)) (σ:=a++[XV (.int (p:Int))]) (O0:=O) (O:=O) (l:=ps) (inj:=λ(p:Nat)=>D.int (p:Int)) (te:=j_ 3 AX (b_ (a_ 4) (b_ (a_ 3) (b_ (a_ 2) c_)))) (e:=λo=>D.bl (yy ts o p)) (τ:=λo=>a++[XV (.int (p:Int)),XV (.int (o:Int))])
   rfl 'd' (λ_=>rfl) (λo k=>qX (Cd rfl (qL rfl rfl)) (VL f h g k b O))
  exact tR (p8 (c.trans rfl)) (GQ O _ _)
 have m:=w4 (o:=Y1) (ext:=1) (i:=3) (it0:=pR (a_ 0)) (σ:=a) (O0:=O) (O:=O) (l:=ps) (inj:=λ(p:Nat)=>D.int (p:Int)) (t:=tG (qP (l_ wV (b_ (pV Y1 1 (pR (a_ 0)) (.one 4) [] [] (j_ 3 AX (b_ (a_ 4) (b_ (a_ 3) (b_ (a_ 2) c_))))) c_)))) (te:=a_ 3) (p:=λp=>!(ps.any λo=>yy ts o p)) (e:=λ(p:Nat)=>D.int (p:Int)) (τ:=λp=>a++[XV (.int (p:Int))])
  rfl 'd' (λ_=>rfl) (λp b=>xI (yo (j p b))) (λ_ _ _=>rfl)
 show fin (RU σ O)=_;exact u9 (sQ d (sv (m.trans rfl)))
noncomputable def sg(cs:List Nat):Nat:=(cs.filter (· != 45)).length
def zdf(O:Ow):(oC.map λcs=>vP [.str cs] O)=oC.map λcs=>R.ok (.int ((sg cs:Nat):Int)) O:=by kernel_rfl
def Qa{cs:List Nat}(h:cs∈oC)(O:Ow):vP [.str cs] O=.ok (.int (sg cs:Nat)) O:=ge.mp (zdf O) cs h
def held(ps:List Nat)(t:List Nat):List Nat:=(pS t).filter λq=>ps.contains q
def yw(ps:List Nat)(o t:List Nat):Bool:=!(decide (sg t<sg o) || !((held ps t).all λq=>(held ps o).contains q))&&(held ps o !=held ps t||(decide (sg o<sg t)||decide (o<t)))
abbrev Au(t:List Nat):DK:=.inr t
def JD{ts:List (List Nat)}(h:ts.Nodup):(ts.map Au).Nodup:=fy.mpr (h.imp λn e=>n (ip e))
abbrev BN(ps:List Nat)(ts:List (List Nat)):D:=.map (ts.map Au) (ts.map λt=>.lst (pO (held ps t)))
def M_(O:Ow)(a b:Nat):ye O (.int (a:Int)) (.int (b:Int))=.ok (.bl (decide (a<b))) O:=by show R.ok (D.bl (decide ((a:Int)<(b:Int)))) O=_;rw[show decide ((a:Int)<(b:Int))=decide (a<b) from by rw[decide_eq_decide];lia]
def Ul(O:Ow)(a b:Nat):Ft O (.int (a:Int)) (.int (b:Int))=.ok (.bl (decide (b<a))) O:=by show R.ok (D.bl (decide ((b:Int)<(a:Int)))) O=_;rw[show decide ((b:Int)<(a:Int))=decide (b<a) from by rw[decide_eq_decide];lia]
def ZW{t:List Nat}(h:t∈oC)(ps:List Nat):(held ps t).length<=16:=yu (by have:=B_ h;lia)
def Xj{ps:List Nat}{ts:List (List Nat)}(n:ts.Nodup)(h:Tm ts){o t:List Nat}(f:o∈ts)(a:t∈ts)(O:Ow):AY [.str o,.str t,BN ps ts] O=.ok (.bl (yw ps o t)) O:=by
 let σ:Sg:=[XV (.str o),XV (.str t),XV (BN ps ts)];have b:∀(τ:Sg)(j:Nat)(q:List Nat),τ[2]?=XV (XV (BN ps ts))->τ[j]?=XV (XV (.str q))->q∈ts->sG (a_ 2) (a_ j) τ O=.ok (.lst (pO (held ps q))) O:=λτ j q r s u=>
  Dm (ks:=ts.map Au) (ds:=ts.map λt=>.lst (pO (held ps t))) (by unfold a_;rw[r]) (by unfold a_;rw[s]) rfl (DN (kk:=Au) (val:=λt=>D.lst (pO (held ps t))) u (JD n))
 have c:=wc (o:=Y1) (ext:=1) (i:=3) (it0:=pR (sG (a_ 2) (a_ 1))) (σ:=σ) (O0:=O) (O:=O) (l:=held ps t) (inj:=λ(p:Nat)=>D.int (p:Int)) (te:=e_ rT (a_ 3) (sG (a_ 2) (a_ 0))) (e:=λq=>D.bl ((held ps o).contains q)) (τ:=λ(q:Nat)=>σ++[XV (.int (q:Int))])
  (uD (b σ 1 t rfl rfl a)) (by have:=ZW (h t a) ps;lia) (λ_=>rfl) (λq _=>q_ rfl (b _ 0 o rfl rfl f) (Dr O q _))
 have g:j_ 1 vP (b_ (a_ 0) c_) σ O=.ok (.int (sg o:Nat)) O:=qX (p8 rfl) (Qa (h o f) O);have k:j_ 1 vP (b_ (a_ 1) c_) σ O=.ok (.int (sg t:Nat)) O:=qX (p8 rfl) (Qa (h t a) O);have d:=W5 (sj (q_ g k (Ul O _ _))) λ_=>xI (yo (tR (p8 (c.trans rfl)) (QR O _ _)));show fin (KI σ O)=_;unfold KI yw;cases m:(decide (sg t<sg o) || !((held ps t).all λq=>(held ps o).contains q)) with
 | true=>
  rw[m] at d;exact u9 (Dc d rfl)
 | false=>
  rw[m] at d;exact u9 (yW d (sv (Ja (q_ (b σ 0 o rfl rfl f) (b σ 1 t rfl rfl a) (Uj O _ _)) λ_=>Ja (q_ g k (M_ O _ _)) λ_=>q_ rfl rfl rfl)))
def wu(ps:List Nat)(ts:List (List Nat)):List (List Nat):=ts.filter λt=>!(held ps t).isEmpty
def HI(ps:List Nat)(ts:List (List Nat)):List (List Nat):=(wu ps ts).filter λt=>!((wu ps ts).any λo=>yw ps o t)
def z7b{ps:List Nat}{ts:List (List Nat)}(f:ts.Nodup)(h:Tm ts)(k:ts.length<=81)(O:Ow):Cm [.lst (pO ps),.lst (ts.map .str)] O=.ok (.lst ((HI ps ts).map .str)) O:=by
 let σ:Sg:=[XV (.lst (pO ps)),XV (.lst (ts.map .str)),X9,X9];have d:=JO (ext:=1) (i:=4) (it0:=pR (a_ 1)) (tk:=a_ 4) (tv:=pV Y1 1 (pR (j_ 1 sH (b_ (a_ 4) c_))) (.one 5) [(pQ (e_ rT (a_ 5) (a_ 0)))] [] (a_ 5)) (σ:=σ) (O:=O) (O0:=O) (l:=ts) (inj:=D.str) (key:=D.str) (kk:=Au) (val:=λt=>.lst (pO (held ps t))) (τ:=λt=>σ++[XV (.str t)])
  rfl 'd' (JD f) (λ_=>rfl) (λ_ _=>rfl) (λ_ _=>rfl) (λt a=>by
   have c:=w4 (o:=Y1) (ext:=1) (i:=5) (it0:=pR (j_ 1 sH (b_ (a_ 4) c_))) (σ:=σ++[XV (.str t)]) (O0:=O) (O:=O) (l:=pS t) (inj:=λ(p:Nat)=>D.int (p:Int)) (t:=pQ (e_ rT (a_ 5) (a_ 0))) (te:=a_ 5) (p:=λq=>ps.contains q) (e:=λ(p:Nat)=>D.int (p:Int)) (τ:=λ(q:Nat)=>σ++[XV (.str t),XV (.int (q:Int))])
    (uD (qX (p8 rfl) (AW (h t a) O))) (by have:=B_ (h t a);lia) (λ_=>rfl) (λq _=>sj (q_ rfl rfl (Dr O q ps))) (λ_ _ _=>rfl)
   exact c.trans rfl)
 let g:Sg:=[XV (.lst (pO ps)),XV (.lst (ts.map .str)),XV (BN ps ts),X9];have m:∀(τ:Sg)(q:List Nat),τ[2]?=XV (XV (BN ps ts))->τ[4]?=XV (XV (.str q))->q∈ts->sG (a_ 2) (a_ 4) τ O=.ok (.lst (pO (held ps q))) O:=λτ q n r s=>
  Dm (ks:=ts.map Au) (ds:=ts.map λt=>.lst (pO (held ps t))) (by unfold a_;rw[n]) (by unfold a_;rw[r]) rfl (DN (kk:=Au) (val:=λt=>D.lst (pO (held ps t))) s (JD f))
 have u:=w4 (o:=Y1) (ext:=1) (i:=4) (it0:=pR (a_ 1)) (σ:=g) (O0:=O) (O:=O) (l:=ts) (inj:=D.str) (t:=qP (sG (a_ 2) (a_ 4))) (te:=a_ 4) (p:=λt=>!(held ps t).isEmpty) (e:=D.str) (τ:=λt=>g++[XV (.str t)])
  rfl 'd' (λ_=>rfl) (λt a=>by
   show((sG (a_ 2) (a_ 4) _ O).bnd _)=_;have e:=m (g++[XV (D.str t)]) t rfl rfl a;rw[e];show R.ok (!(pO (held ps t)).isEmpty) O=_;unfold pO;rw[nq]) (λ_ _ _=>rfl)
 let b:Sg:=[XV (.lst (pO ps)),XV (.lst (ts.map .str)),XV (BN ps ts),XV (.lst ((wu ps ts).map .str))];have j:∀t∈wu ps ts,t∈ts:=λt a=>(ax.mp a).1;have v:(wu ps ts).length<=81:=yu k;have w:∀t∈wu ps ts,l_ wV (b_ (pV Y1 1 (pR (a_ 3)) (.one 5) [] [] (j_ 3 AY (b_ (a_ 5) (b_ (a_ 4) (b_ (a_ 2) c_))))) c_) (b++[XV (.str t)]) O=.ok (.bl ((wu ps ts).any λo=>yw ps o t)) O:=λt a=>by
  have c:=wc (o:=Y1) (ext:=1) (i:=5) (it0:=pR (a_ 3)) (σ:=b++[XV (.str t)]) (O0:=O) (O:=O) (l:=wu ps ts) (inj:=D.str) (te:=j_ 3 AY (b_ (a_ 5) (b_ (a_ 4) (b_ (a_ 2) c_)))) (e:=λo=>D.bl (yw ps o t)) (τ:=λo=>b++[XV (.str t),XV (.str o)])
   rfl 'd' (λ_=>rfl) (λo x=>qX (Cd rfl (qL rfl rfl)) (Xj f h (j o x) (j t a) O))
  exact tR (p8 (c.trans rfl)) (GQ O _ _)
 have y:=w4 (o:=Y1) (ext:=1) (i:=4) (it0:=pR (a_ 3)) (σ:=b) (O0:=O) (O:=O) (l:=wu ps ts) (inj:=D.str) (t:=tG (qP (l_ wV (b_ (pV Y1 1 (pR (a_ 3)) (.one 5) [] [] (j_ 3 AY (b_ (a_ 5) (b_ (a_ 4) (b_ (a_ 2) c_))))) c_)))) (te:=a_ 4) (p:=λt=>!((wu ps ts).any λo=>yw ps o t)) (e:=D.str) (τ:=λt=>b++[XV (.str t)])
  rfl 'd' (λ_=>rfl) (λt a=>xI (yo (w t a))) (λ_ _ _=>rfl)
 show fin (RK σ O)=_;exact u9 (sQ d (sQ (u.trans rfl) (sv (y.trans rfl))))
def qw(ps:List Nat)(ts:List (List Nat)):List (List Nat):=qi (AD ps ts)
def xK(ps:List Nat)(ts:List (List Nat)):List Nat:=ps.filter λp=>(pX (qw ps ts) p).isEmpty
def qU(ps:List Nat)(ts:List (List Nat)):List Nat:=K_ (xK ps ts) ts
def rF(ps:List Nat)(ts:List (List Nat)):List (List Nat):=HI (qU ps ts) ts
def J6{ts:List (List Nat)}(h:Tm ts){p:Nat}(a:uv ts p=YP):(pX ts p).headD []∈pX ts p:=by
 unfold uv at a;rw[beq_iff_eq] at a;cases e:pX ts p with
 |nil=>rw[e] at a;cases a
 |cons x r=>exact al
def BW{ps:List Nat}{ts:List (List Nat)}(h:Tm ts):∀t∈qw ps ts,t∈ts:=λt a=>by
 obtain⟨p,b,rfl⟩:=aB.mp ((vw _).mp a);exact(ax.mp (J6 h (ax.mp b).2)).1
theorem QI(x:List Nat):∀l:List (List Nat),(vn x l).length<=l.length+1
 |[]=>by simp[vn]
 | y::r=>by
  have:=QI x r;unfold vn;split
  ·simp
  ·split
   ·simp
   ·simp only[aO];lia
def JN(c:List (List Nat)):(qi c).length<=c.length:=by
 have:∀(l b:List (List Nat)),(l.foldl (λl x=>vn x l) b).length<=b.length+l.length:=λl=>by
  induction l with
  |nil=>intro b;simp
  | cons a l ih=>
   intro b;rw[eF];have d:=ih (vn a b);have e:=QI a b;simp only[aO];lia
 have:=this c [];simpa [qi] using this
def GH(ps:List Nat)(ts:List (List Nat)):(qw ps ts).length<=(ps.filter (uv ts)).length:=by have:=JN (AD ps ts);unfold AD at this;rw[au] at this;exact this
def zf4{ps:List Nat}{ts:List (List Nat)}(d:ps.Nodup)(a:ps.length<=16)(f:ts.Nodup)(h:Tm ts)(b:ts.length<=81)(O:Ow):
  B7 [.lst (pO ps),.lst (ts.map .str)] O=.ok (.tup [.lst ((qw ps ts).map .str),.lst (pO (qU ps ts)),.lst ((rF ps ts).map .str)]) O:=by
 let σ:Sg:=[XV (.lst (pO ps)),XV (.lst (ts.map .str)),XV (.lst ((qw ps ts).map .str)),X9,X9];have g:Tm (qw ps ts):=λt j=>h t (BW h t j);have k:(qw ps ts).length<=81:=by have:=GH ps ts;have:=yu (p:=uv ts) a;lia
 have c:=w4 (o:=Y1) (ext:=1) (i:=5) (it0:=pR (a_ 0)) (σ:=σ) (O0:=O) (O:=O) (l:=ps) (inj:=λ(p:Nat)=>D.int (p:Int)) (t:=tG (qP (j_ 2 xf (b_ (a_ 2) (b_ (a_ 5) c_))))) (te:=a_ 5) (p:=λp=>(pX (qw ps ts) p).isEmpty) (e:=λ(p:Nat)=>D.int (p:Int)) (τ:=λ(p:Nat)=>σ++[XV (.int (p:Int))])
  rfl 'd' (λ_=>rfl) (λp _=>by
   have:qP (j_ 2 xf (b_ (a_ 2) (b_ (a_ 5) c_))) (σ++[XV (.int (p:Int))]) O=.ok (!(pX (qw ps ts) p).isEmpty) O:=by
    show((j_ 2 xf (b_ (a_ 2) (b_ (a_ 5) c_)) _ O).bnd _)=_;rw[qX (qL rfl rfl) (Km g k p O)];show R.ok (!((pX (qw ps ts) p).map D.str).isEmpty) O=_;rw[nq]
   rw[xI this,Bool.not_not]) (λ_ _ _=>rfl)
 have m:(xK ps ts).Nodup:=d.filter _;show fin (OE [XV (.lst (pO ps)),XV (.lst (ts.map .str)),X9,X9,X9] O)=_;refine u9 (sQ (qX (qL rfl rfl) (PR h b a O)) (sQ (c.trans rfl) (sQ (qX (qL rfl rfl) (z5J m (yu a) h b O)) ?_)));have e:j_ 2 Cm (b_ (a_ 4) (b_ (a_ 1) c_)) [XV (.lst (pO ps)),XV (.lst (ts.map .str)),XV (.lst ((qw ps ts).map .str)),XV (.lst (pO (xK ps ts))),XV (.lst (pO (qU ps ts)))] O=.ok (.lst ((rF ps ts).map .str)) O:=qX (qL rfl rfl) (z7b f h b O);refine sv ?_;have n:=Cd (t:=a_ 2) (x:=.lst ((qw ps ts).map .str)) rfl (qL (t:=a_ 4) (x:=.lst (pO (qU ps ts))) rfl e);show((b_ (a_ 2) (b_ (a_ 4) (b_ (j_ 2 Cm (b_ (a_ 4) (b_ (a_ 1) c_))) c_)) [XV (.lst (pO ps)),XV (.lst (ts.map .str)),XV (.lst ((qw ps ts).map .str)),XV (.lst (pO (xK ps ts))),XV (.lst (pO (qU ps ts)))] O).bnd _)=_;rw[n];rfl
def zeP(O:Ow)(p:Nat)(l:List Nat):r8 O (.int (p:Int)) (.lst (pO l))=.ok (.bl (!l.contains p)) O:=by
 refine(CZ O (x:=.int (p:Int)) (y:=.lst (pO l)) (l:=pO l) rfl (B6 7 l) (.inl rfl) (b:=l.contains p) ?_).2;unfold pO;rw[be,aB];constructor
 ·exact λh=>⟨p,h,rfl⟩
 ·rintro⟨q,h,e⟩;have:(q:Int)=(p:Int):=D.int.inj e;have:q=p:=by lia
  exact this▸h
theorem I_(O:Ow)(k:Nat):∀(f:Nat)(d:D),pl f d=YP->frz O k f d=XV d
 | 0,d,h=>by
  cases d with
  |non=>rfl
  |int i=>rfl
  |str cs=>rfl
  |_=>cases h
 | f+1,d,h=>by
  cases d with
  |non=>rfl
  |int i=>rfl
  |str cs=>rfl
  | lst ds=>
   have h:ds.all (pl f)=YP:=h;show(qh (frz O k f) ds).map D.lst=_;rw[wm λx a=>I_ O k f x (ar.mp h x a)];rfl
  | tup ds=>
   have h:ds.all (pl f)=YP:=h;show(qh (frz O k f) ds).map D.tup=_;rw[wm λx a=>I_ O k f x (ar.mp h x a)];rfl
  |_=>cases h
def GN{O:Ow}{x:List D}:(O++[x])[O.length]?=XV x:=by simp
def P_{O:Ow}{x y:List D}:(O++[x]).set O.length y=O++[y]:=by rw[gh _ _ (aD _),g9];rfl
def zms{σ:Sg}{O O1:Ow}{i k:Nat}{t:DE}{y:D}{ds:List D}(a:σ[i]?=XV (XV (.own k)))(b:t σ O=.ok y O1)(c:O1[k]?=XV ds)(d:ds.length<4000000):
  uL (zQ (a_ i) (b_ t c_)) σ O=.nx σ (O1.set k (ds++[y])):=by refine J3 (x:=.non) ?_;unfold zQ a_;rw[a];show((b_ t c_ σ O).bnd _)=_;rw[p8 b];show(match [y],O1[k]? with|[y],XV ds=>if ds.length<4000000 then R.ok D.non (O1.set k (ds++[y])) else R.bad|_,_=>R.bad)=_;rw[c];dsimp only;rw[Y2 d]
def UQ(ts:List (List Nat))(X8:List (List Nat))(p:Nat):List (List Nat):=if (uv ts p && !X8.contains ((pX ts p).headD []))=YP then X8++[(pX ts p).headD []] else X8
def uH(ts:List (List Nat))(ps:List Nat):List (List Nat):=ps.foldl (UQ ts) []
structure zov(ts:List (List Nat))(ps:List Nat)(l:List (List Nat)):Prop where
 nd:l.Nodup
 mem:∀t,t∈l↔t∈AD ps ts
theorem Ko{α:Type}[LT α](f:∀a:α,¬ a<a)(g:∀a b c:α,a<b->b<c->a<c):∀{l m:List α},l.Pairwise (· < ·)->m.Pairwise (· < ·)->(∀x,x∈l↔x∈m)->l=m
 |[],[],_,_,_=>rfl
 |[],b::m,_,_,h=>by have:=(h b).mpr al;cases this
 |a::l,[],_,_,h=>by have:=(h a).mp al;cases this
 | a::l,b::m,hl,hm,h=>by
  rw[bK] at hl hm;have e:a=b:=by
   rcases am.mp ((h a).mp al) with z|z
   ·exact z
   ·rcases am.mp ((h b).mpr al) with w|w
    ·exact w.symm
    ·exact absurd (g _ _ _ (hm.1 a z) (hl.1 b w)) (f _)
  subst e;congr 1;refine Ko f g hl.2 hm.2 λx=>?_;constructor
  ·intro d;rcases am.mp ((h x).mp (ai _ d)) with z|z
   ·subst z;exact absurd (hl.1 x d) (f x)
   ·exact z
  ·intro d;rcases am.mp ((h x).mpr (ai _ d)) with z|z
   ·subst z;exact absurd (hm.1 x d) (f x)
   ·exact z
def z8T:(oC.all λcs=>decide ((pS cs).Pairwise (· < ·)))=YP:=by decide +kernel
def GA{cs:List Nat}(h:cs∈oC):(pS cs).Pairwise (· < ·):=of_decide_eq_true (ar.mp z8T cs h)
def oR{ts:List (List Nat)}{p:Nat}{t:List Nat}:t∈pX ts p↔t∈ts/\p∈pS t:=by unfold pX;rw[ax,be]
def ph{ts:List (List Nat)}{p:Nat}:(pX ts p).isEmpty=YP ↔ ∀t∈ts,p∉pS t:=by rw[gp,List.eq_nil_iff_forall_not_mem];exact⟨λh t a b=>h t (oR.mpr ⟨a,b⟩),λh t a=>h t (oR.mp a).1 (oR.mp a).2⟩
def De{ps:List Nat}{ts:List (List Nat)}{p:Nat}(h:p∈qU ps ts):p∈xK ps ts:=(ax.mp h).1
def Qx{ps:List Nat}{ts:List (List Nat)}{t:List Nat}(a:t∈qw ps ts):held (qU ps ts) t=[]:=by unfold held;rw[fe];intro q b c;have d:=De (be.mp c);exact ph.mp (ax.mp d).2 t a b
structure Ok(T:List (List Nat))(ps:List Nat)(ts:List (List Nat)):Prop where
 ps1:ps.Pairwise (· < ·)
 ts1:ts.Nodup
 tT:Tm ts
 tl:ts.length<=81
 TT:Tm T
 nd:T.Nodup
 dj:∀t∈T,t∉ts
 ln:T.length+ps.length<=16
def Ok.pn{T:List (List Nat)}{ps:List Nat}{ts:List (List Nat)}(h:Ok T ps ts):ps.Nodup:=h.ps1.imp λz=>bo z
def Ok.p16{T:List (List Nat)}{ps:List Nat}{ts:List (List Nat)}(h:Ok T ps ts):ps.length<=16:=by have:=h.ln;lia
def Rf{ps:List Nat}{ts:List (List Nat)}(h:Tm ts){p:Nat}(b:p∈ps)(a:uv ts p=YP):¬ (pX (qw ps ts) p).isEmpty=YP:=λz=>by
 have c:=J6 h a;have:(pX ts p).headD []∈qw ps ts:=(vw _).mpr (aB.mpr ⟨p,ax.mpr ⟨b,a⟩,rfl⟩);exact ph.mp z _ this (oR.mp c).2
theorem Ky{α:Type}{a b:α->Bool}:∀{l:List α},(∀x∈l,a x=YP->b x=YP->False)->(l.filter a).length+(l.filter b).length<=l.length
 |[],_=>by simp
 | x::l,h=>by
  have g:=Ky (l:=l) (a:=a) (b:=b) λy d=>h y (ai _ d);have e:=h x al;rw[cY,cY];by_cases c:a x=YP
  ·have f:¬ b x=YP:=λz=>e c z;rw[Y2 c,Z5 f];simp only[aO];lia
  ·rw[Z5 c];split
   ·simp only[aO];lia
   ·simp only[aO];lia
def Pw(ps:List Nat)(ts:List (List Nat)):(qU ps ts).length<=(xK ps ts).length:=aZ _ _
def B0{ps:List Nat}{ts:List (List Nat)}{t:List Nat}(h:t∈rF ps ts):t∈ts/\¬ (held (qU ps ts) t).isEmpty=YP:=by have a:=ax.mp (ax.mp h).1;exact⟨a.1,by simpa using a.2⟩
def Jq(l:List (List Nat)):(qi l).Nodup:=jK (λ{a b}z(e:a=b)=>fG a (by rw[<- e] at z;exact z)) (GS l)
def Ok.step{T:List (List Nat)}{ps:List Nat}{ts:List (List Nat)}(h:Ok T ps ts):Ok (T++qw ps ts) (qU ps ts) (rF ps ts) where
 ps1:=(h.ps1.filter _).filter _
 ts1:=(h.ts1.filter _).filter _
 tT:=λt ht=>h.tT t (B0 ht).1
 tl:=yu (yu h.tl)
 TT:=λt ht=>(aH.mp ht).elim (h.TT t) λz=>h.tT t (BW h.tT t z)
 nd:=by
  rw[dF];refine⟨h.nd,Jq _,λa d b f e=>?_⟩;subst e;exact h.dj a d (BW h.tT a f)
 dj:=λt ht z=>by
  have c:=B0 z;rcases aH.mp ht with ht|ht
  ·exact h.dj t ht c.1
  ·rw[Qx ht] at c;exact c.2 rfl
 ln:=by have i:=GH ps ts;have j:=Pw ps ts;have k:(ps.filter (uv ts)).length+(xK ps ts).length<=ps.length:=Ky λp g a b=>Rf h.tT g a b;have l:=h.ln;rw[az];lia
def stay{T:List (List Nat)}{ps:List Nat}{ts:List (List Nat)}(h:Ok T ps ts)(e:qU ps ts=ps):qw ps ts=[]:=by have f:=GH ps ts;have c:=Pw ps ts;have g:(ps.filter (uv ts)).length+(xK ps ts).length<=ps.length:=Ky λp d a b=>Rf h.tT d a b;rw[e] at c;exact cj.mp 'd'
def Rn{α:Type}{l:List α}{p q:α->Bool}(h:l.length<=((l.filter p).filter q).length):(l.filter p).filter q=l:=by rw[mr] at h ⊢;exact gG.mpr (List.length_filter_eq_length_iff.mp (kw (aZ _ _) h))
def MK{ps:List Nat}{ts:List (List Nat)}(h:¬ (qU ps ts=ps/\rF ps ts=ts)):(qU ps ts).length+(rF ps ts).length<ps.length+ts.length:=by
 have a:(qU ps ts).length<=ps.length:=aE (aZ _ _) (aZ _ _);have b:(rF ps ts).length<=ts.length:=aE (aZ _ _) (aZ _ _);rcases i4 ((qU ps ts).length+(rF ps ts).length) (ps.length+ts.length) with z|z
 ·exact z
 ·exact absurd ⟨Rn (by show ps.length<=(qU ps ts).length;lia),Rn (by show ts.length<=(rF ps ts).length;lia)⟩ h
structure St where
 T:List (List Nat)
 ps:List Nat
 ts:List (List Nat)
def oF:Nat->St->St
 |0,s=>s
 |f+1,s=>if qU s.ps s.ts=s.ps/\rF s.ps s.ts=s.ts then s else oF f ⟨s.T++qw s.ps s.ts,qU s.ps s.ts,rF s.ps s.ts⟩
theorem O8:∀(f:Nat)(s:St),Ok s.T s.ps s.ts->Ok (oF f s).T (oF f s).ps (oF f s).ts
 |0,s,h=>h
 | f+1,s,h=>by
  unfold oF;split
  ·exact h
  ·exact O8 f ⟨_,_,_⟩ h.step
def OM{b:List (List Nat)}(a:Tm b)(p:List Nat):pl 8 (.tup [.lst (pO p),.lst (b.map .str)])=YP:=by show[D.lst _,D.lst _].all (pl 7)=YP;simp only[iA,ms,iC,aQ];exact⟨B6 6 p,yf a 6⟩
def wB:DS:=(m_ (yi 5 6 7 (j_ 2 B7 (b_ (a_ 2) (b_ (a_ 1) c_)))) (m_ (pZ 4 (e_ (qe rH) (qR (b_ (a_ 6) (b_ (a_ 7) c_))) (qR (b_ (a_ 2) (b_ (a_ 1) c_))))) (m_ (uL (zR (a_ 3) (b_ (a_ 5) c_))) (FI 2 1 (b_ (a_ 6) (b_ (a_ 7) c_))))))
abbrev xi(F:Option D)(k:Nat)(s:St)(b:Bool)(y5 y6 y7:Option D):Sg:=[F,XV (.lst (s.ts.map .str)),XV (.lst (pO s.ps)),XV (.own k),XV (.bl b),y5,y6,y7]
def Uy{F:Option D}{s:St}(h:Ok s.T s.ps s.ts)(O:Ow)(y5 y6 y7:Option D):∃i j k,wB (xi F O.length s YP y5 y6 y7) (O++[s.T.map D.str])=.nx (xi F O.length ⟨s.T++qw s.ps s.ts,qU s.ps s.ts,rF s.ps s.ts⟩ (!decide (qU s.ps s.ts=s.ps/\rF s.ps s.ts=s.ts)) i j k) (O++[(s.T++qw s.ps s.ts).map D.str]):=by
 let A:Option D:=XV (.lst (s.ts.map .str));let B:Option D:=XV (.lst (pO s.ps));let K:Option D:=XV (.own O.length);let a:Option D:=XV (.lst ((qw s.ps s.ts).map .str));let c:Option D:=XV (.lst (pO (qU s.ps s.ts)));let d:Option D:=XV (.lst ((rF s.ps s.ts).map .str));refine⟨a,c,d,?_⟩;have l:yi 5 6 7 (j_ 2 B7 (b_ (a_ 2) (b_ (a_ 1) c_))) (xi F O.length s YP y5 y6 y7) (O++[s.T.map D.str])=.nx [F,A,B,K,XV (.bl YP),a,c,d] (O++[s.T.map D.str]):=by
  unfold yi;rw[qX (qL rfl rfl) (zf4 h.pn h.p16 h.ts1 h.tT h.tl (O++[s.T.map D.str]))];rfl
 have m:e_ (qe rH) (qR (b_ (a_ 6) (b_ (a_ 7) c_))) (qR (b_ (a_ 2) (b_ (a_ 1) c_))) [F,A,B,K,XV (.bl YP),a,c,d] (O++[s.T.map D.str])=.ok (.bl (!decide (qU s.ps s.ts=s.ps/\rF s.ps s.ts=s.ts))) (O++[s.T.map D.str]):=by
  refine q_ (x:=.tup [.lst (pO (qU s.ps s.ts)),.lst ((rF s.ps s.ts).map .str)]) (y:=.tup [.lst (pO s.ps),.lst (s.ts.map .str)]) rfl rfl (F3 _ (OM h.step.tT _) (OM h.tT _) (b:=decide (qU s.ps s.ts=s.ps/\rF s.ps s.ts=s.ts)) ?_).2;rw[decide_eq_true_eq];constructor
  ·rintro⟨f,g⟩;rw[f,g]
  ·intro e;have e:=D.tup.inj e;have f:=D.lst.inj (lN e).1;have g:=D.lst.inj (lN (lN e).2).1;exact⟨J5 f,PK g⟩
 have n:uL (zR (a_ 3) (b_ (a_ 5) c_)) [F,A,B,K,XV (.bl (!decide (qU s.ps s.ts=s.ps/\rF s.ps s.ts=s.ts))),a,c,d] (O++[s.T.map D.str])=.nx [F,A,B,K,XV (.bl (!decide (qU s.ps s.ts=s.ps/\rF s.ps s.ts=s.ts))),a,c,d] (O++[(s.T++qw s.ps s.ts).map D.str]):=by
  refine(J3 (x:=.non) (O1:=O++[(s.T++qw s.ps s.ts).map D.str]) ?_);show(match [D.lst ((qw s.ps s.ts).map D.str)],(O++[s.T.map D.str])[O.length]? with
   | [y],XV ds=>(match tJ (O++[s.T.map D.str]) y with
    |some es=>if ds.length+es.length<=4000000 then R.ok D.non ((O++[s.T.map D.str]).set O.length (ds++es)) else R.bad
    |none=>R.bad)
   |_,_=>R.bad)=_
  rw[GN];show(if (s.T.map D.str).length+((qw s.ps s.ts).map D.str).length<=4000000 then R.ok D.non ((O++[s.T.map D.str]).set O.length (s.T.map D.str++(qw s.ps s.ts).map D.str)) else R.bad)=_;have p:=h.ln;have o:=h.step.ln;rw[az] at o;rw[Y2 (by simp only[au];lia),P_,bT]
 unfold wB;exact yU l (sQ m (yU n rfl))
theorem OY{F:Option D}(O:Ow):∀(g:Nat)(s:St)(y5 y6 y7:Option D),Ok s.T s.ps s.ts->s.ps.length+s.ts.length<g->∃b c d,uz (qP (a_ 4)) wB (g+1) (xi F O.length s YP y5 y6 y7) (O++[s.T.map D.str])=.nx (xi F O.length (oF g s) Y1 b c d) (O++[(oF g s).T.map D.str])
 |0,s,_,_,_,_,hm=>by lia
 | g+1,s,y5,y6,y7,h,hm=>by
  obtain⟨b,c,d,e⟩:=Uy (F:=F) h O y5 y6 y7;have f:∀r,(match wB (xi F O.length s YP y5 y6 y7) (O++[s.T.map D.str]) with
   |.nx σ' O'=>uz (qP (a_ 4)) wB (g+1) σ' O'
   |.ct σ' O'=>uz (qP (a_ 4)) wB (g+1) σ' O'
   |.bk σ' O'=>.nx σ' O'
   |r=>r)=r->uz (qP (a_ 4)) wB (g+1+1) (xi F O.length s YP y5 y6 y7) (O++[s.T.map D.str])=r:=λr i=>i
  by_cases a:qU s.ps s.ts=s.ps/\rF s.ps s.ts=s.ts
  ·have j:=stay h a.1;rw[decide_eq_true a,j,a.1,a.2,bP] at e;refine⟨b,c,d,f _ ?_⟩;rw[e];unfold oF;rw[Y2 a];rfl
  ·rw[decide_eq_false a] at e;have o:=MK a;obtain⟨k,l,m,n⟩:=OY (F:=F) O g ⟨s.T++qw s.ps s.ts,qU s.ps s.ts,rF s.ps s.ts⟩ b c d h.step (by show(qU s.ps s.ts).length+(rF s.ps s.ts).length<g;lia);refine⟨k,l,m,f _ ?_⟩;rw[e];have:oF (g+1) s=oF g ⟨s.T++qw s.ps s.ts,qU s.ps s.ts,rF s.ps s.ts⟩:=by
    show(if _ then _ else _)=_;rw[Z5 a]
   rw[this];exact n
def z7s:([1,2,3,4].all λn=>decide ((X7 n).Pairwise (· < ·)))=YP:=by decide +kernel
def zcK{n:Nat}(a:1<=n)(b:n<=4):(X7 n).Pairwise (· < ·):=by
 have:n∈[1,2,3,4]:=by simp;lia
 exact of_decide_eq_true (ar.mp z7s n this)
def Kq{n:Nat}{f:List D}(a:Fn n f):(rk n f).Pairwise (· < ·):=((zcK a.n1 a.n4).filter _).filter _
def IK{l:List (List Nat)}(h:l.Pairwise (· < ·)):l.Nodup:=jK (λ{a b}z(e:a=b)=>fG a (by rw[<- e] at z;exact z)) h
def El{n:Nat}{f:List D}(a:Fn n f):Ok [] (zb uQ n f) (rk n f) where
 ps1:=kK.filter _
 ts1:=IK (Kq a)
 tT:=z_ a
 tl:=Kr a
 TT:=λ_ z=>by cases z
 nd:=ie
 dj:=λ_ z=>by cases z
 ln:=by have:=Ds a uQ;simpa using this
abbrev s0(n:Nat)(f:List D):St:=⟨[],zb uQ n f,rk n f⟩
abbrev sF(n:Nat)(f:List D):St:=oF 99 (s0 n f)
abbrev res(n:Nat)(f:List D):D:=.tup [.tup ((qi (sF n f).T).map .str),.tup (pO (sF n f).ps),.tup ((sF n f).ts.map .str)]
def CU{n:Nat}{f:List D}(a:Fn n f):Ok (sF n f).T (sF n f).ps (sF n f).ts:=O8 99 (s0 n f) (El a)
def m0{n:Nat}{f:List D}(a:Fn n f):(s0 n f).ps.length+(s0 n f).ts.length<99:=by have b:=Ds a uQ;have c:=Kr a;show(zb uQ n f).length+(rk n f).length<99;lia
def Oj{l:List (List Nat)}(h:Tm l):Tm (qi l):=λt a=>h t ((vw _).mp a)
def ZT{n:Nat}{f:List D}(a:Fn n f){O:Ow}(l:Av O):Du [.tup f] O=.ok (res n f) O:=by
 let F:Option D:=XV (.tup f);have c:=CU a;obtain⟨e,g,i,w⟩:=OY (F:=F) O 99 (s0 n f) X9 X9 X9 (El a) (m0 a);have m:j_ 1 yt (b_ (a_ 0) c_) [F,X9,X9,X9,X9,X9,X9,X9] O=.ok (.lst ((rk n f).map .str)) O:=qX (p8 rfl) (G0 a O);have o:j_ 2 Ab (b_ (a_ 0) (b_ (dC (.int 1)) c_)) [F,XV (.lst ((rk n f).map .str)),X9,X9,X9,X9,X9,X9] O=.ok (.lst (pO (zb uQ n f))) O:=qX (qL rfl rfl) (RT a (.int 1) uQ O λd h=>eq1 O h);have j:C9 100 (qP (a_ 4)) wB (xi F O.length (s0 n f) YP X9 X9 X9) (O++[[]])=.nx (xi F O.length (sF n f) Y1 e g i) (O++[(sF n f).T.map D.str]):=w;generalize k:O++[(sF n f).T.map D.str]=O1 at j;have p:O1[O.length]?=XV ((sF n f).T.map D.str):=by rw[<- k];exact GN
 have q:l_ tY (b_ (l_ AH (b_ (a_ 3) c_)) c_) (xi F O.length (sF n f) Y1 e g i) O1=.ok (.tup ((qi (sF n f).T).map .str)) O1:=by
  have r:l_ AH (b_ (a_ 3) c_) (xi F O.length (sF n f) Y1 e g i) O1=.ok (.lst ((qi (sF n f).T).map .str)) O1:=by
   refine tR (p8 (x:=.own O.length) rfl) ?_;show(match O1[O.length]? with|some ds=>(match uu ds with|some ss=>if ss.Nodup/\ss.length<64 then R.ok (D.lst ((qi ss).map .str)) O1 else R.bad|none=>R.bad)|none=>R.bad)=_;rw[p];dsimp only;rw[DL.strL_map];have:=c.ln;exact Y2 ⟨c.nd,by lia⟩
  exact tR (p8 r) rfl
 have b:fin (Jw [F,X9,X9,X9,X9,X9,X9,X9] O)=.ok (res n f) O1:=by
  refine u9 (sQ m (sQ o (sQ (x:=.own O.length) (O1:=O++[[]]) rfl (sQ (x:=.bl YP) rfl (yU j (sv ?_))))));have s:=Cd q (qL (t:=l_ tY (b_ (a_ 2) c_)) (x:=.tup (pO (sF n f).ps)) (u:=l_ tY (b_ (a_ 1) c_)) (y:=.tup ((sF n f).ts.map .str)) rfl rfl);show((b_ (l_ tY (b_ (l_ AH (b_ (a_ 3) c_)) c_)) (b_ (l_ tY (b_ (a_ 2) c_)) (b_ (l_ tY (b_ (a_ 1) c_)) c_)) (xi F O.length (sF n f) Y1 e g i) O1).bnd _)=_;rw[s];rfl
 show uK O.length (fin (Jw [F,X9,X9,X9,X9,X9,X9,X9] O))=_;rw[b,<- k];refine J1 l [(sF n f).T.map D.str] (I_ _ _ 8 _ ?_);show[D.tup _,D.tup _,D.tup _].all (pl 7)=YP;simp only[iA,ms,iC,aQ];exact⟨yf (Oj c.TT) 6,B6 6 _,yf c.tT 6⟩
def ZY{ns:List Int}(e:ns.length<=63)(σ:Sg)(c:Nat)(g:c<1000)(a:a_ 0 σ []=.ok (.lst (ns.map .int)) []):∃m:Nat,m<100000/\l_ AL (b_ (dC (.int 1)) (b_ (l_ AJ (b_ (l_ qt (b_ (a_ 0) c_)) (b_ (dC (.int (c:Nat))) c_))) c_)) σ []=.ok (.int (m:Nat)) []:=by
 have b:l_ AJ (b_ (l_ qt (b_ (a_ 0) c_)) (b_ (dC (.int (c:Nat))) c_)) σ []=.ok (.int (if (c:Int)<((ns.map D.int).length:Nat) then (c:Int) else ((ns.map D.int).length:Nat))) []:=(uM (qL ((uM (p8 a)).trans rfl) rfl)).trans rfl;have d:=(uM (f:=AL) (qL (t:=dC (.int 1)) rfl b));refine⟨(if (if (c:Int)<((ns.map D.int).length:Nat) then (c:Int) else ((ns.map D.int).length:Nat))>1 then (if (c:Int)<((ns.map D.int).length:Nat) then (c:Int) else ((ns.map D.int).length:Nat)) else 1).toNat,?_,d.trans ?_⟩
 ·rw[au];split<;>split<;>lia
 ·show R.ok (D.int (if (if (c:Int)<((ns.map D.int).length:Nat) then (c:Int) else ((ns.map D.int).length:Nat))>1 then (if (c:Int)<((ns.map D.int).length:Nat) then (c:Int) else ((ns.map D.int).length:Nat)) else 1)) []=_;congr 2;rw[au];split<;>split<;>lia
noncomputable def sP(n:Nat)(a b:List Nat):Bool:=(aL n).all λi=>b.getD i 0==45||b.getD i 0==a.getD i 0
def Pb{n:Nat}(a:1<=n)(b:n<=4){cs:List Nat}(h:cs∈X7 n){p:Nat}(d:p<2 ^ n):p∈pS cs↔B2 cs (wZ n p)=YP:=by have c:=xh a b h;have:=ar.mp QN _ (P8 (xG a b h) (by rw[c];exact d));simp only[aQ,beq_iff_eq] at this;rw[c] at this;rw[this.1.1.1];simp
def Gz{n:Nat}(a:1<=n)(b:n<=4){cs:List Nat}(h:cs∈X7 n){p:Nat}(c:p∈pS cs):p<2 ^ n:=by have:=Gr (xG a b h) c;rw[xh a b h] at this;exact this
def Qg{n:Nat}(c:1<=n)(d:n<=4){a b:List Nat}(e:a∈X7 n)(f:b∈X7 n)(h:sP n a b=YP){p:Nat}(g:p∈pS a):p∈pS b:=by
 have j:=Gz c d e g;have m:=(Pb c d e j).mp g;refine(Pb c d f j).mpr ?_;unfold B2 at m ⊢;unfold sP at h;rw[xh c d e] at m;rw[xh c d f];rw[ar] at h m ⊢;intro i k;have e1:=h i k;have e2:=m i k;simp only[dH,beq_iff_eq] at e1 e2 ⊢;rcases e1 with e1|e1
 ·exact .inl e1
 ·rcases e2 with e2|e2
  ·exact .inl (e1.trans e2)
  ·exact .inr (e1.trans e2)
def Q3(n:Nat)(a:List Nat):sP n a a=YP:=by unfold sP;rw[ar];intro i _;simp
def Gx{n:Nat}{a b:List Nat}(h:sP n a b=YP){k:Nat}(c:k<n):b.getD k 0=45\/b.getD k 0=a.getD k 0:=by unfold sP at h;have:=ar.mp h k (bM.mpr c);simpa using this
def Pf{n:Nat}{a b:List Nat}(h:∀k,k<n->b.getD k 0=45\/b.getD k 0=a.getD k 0):sP n a b=YP:=by unfold sP;rw[ar];intro k c;have:=h k (bM.mp c);simpa using this
def Zy{n:Nat}{a b:List Nat}(e:a.length=n)(f:b.length=n)(h:∀k,k<n->a.getD k 0=b.getD k 0):a=b:=by refine List.ext_getElem 'd' λi c d=>?_;have:=h i 'd';rw[J_ c,J_ d] at this;exact this
def zb2{α:Type}{l:List α}{p:α->Bool}:(l.filter p).isEmpty=l.all λx=>!p x:=by rw[dU,gp,fe,ar];exact forall_congr' λa=>forall_congr' λ_=>by simp
def xu(f:List D):List Nat:=(aL f.length).filter λp=>uQ (f.getD p .non)
def o5{f:List D}{p:Nat}:p∈xu f↔p<f.length/\uQ (f.getD p .non)=YP:=by unfold xu;rw[ax,bM]
def AM(f:List D)(t:List Nat):Bool:=!((xu f).filter λp=>(pS t).contains p).isEmpty
def Ip(n:Nat)(f:List D)(t:List Nat):Bool:=((vp n f).filter λo=>decide (o≠t)&&sP n t o).isEmpty&&AM f t
def gr(n:Nat)(f:List D):List (List Nat):=(vp n f).filter (Ip n f)
def Hm{n:Nat}{f:List D}{t:List Nat}(h:t∈vp n f):t∈X7 n:=(ax.mp h).1
def Ld(f:List D)(l:List (List Nat)):Bool:=(xu f).all λp=>l.any λt=>(pS t).contains p
theorem G5{α:Type}:∀(l:List α)(i:Nat)(h:i<l.length),(l[i]::l.eraseIdx i).Perm l
 |[],_,h=>by simp at h
 |x::l,0,_=>eo _
 | x::l,i+1,h=>by
  rw[List.eraseIdx_cons_succ,List.getElem_cons_succ];exact(nV _ _ _).trans ((G5 l i (by simpa using h)).cons x)
def zb7{n:Nat}{a b c:List Nat}(e:sP n a b=YP)(f:sP n b c=YP):sP n a c=YP:=Pf λk d=>by
 rcases Gx f d with z|z
 ·exact .inl z
 ·rcases Gx e d with y|y
  ·exact .inl (z.trans y)
  ·exact .inr (z.trans y)
def BJ(n:Nat)(l:List (List Nat)):List (List Nat):=l.filter λt=>!(l.any λo=>decide (t≠o)&&sP n t o)
def o8{n:Nat}{l:List (List Nat)}{t:List Nat}:t∈BJ n l↔t∈l/\∀o∈l,sP n t o=YP->t=o:=by
 unfold BJ;rw[ax];refine and_congr_right λ_=>?_;rw[eL,im];constructor
 ·intro h o a c;have:=h o a;simp only[aQ,decide_eq_true_eq,not_and] at this;exact cq λd=>this d c
 ·intro h o a b;simp only[aQ,decide_eq_true_eq] at b;exact b.1 (h o a b.2)
def FW(n:Nat)(a:List Nat):Nat:=(aL n).countP λk=>a.getD k 0==45
theorem Kf{α:Type}{p q:α->Bool}:∀(l:List α),(∀x∈l,p x=YP->q x=YP)->(∃x∈l,q x=YP/\p x=Y1)->l.countP p<l.countP q
 |[],_,h=>by obtain⟨_,h,_⟩:=h;cases h
 | x::l,h,he=>by
  have e:l.countP p<=l.countP q:=lj λy hy=>h y (ai _ hy);rw[nu,nu];obtain⟨y,hy,b,c⟩:=he;rcases am.mp hy with rfl|hy
  ·rw[b,c];simp;lia
  ·have f:=Kf l (λy hy=>h y (ai _ hy)) ⟨y,hy,b,c⟩;have d:=h x al;by_cases a:p x=YP
   ·rw[Y2 a,Y2 (d a)];lia
   ·rw[Z5 a];lia
def O_{n:Nat}{a b:List Nat}(f:a.length=n)(g:b.length=n)(h:sP n a b=YP)(i:a≠b):FW n a<FW n b:=by
 refine Kf _ (λk c d=>?_) ?_
 ·have d:a.getD k 0=45:=by simpa using d
  rcases Gx h (bM.mp c) with z|z
  ·simpa using z
  ·rw[z,d];rfl
 ·refine cq λj=>i (Zy f g λk c=>?_);rcases Gx h c with z|z
  ·refine cq λe=>j ⟨k,bM.mpr c,by simpa using z,?_⟩;rw[z] at e;simpa using e
  ·exact z.symm
def Zd(n:Nat)(a:List Nat):FW n a<=n:=by have:=List.countP_le_length (p:=λk=>a.getD k 0==45) (l:=aL n);rw[eJ] at this;exact this
theorem Qk{n:Nat}{l:List (List Nat)}(b:∀t∈l,t.length=n):∀(f:Nat)(s:List Nat),s∈l->n<=FW n s+f->∃t∈BJ n l,sP n s t=YP
 | 0,s,hs,hd=>⟨s,o8.mpr ⟨hs,λo a h=>cq λc=>by
   have:=O_ (b s hs) (b o a) h c;have:=Zd n o;lia⟩,Q3 n s⟩
 | f+1,s,hs,hd=>by
  by_cases d:s∈BJ n l
  ·exact⟨s,d,Q3 n s⟩
  ·rw[o8] at d;have:∃o∈l,sP n s o=YP/\s≠o:=cq λe=>d ⟨hs,λo a h=>cq λc=>e ⟨o,a,h,c⟩⟩;obtain⟨o,a,h,c⟩:=this;have j:=O_ (b s hs) (b o a) h c;obtain⟨t,g,i⟩:=Qk b f o a 'd';exact⟨t,g,zb7 h i⟩
def UK{n:Nat}{l:List (List Nat)}(a:∀t∈l,t.length=n){s:List Nat}(b:s∈l):∃t∈BJ n l,sP n s t=YP:=Qk a n s b 'd'
def zdS:(pv.all λq=>decide (pS (wZ q.1 q.2)=[q.2])&&decide (wZ q.1 q.2∈X7 q.1))=YP:=by decide +kernel
def YO{n:Nat}{f:List D}{t:List Nat}(b:t∈BJ n (vp n f))(c:AM f t=YP):t∈gr n f:=by obtain⟨d,e⟩:=o8.mp b;refine ax.mpr ⟨d,?_⟩;unfold Ip;rw[c,iC,gp,fe];intro o g a;simp only[aQ,decide_eq_true_eq] at a;exact a.1 (e o g a.2).symm
def YM{n:Nat}{f:List D}(h:Fn n f):Ld f (gr n f)=YP:=by
 have b:=h.n1;have c:=h.n4;unfold Ld;rw[ar];intro p i;obtain⟨d,g⟩:=o5.mp i;have j:=d;rw[h.len] at d;have a:=ar.mp zdS (n,p) (Qm b c d);simp only[aQ,decide_eq_true_eq] at a;have o:uF (f.getD p .non)=Y1:=by
  rw[Dh j] at g ⊢;rcases h.ans _ (cu j) with e|e|e<;>rw[e] at g ⊢ <;> first|rfl|cases g
 have q:wZ n p∈vp n f:=ax.mpr ⟨a.2,by
  unfold tP;rw[a.1];simp only[iA,ms,iC,o];rfl⟩
 obtain⟨w,k,r⟩:=UK (λt s=>xh b c (Hm s)) q;have l:=Qg b c a.2 (Hm (o8.mp k).1) r (p:=p) (by rw[a.1];simp);rw[cI];refine⟨w,YO k ?_,by simpa using l⟩;unfold AM;have m:p∈(xu f).filter λp=>(pS w).contains p:=ax.mpr ⟨i,by simpa using l⟩;cases e:(xu f).filter λp=>(pS w).contains p with
 |nil=>rw[e] at m;cases m
 |cons _ _=>rfl
theorem pJ{α:Type}{R:α->α->Bool}{l:List α}(d:∀x∈l,R x x=Y1)(c:∀x∈l,∀y∈l,∀z∈l,R x y=YP->R y z=YP->R x z=YP):∀(k:Nat)(t:α),t∈l->l.countP (R · t)<=k->∃u∈l.filter λt=>!(l.any λo=>R o t),u=t\/R u t=YP
 | k,t,ht,hk=>by
  cases h:l.any λo=>R o t with
  |false=>exact⟨t,ax.mpr ⟨ht,by rw[h];rfl⟩,.inl rfl⟩
  | true=>
   obtain⟨o,a,b⟩:=cI.mp h;have g:l.countP (R · o)<l.countP (R · t):=Kf l (λx f q=>c x f o a t ht q b) ⟨o,a,b,d o a⟩
   match k with
   |0=>lia
   | k+1=>
    obtain⟨u,e,h1⟩:=pJ d c k o a 'd';refine⟨u,e,.inr ?_⟩;rcases h1 with rfl|h1
    ·exact b
    ·exact c u (ax.mp e).1 o a t ht h1 b
def RL{α:Type}{R:α->α->Bool}{l:List α}(a:∀x∈l,R x x=Y1)(b:∀x∈l,∀y∈l,∀z∈l,R x y=YP->R y z=YP->R x z=YP){t:α}(c:t∈l):∃u∈l.filter λt=>!(l.any λo=>R o t),u=t\/R u t=YP:=pJ a b _ t c (aD _)
def zbw{ts:List (List Nat)}{a b:Nat}(d:∀t∈pX ts a,t∈pX ts b)(e:∀t∈pX ts b,t∈pX ts a):pX ts a=pX ts b:=by unfold pX at *;refine jL λt c=>?_;rw[dU];exact⟨λq=>(ax.mp (d t (ax.mpr ⟨c,q⟩))).2,λq=>(ax.mp (e t (ax.mpr ⟨c,q⟩))).2⟩
def o4{ts:List (List Nat)}{o p:Nat}:yy ts o p=YP↔(∀t∈pX ts o,t∈pX ts p)/\(pX ts o≠pX ts p\/o<p):=by unfold yy;simp only[aQ,dH,ar,be,bne_iff_ne,decide_eq_true_eq]
def zd9{ps:List Nat}{ts:List (List Nat)}{p:Nat}(f:p∈ps):∃q∈K_ ps ts,∀t∈pX ts q,t∈pX ts p:=by
 obtain⟨u,g,h⟩:=RL (R:=yy ts) (l:=ps) (λx _=>by
  cases h:yy ts x x with
  |false=>rfl
  | true=>
   rcases (o4.mp h).2 with z|z
   ·exact absurd rfl z
   ·exact absurd z (bz _)) (λx _ y _ z _ i j=>by
  obtain⟨b,k⟩:=o4.mp i;obtain⟨c,m⟩:=o4.mp j;refine o4.mpr ⟨λt a=>c t (b t a),?_⟩;by_cases e:pX ts x=pX ts z
  ·right;have d:pX ts x=pX ts y:=zbw b λt a=>by rw[e];exact c t a
   have o:pX ts y=pX ts z:=d.symm.trans e;have r:=k.resolve_left λn=>n d;have s:=m.resolve_left λn=>n o;lia
  ·exact .inl e) f
 refine⟨u,g,?_⟩;rcases h with rfl|h
 ·exact λt a=>a
 ·exact(o4.mp h).1
def oY{ps:List Nat}{o t:List Nat}:yw ps o t=YP↔sg o<=sg t/\(∀q∈held ps t,q∈held ps o)/\(held ps o≠held ps t\/sg o<sg t\/o<t):=by
 unfold yw;simp only[aQ,dH,eL,fD,ar,be,bne_iff_ne,decide_eq_true_eq,decide_eq_false_iff_not,Bool.not_eq_false',lu];constructor
 ·rintro⟨⟨a,b⟩,c⟩;exact⟨a,b,c⟩
 ·rintro⟨a,b,c⟩;exact⟨⟨a,b⟩,c⟩
def zbu{ps:List Nat}{a b:List Nat}(d:a∈oC)(e:b∈oC)(f:∀q∈held ps a,q∈held ps b)(g:∀q∈held ps b,q∈held ps a):held ps a=held ps b:=
 Ko (α:=Nat) (λa=>bz a) (λa b c=>l9) ((GA d).filter _) ((GA e).filter _) λx=>⟨f x,g x⟩
def QQ{ps:List Nat}{ts:List (List Nat)}(i:Tm ts){t:List Nat}(j:t∈ts)(k:(held ps t).isEmpty=Y1):∃u∈HI ps ts,(∀q∈held ps t,q∈held ps u)/\sg u<=sg t:=by
 have m:t∈wu ps ts:=ax.mpr ⟨j,by rw[k];rfl⟩;have c:∀x∈wu ps ts,x∈oC:=λx b=>i x (ax.mp b).1;obtain⟨u,o,h⟩:=RL (R:=yw ps) (l:=wu ps ts) (λx _=>by
  cases h:yw ps x x with
  |false=>rfl
  | true=>
   rcases (oY.mp h).2.2 with z|z|z
   ·exact absurd rfl z
   ·exact absurd z (bz _)
   ·exact absurd z (fG _)) (λx b y p z D r s=>by
  obtain⟨v,d,w⟩:=oY.mp r;obtain⟨A,f,B⟩:=oY.mp s;refine oY.mpr ⟨aE v A,λq a=>d q (f q a),?_⟩;by_cases e:held ps x=held ps z
  ·right;have g:held ps x=held ps y:=zbu (c x b) (c y p) (λq a=>f q (by rw[<- e];exact a)) d;have C:held ps y=held ps z:=g.symm.trans e;have h3:=w.resolve_left λn=>n g;have h4:=B.resolve_left λn=>n C;rcases h3 with h3|h3
   ·left;lia
   ·rcases h4 with h4|h4
    ·left;lia
    ·right;exact iz h3 h4
  ·exact .inl e) m
 refine⟨u,o,?_⟩;rcases h with rfl|h
 ·exact⟨λq a=>a,aD _⟩
 ·exact⟨(oY.mp h).2.1,(oY.mp h).1⟩
def rG(S:List (List Nat)):Nat:=(S.map sg).sum
def Ju(a b:List (List Nat)):rG (a++b)=rG a+rG b:=by unfold rG;rw[bT,nG]
def Dv(t:List Nat)(b:List (List Nat)):rG (t::b)=sg t+rG b:=by unfold rG;rw[bh,fR]
def Dy{a b:List (List Nat)}(h:a.Perm b):rG a=rG b:=by
 induction h with
 |nil=>rfl
 |cons x _ ih=>rw[Dv,Dv,ih]
 |swap x y l=>simp only[Dv];lia
 |trans _ _ h1 h2=>exact h1.trans h2
theorem Hf{α:Type}[DecidableEq α]:∀{a b:List α},a.Nodup->(∀t∈a,t∈b)->a.length<=b.length
 |[],_,_,_=>bX _
 | x::a,b,n,h=>by
  have c:=h x al;have d:=bw.mp n;have:=Hf (b:=b.erase x) d.2 λt f=>(lC (λe:t=x=>d.1 (e▸f))).mpr (h t (ai _ f));rw[j7 c] at this;have:=kL c;rw[aO];lia
def CQ(ps:List Nat)(ts S:List (List Nat)):Prop:=(∀t∈S,t∈ts)/\∀p∈ps,∃t∈S,p∈pS t
structure zO(ps:List Nat)(ts:List (List Nat))(a b:Nat):Prop where
 ex:∃S:List (List Nat),S.Nodup/\CQ ps ts S/\S.length=a/\rG S=b
 le:∀S:List (List Nat),S.Nodup->CQ ps ts S->a<S.length\/(a=S.length/\b<=rG S)
def pe{ps:List Nat}{t:List Nat}{q:Nat}:q∈held ps t↔q∈pS t/\q∈ps:=by unfold held;rw[ax,be]
def Po{ps:List Nat}{ts:List (List Nat)}(h:Tm ts){t:List Nat}(a:t∈qw ps ts):∃p∈ps,p∈pS t/\∀u∈ts,p∈pS u->u=t:=by
 unfold qw at a;rw[vw] at a;unfold AD at a;obtain⟨p,b,rfl⟩:=aB.mp a;obtain⟨b,c⟩:=ax.mp b;refine⟨p,b,(oR.mp (J6 h c)).2,λu e f=>?_⟩;have g:(pX ts p).length=1:=by unfold uv at c;simpa using c
 have d:u∈pX ts p:=oR.mpr ⟨e,f⟩
 match hq:pX ts p,g with
 | [x],_=>
  rw[hq] at d;simpa using d
def o3{ps:List Nat}{ts:List (List Nat)}{p:Nat}:p∈xK ps ts↔p∈ps/\∀t∈qw ps ts,p∉pS t:=by unfold xK;rw[ax,ph]
theorem pj{ps:List Nat}{ts:List (List Nat)}(f:Tm ts):∀L:List (List Nat),(∀t∈L,t∈ts)->∃a:List (List Nat),a.Nodup/\(∀t∈a,t∈HI ps ts)/\a.length<=L.length/\rG a<=rG L/\∀t∈L,∀q∈held ps t,∃u∈a,q∈held ps u
 |[],_=>⟨[],ie,λ_ h=>(ba h).elim,aD _,aD _,λ_ h=>(ba h).elim⟩
 | t::L,h=>by
  obtain⟨a,c,d,m,n,e⟩:=pj f L λx hx=>h x (ai _ hx);have o:=Dv t L;cases g:(held ps t).isEmpty with
  | true=>
   refine⟨a,c,d,by rw[aO];lia,by lia,λx hx q b=>?_⟩;rcases am.mp hx with rfl|hx
   ·rw[gp.mp g] at b;cases b
   ·exact e x hx q b
  | false=>
   obtain⟨u,k,i,p⟩:=QQ f (h t al) g;by_cases j:u∈a
   ·refine⟨a,c,d,by rw[aO];lia,by lia,λx hx q b=>?_⟩;rcases am.mp hx with rfl|hx
    ·exact⟨u,j,i q b⟩
    ·exact e x hx q b
   ·have r:=Dv u a;refine⟨u::a,bw.mpr ⟨j,c⟩,λx hx=>?_,by rw[aO,aO];lia,by lia,λx hx q b=>?_⟩
    ·rcases am.mp hx with rfl|hx
     ·exact k
     ·exact d x hx
    ·rcases am.mp hx with rfl|hx
     ·exact⟨u,al,i q b⟩
     ·obtain⟨w,l,b⟩:=e x hx q b;exact⟨w,ai _ l,b⟩
def N9(ps:List Nat)(ts:List (List Nat)):(qw ps ts).Nodup:=Jq _
def zdL{T:List (List Nat)}{ps:List Nat}{ts:List (List Nat)}(h:Ok T ps ts){a b:Nat}(s:zO (qU ps ts) (rF ps ts) a b):zO ps ts ((qw ps ts).length+a) (rG (qw ps ts)+b):=by
 constructor
 ·obtain⟨S,n,⟨d,g⟩,rfl,rfl⟩:=s.ex;refine⟨qw ps ts++S,dF.mpr ⟨N9 ps ts,n,λx i y j e=>?_⟩,⟨λt ht=>?_,λp c=>?_⟩,az,Ju _ _⟩
  ·subst e;have:=(B0 (d x j)).2;rw[Qx i] at this;exact this rfl
  ·rcases aH.mp ht with ht|ht
   ·exact BW h.tT t ht
   ·exact(B0 (d t ht)).1
  ·by_cases v:p∈xK ps ts
   ·obtain⟨q,k,A⟩:=zd9 (ts:=ts) v;obtain⟨t,ht,l⟩:=g q k;exact⟨t,av _ ht,(oR.mp (A t (oR.mpr ⟨(B0 (d t ht)).1,l⟩))).2⟩
   ·have:¬ ∀t∈qw ps ts,p∉pS t:=λz=>v (o3.mpr ⟨c,z⟩);have:∃t∈qw ps ts,p∈pS t:=cq λz=>this λt ht f=>z ⟨t,ht,f⟩;obtain⟨t,ht,f⟩:=this;exact⟨t,bB _ ht,f⟩
 ·intro S n ⟨d,g⟩;have B:∀t∈qw ps ts,t∈S:=λt ht=>by
   obtain⟨p,c,_,m⟩:=Po h.tT ht;obtain⟨u,w,C⟩:=g p c;rw[<- m u (d u w) C];exact w
  have o:(qw ps ts++S.filter λt=>decide (t∉qw ps ts)).Nodup:=dF.mpr ⟨N9 ps ts,n.filter _,λx i y j e=>by
   subst e;have:=(ax.mp j).2;simp only[decide_eq_true_eq] at this;exact this i⟩
  have c:(qw ps ts++S.filter λt=>decide (t∉qw ps ts)).Perm S:=DLC.perm_of_sub o (λt ht=>by
   rcases aH.mp ht with ht|ht
   ·exact B t ht
   ·exact(ax.mp ht).1) (Hf n λt ht=>by
   by_cases q:t∈qw ps ts
   ·exact bB _ q
   ·exact av _ (ax.mpr ⟨ht,by simpa using q⟩))
  obtain⟨D,E,F,K,L,G⟩:=pj (ps:=qU ps ts) h.tT (S.filter λt=>decide (t∉qw ps ts)) λt ht=>d t (ax.mp ht).1;have H:=c.length_eq;have I:=Dy c;rw[az] at H;rw[Ju] at I;have:=s.le D E ⟨F,λp c=>by
   obtain⟨r,J⟩:=o3.mp (De c);obtain⟨t,ht,f⟩:=g p r;obtain⟨u,m,k⟩:=G t (ax.mpr ⟨ht,by simpa using λz=>J t z f⟩) p (pe.mpr ⟨f,c⟩);exact⟨u,m,(pe.mp k).1⟩⟩
  lia
theorem P4:∀(f:Nat)(s:St),Ok s.T s.ps s.ts->∀{a b:Nat},zO (oF f s).ps (oF f s).ts a b->∃A B,zO s.ps s.ts A B/\s.T.length+A=(oF f s).T.length+a/\rG s.T+B=rG (oF f s).T+b
 |0,s,_,a,b,h=>⟨a,b,h,rfl,rfl⟩
 | f+1,s,ok,a,b,h=>by
  unfold oF at h ⊢;by_cases c:qU s.ps s.ts=s.ps/\rF s.ps s.ts=s.ts
  ·rw[Y2 c] at h ⊢;exact⟨a,b,h,rfl,rfl⟩
  ·rw[Z5 c] at h ⊢;obtain⟨A,B,d,e,g⟩:=P4 f _ ok.step h;refine⟨_,_,zdL ok d,?_,?_⟩
   ·rw[<- e,az];lia
   ·rw[<- g,Ju];lia
def zdR{ps:List Nat}{ts:List (List Nat)}{a b c d:Nat}(f:zO ps ts a b)(g:zO ps ts c d):a=c/\b=d:=by obtain⟨S,n,h,rfl,rfl⟩:=f.ex;obtain⟨i,j,e,rfl,rfl⟩:=g.ex;have:=f.le i j e;have:=g.le S n h;lia
def Bz:D->Bool
 |.non=>YP
 |.bl _=>YP
 |.int _=>YP
 |.str _=>YP
 |_=>Y1
def A4:D->Bool
 |.tup ds=>ds.all Bz
 |d=>Bz d
def Pl(O:Ow):Prop:=∀c∈O,∀d∈c,A4 d=YP
def At(O:Ow):Prop:=∀c∈O,∀d∈c,Bz d=YP
def PX{n:Nat}:∀{d:D},Bz d=YP->AF n d=YP
 |.non,_=>rfl
 |.bl _,_=>rfl
 |.int _,_=>rfl
 |.str _,_=>rfl
def Xl:∀{d:D},Bz d=YP->nm d=YP
 |.non,_=>rfl
 |.bl _,_=>rfl
 |.int _,_=>rfl
 |.str _,_=>rfl
def VC:∀{d:D},Bz d=YP->A4 d=YP
 |.non,_=>rfl
 |.bl _,_=>rfl
 |.int _,_=>rfl
 |.str _,_=>rfl
def At.flat{O:Ow}(h:At O):Av O:=λc a d b=>PX (h c a d b)
def At.pl{O:Ow}(h:At O):Pl O:=λc a d b=>VC (h c a d b)
theorem Jg:∀{ds:List D},(∀d∈ds,nm d=YP)->nms ds=YP
 |[],_=>rfl
 | d::ds,h=>by
  unfold nms;rw[h d al,Jg λx a=>h x (ai _ a)];rfl
def Wm:∀{d:D},A4 d=YP->nm d=YP
 | .tup ds,h=>by
  unfold nm;exact Jg λd a=>Xl (ar.mp h d a)
 |.non,_=>rfl
 |.bl _,_=>rfl
 |.int _,_=>rfl
 |.str _,_=>rfl
def Pl.nms{O:Ow}(h:Pl O):O.all nms=YP:=ar.mpr λc a=>Jg λd b=>Wm (h c a d b)
def OL{O:Ow}{n f:Nat}:∀{d:D},A4 d=YP->frz O n (f+1) d=XV d
 | .tup ds,h=>by
  show(qh (frz O n f) ds).map D.tup=_;rw[wm λd a=>DH (PX (ar.mp h d a))];rfl
 |.non,_=>rfl
 |.bl _,_=>rfl
 |.int _,_=>rfl
 |.str _,_=>rfl
def GK{a:Ow}(b:Pl a)(X:Ow){d d':D}(h:frz (a++X) a.length 8 d=XV d'):uK a.length (.ok d (a++X))=.ok d' a:=by
 unfold uK;dsimp only;rw[h];have:(a++X).take a.length=a:=by simp
 rw[this,wm λc e=>wm λd f=>OL (b c e d f)]
def Pl.one{O:Ow}(h:Pl O){c:List D}(a:∀d∈c,A4 d=YP):Pl (O++[c]):=λx hx=>by
 rcases aH.mp hx with hx|hx
 ·exact h x hx
 ·have:x=c:=by simpa using hx
  subst this;exact a
def toT(c:List (List Nat)):D:=.tup (c.map .str)
def Ww(c:List (List Nat)):A4 (toT c)=YP:=by show(c.map D.str).all Bz=YP;rw[ar];intro d a;obtain⟨x,_,rfl⟩:=aB.mp a;rfl
def JF(l:List (List (List Nat))):∀d∈l.map toT,A4 d=YP:=λd a=>by
 obtain⟨x,_,rfl⟩:=aB.mp a;exact Ww x
section
variable{α:Type}[DecidableEq α]
noncomputable def sV(inj:α->D)(h:DLC.Held α):D:=.map ((DLC.keys h).map de) (h.map λkv=>.lst (kv.2.map inj))
structure Inj(inj:α->D):Prop where
 in_:∀(O:Ow)(x:α)(l:List α),rT O (inj x) (.lst (l.map inj))=.ok (.bl (l.contains x)) O
 nin:∀(O:Ow)(x:α)(l:List α),r8 O (inj x) (.lst (l.map inj))=.ok (.bl (!l.contains x)) O
variable{inj:α->D}(J:Inj inj)
def Oc{h:DLC.Held α}(n:(DLC.keys h).Nodup){kv:List Nat×List α}(m:kv∈h):wb (.inr kv.1) ((DLC.keys h).map de) (h.map λkv=>D.lst (kv.2.map inj))=XV (.lst (kv.2.map inj)):=by
 have e:(DLC.keys h).map de=h.map λkv=>(de kv.1:DK):=by unfold DLC.keys;rw[bi];rfl
 rw[e];refine DN (kk:=λkv:List Nat×List α=>(de kv.1:DK)) (val:=λkv=>D.lst (kv.2.map inj)) m ?_;rw[<- e];exact fy.mpr (jK (λa e=>a (ip e)) n)
def XU{h:DLC.Held α}(n:(DLC.keys h).Nodup){t:List Nat}(m:t∈DLC.keys h):wb (.inr t) ((DLC.keys h).map de) (h.map λkv=>D.lst (kv.2.map inj))=XV (.lst ((DLC.at_ h t).map inj)):=by obtain⟨kv,a,rfl⟩:=aB.mp m;rw[Oc n a,DLC.at_mem n a]
include J in
theorem Rz{h:DLC.Held α}(n:(DLC.keys h).Nodup)(b:h.length<=100)(x:α)(O:Ow):y_ [sV inj h,inj x] O=.ok (.lst ((DLC.hold h x).map .str)) O:=by
 show fin (Hd [XV (sV inj h),XV (inj x)] O)=_;unfold Hd;have c:FN (a_ 0) [XV (sV inj h),XV (inj x)] O=.ok (.val (h.map λa=>D.str a.1)) O:=by
  show R.ok (Src.val (((DLC.keys h).map de).map Ac)) O=_;unfold DLC.keys;rw[bi,bi];rfl
 refine B5 ((w4 (l:=h) (inj:=λa=>D.str a.1) (p:=λa=>a.2.contains x) (e:=λa=>.str a.1) (τ:=λa=>[XV (sV inj h),XV (inj x),XV (.str a.1)]) c 'd' (λ_=>rfl) (λa d=>sj (q_ rfl (Dm rfl rfl rfl (Oc n d)) (J.in_ O x a.2))) (λ_ _ _=>rfl)).trans ?_);show R.ok (D.lst _) O=_;unfold DLC.hold;rw[bi];rfl
theorem JX{c:DE}{σ:Sg}{O:Ow}{f:α->Nat}:∀(w:List α)(b:α),(∀y∈w,c (σ++[XV (inj y)]) O=.ok (.int (f y:Nat)) O)->DL.minGo c σ (w.map inj) (inj b) (f b:Nat) O=.ok (inj (DLC.minGo f w b)) O
 |[],b,_=>rfl
 | x::w,b,h=>by
  rw[bh];unfold DL.minGo DLC.minGo;rw[h x al];dsimp only;by_cases d:f x<f b
  ·rw[Y2 (show((f x:Nat):Int)<(f b:Nat) by lia),Y2 d];exact JX w x λy a=>h y (ai _ a)
  ·rw[Z5 (show ¬ ((f x:Nat):Int)<(f b:Nat) by lia),Z5 d];exact JX w b λy a=>h y (ai _ a)
def BF:DE:=l_ qt (b_ (j_ 2 y_ (b_ (a_ 0) (b_ (a_ 9) c_))) c_)
def BS:DE:=pV Y1 1 (pR (a_ 1)) (.one 9) [(pQ (e_ r8 (a_ 9) (sG (a_ 0) (a_ 6))))] [] (a_ 9)
def Aw(Pt:Nat)(F:List D->Ow->R D):DE:=zR (a_ 4) (b_ (pV Y1 1 (pR (tN Pt 8 3 F (b_ (a_ 5) (b_ (a_ 7) (b_ (e_ (fI xy) (a_ 2) (dC (.int 1))) c_))))) (.one 9) [] [] (e_ sh (qR (b_ (a_ 6) c_)) (a_ 9))) c_)
def stC(inj:α->D)(h:DLC.Held α)(w:List α)(m:Int)(y:Option D)(k:Nat)(a b c:Option D)(Pt:Nat):Sg:=[XV (sV inj h),XV (.lst (w.map inj)),XV (.int m),y,XV (.own k),a,b,c,XV (.tab Pt)]
include J in
theorem Xw{h:DLC.Held α}(n:(DLC.keys h).Nodup){w:List α}(d:w.length<=300){t:List Nat}(b:t∈DLC.keys h){m:Int}{y:Option D}{k Pt:Nat}{a c:Option D}(O:Ow):BS (stC inj h w m y k a (XV (.str t)) c Pt) O=.ok (.lst ((DLC.left h w t).map inj)) O:=
 (w4 (o:=Y1) (l:=w) (inj:=inj) (p:=λx=>!(DLC.at_ h t).contains x) (e:=inj) (τ:=λx=>stC inj h w m y k a (XV (.str t)) c Pt++[XV (inj x)]) (uD rfl) 'd' (λ_=>rfl) (λx f=>sj (q_ rfl (Dm rfl rfl rfl (XU n b)) (J.nin O x _))) (λ_ _ _=>rfl)).trans rfl
def C_{Pt a n:Nat}{F:List D->Ow->R D}{t:DA}{σ:Sg}{O O1:Ow}{ds:List D}{z:R D}(b:σ[a]?=XV (XV (.tab Pt)))(c:t σ O=.ok ds O1)(d:F ds O1=z)(e:ds.length=n:=by rfl):tN Pt a n F t σ O=z:=by unfold tN;rw[b];dsimp only;rw[Y2 rfl];exact qX c d e
def Xp{h r:DLC.Held α}{w l:List α}{t:List Nat}{m:Nat}{y:Option D}{Pt:Nat}{F:List D->Ow->R D}{O:Ow}{a cs:List (List (List Nat))}(d:F [sV inj r,.lst (l.map inj),.int (m:Nat)] (O++[a.map toT])=.ok (.lst (cs.map toT)) (O++[a.map toT]))(n:a.length+cs.length<=1700000)(b:∀c∈cs,c.length<=1000):
  Aw Pt F (stC inj h w ((m+1:Nat):Int) y O.length (XV (sV inj r)) (XV (.str t)) (XV (.lst (l.map inj))) Pt) (O++[a.map toT])=.ok .non (O++[(a++cs.map (t :: ·)).map toT]):=by
 have f:((m+1:Nat):Int)-1=(m:Nat):=by lia
 have g:tN Pt 8 3 F (b_ (a_ 5) (b_ (a_ 7) (b_ (e_ (fI xy) (a_ 2) (dC (.int 1))) c_))) (stC inj h w ((m+1:Nat):Int) y O.length (XV (sV inj r)) (XV (.str t)) (XV (.lst (l.map inj))) Pt) (O++[a.map toT])=.ok (.lst (cs.map toT)) (O++[a.map toT]):=by
  refine C_ rfl (ds:=[sV inj r,.lst (l.map inj),.int (m:Nat)]) ?_ d;show R.ok [sV inj r,.lst (l.map inj),.int (((m+1:Nat):Int)-1)] _=_;rw[f]
 have j:=wc (o:=Y1) (ext:=1) (i:=9) (l:=cs) (inj:=toT) (te:=e_ sh (qR (b_ (a_ 6) c_)) (a_ 9)) (e:=λc=>toT (t::c)) (τ:=λc=>stC inj h w ((m+1:Nat):Int) y O.length (XV (sV inj r)) (XV (.str t)) (XV (.lst (l.map inj))) Pt++[XV (toT c)]) (uD g) 'd' (λ_=>rfl) (λc k=>by
  refine q_ (x:=.tup [.str t]) (y:=toT c) (O1:=O++[a.map toT]) (O2:=O++[a.map toT]) rfl rfl ?_;show(if [D.str t]≠[]/\[D.str t].length+(c.map D.str).length<=4000000 then R.ok (D.tup ([D.str t]++c.map D.str)) (O++[a.map toT]) else .bad)=_;rw[Y2 ⟨by simp,by rw[au];have:=b c k;simp;lia⟩];rfl)
 unfold Aw zR;show(R.bnd (R.ok (D.own O.length) (O++[a.map toT])) _)=_;show((b_ _ c_ _ (O++[a.map toT])).bnd _)=_;rw[p8 (j.trans (show wW Y1 _=R.ok (D.lst (cs.map λc=>toT (t::c))) (O++[a.map toT]) from rfl))];show(match [D.lst (cs.map λc=>toT (t::c))],(O++[a.map toT])[O.length]? with|[y],XV ds=>(match tJ (O++[a.map toT]) y with|some es=>if ds.length+es.length<=4000000 then R.ok D.non ((O++[a.map toT]).set O.length (ds++es)) else R.bad|none=>R.bad)|_,_=>R.bad)=_;rw[GN];dsimp only[tJ];rw[Y2 (by simp;lia),P_,bT,bi];rfl
def Iq(inj:α->D)(Pt k m:Nat):Prop:=∀(h:DLC.Held α)(w:List α)(O:Ow),Pl O->(DLC.keys h).Nodup->h.length<=20->w.length<=300->wq Pt k [sV inj h,.lst (w.map inj),.int (m:Nat)] O=.ok (.lst ((DLC.cov m h w).map toT)) O
def PY(h:DLC.Held α)(t:List Nat):(DLC.drop h t).length<=h.length:=aZ _ _
def zd2(r:DLC.Held α)(t:List Nat):uh (.inr t) ((DLC.keys r).map de)=(DLC.keys (DLC.drop r t)).map de:=by
 unfold uh DLC.keys DLC.drop
 induction r with
 |nil=>rfl
 | cons kv r ih=>
  simp only[bh];by_cases e:kv.1=t
  ·rw[cQ (by simp[e]),cQ (by simp[e])];exact ih
  ·rw[cR (by simpa using e),cR (by simpa using e)];simp only[bh];rw[ih]
def zdd(r:DLC.Held α)(t:List Nat):xD (.inr t) ((DLC.keys r).map de) (r.map λkv=>D.lst (kv.2.map inj))=(DLC.drop r t).map λkv=>D.lst (kv.2.map inj):=by
 unfold DLC.keys DLC.drop
 induction r with
 |nil=>rfl
 | cons kv r ih=>
  simp only[bh];unfold xD;by_cases e:kv.1=t
  ·rw[Y2 (by rw[e]),cQ (by simp[e])];exact ih
  ·rw[Z5 (λz=>e (ip z)),cR (by simpa using e),bh,ih]
def VH{r:DLC.Held α}{t:List Nat}(h:t∈DLC.keys r):Cw (.inr t) ((DLC.keys r).map de)=YP:=by unfold Cw;rw[cI];exact⟨.inr t,aB.mpr ⟨t,h,rfl⟩,by simp⟩
include J in
theorem OA{Pt k m:Nat}(x:Iq inj Pt k m)(z:m<=100){h:DLC.Held α}{w:List α}(n:(DLC.keys h).Nodup)(i:h.length<=20)(j:w.length<=300){O:Ow}(l:Pl O){y:Option D}:
  ∀(ts:List (List Nat))(r:DLC.Held α)(X8:List (List (List Nat)))(b c:Option D),(∀t∈ts,t∈DLC.keys r)->ts.Nodup->(∀kv∈r,kv∈h)->(DLC.keys r).Nodup->r.length<=20->X8.length+2 ^ r.length<=1700000->(∀t∈ts,t∈DLC.keys h)->
   ∃o p,xC 5 6 7 BS (Aw Pt (wq Pt k)) (ts.map D.str) ((DLC.keys r).map de) (r.map λkv=>D.lst (kv.2.map inj)) (stC inj h w ((m+1:Nat):Int) y O.length X9 b c Pt) (O++[X8.map toT])=.nx (stC inj h w ((m+1:Nat):Int) y O.length X9 o p Pt) (O++[(X8++DLC.covL (DLC.cov m) h w ts r).map toT])
 |[],r,X8,b,c,_,_,_,_,_,_,_=>⟨b,c,by unfold DLC.covL;rw[bP];rfl⟩
 | t::ts,r,X8,b,c,d,nt,hr,nr,fr,hl,SW=>by
  have q:∀kv∈DLC.drop r t,kv∈h:=λkv d=>hr kv (DLC.mem_drop.mp d).1;have I:=DLC.cov_pow m (DLC.drop r t) (DLC.left h w t) (DLC.nd_drop nr);have A:=DLC.drop_lt (d t al);have B:2 ^ ((DLC.drop r t).length+1)<=2 ^ r.length:=cX 'd' A;rw[j6] at B;have C:=Xw J n j (SW t al) (m:=((m+1:Nat):Int)) (y:=y) (k:=O.length) (Pt:=Pt) (a:=X9) (c:=c) (O++[X8.map toT]);have E:=x (DLC.drop r t) (DLC.left h w t) (O++[X8.map toT]) (l.one (JF X8)) (DLC.nd_drop nr) (aE (PY r t) fr) (aE (aZ _ _) j);have f:X8.length+(DLC.cov m (DLC.drop r t) (DLC.left h w t)).length<=1700000:=by lia
  have F:=Xp (h:=h) (w:=w) (t:=t) (y:=y) (Pt:=Pt) E f λc G=>by have:=(DLC.cov_sound m (DLC.nd_drop nr) G).1;lia
  obtain⟨o,p,H⟩:=OA x z n i j l ts (DLC.drop r t) (X8++(DLC.cov m (DLC.drop r t) (DLC.left h w t)).map (t :: ·)) (XV (.str t)) (XV (.lst ((DLC.left h w t).map inj)))
   (λs g=>DLC.keys_drop.mpr ⟨d s (ai _ g),λe=>(bw.mp nt).1 (e▸g)⟩) (bw.mp nt).2 q (DLC.nd_drop nr) (aE (PY r t) fr) (by rw[az,au];lia) (λs g=>SW s (ai _ g))
  refine⟨o,p,?_⟩;rw[bh];unfold xC;dsimp only[v_];rw[Y2 (VH (d t al))];have u:BS ((stC inj h w ((m+1:Nat):Int) y O.length X9 b c Pt).set 6 (XV (.str t))) (O++[X8.map toT])=.ok (.lst ((DLC.left h w t).map inj)) (O++[X8.map toT]):=C;rw[u];dsimp only;rw[zd2,zdd];have v:Aw Pt (wq Pt k) ((((stC inj h w ((m+1:Nat):Int) y O.length X9 b c Pt).set 6 (XV (.str t))).set 7 (XV (.lst ((DLC.left h w t).map inj)))).set 5 (XV (.map ((DLC.keys (DLC.drop r t)).map de) ((DLC.drop r t).map λkv=>D.lst (kv.2.map inj))))) (O++[X8.map toT])=_:=F;rw[v];dsimp only;rw[Y2 (l.one (JF _)).nms];refine Eq.trans H ?_;show _=RS.nx _ (O++[(X8++((DLC.cov m (DLC.drop r t) (DLC.left h w t)).map (t :: ·)++DLC.covL (DLC.cov m) h w ts (DLC.drop r t))).map toT]);rw[bg]
include J in
theorem Q7{Pt:Nat}:∀(m k:Nat),m<k->m<=100->Iq inj Pt k m
 |m,0,hk,_=>by lia
 | 0,k+1,_,_=>by
  intro h w O f n a q;show uK O.length (fin (yY Pt (wq Pt k) [XV (sV inj h),XV (.lst (w.map inj)),XV (.int 0),X9,X9,X9,X9,X9,XV (.tab Pt)] O))=_;unfold yY;cases w with
  | nil=>
   rw[u9 (Dc (O1:=O) (x:=.lst [.tup []]) (xI (b:=Y1) rfl) rfl)];have:=GK f [] (d:=.lst [.tup []]) (d':=.lst [.tup []]) rfl;rw[bP] at this;exact this
  | cons x w=>
   rw[u9 (yW (O1:=O) (xI (b:=YP) rfl) (Dc (O1:=O) (x:=.lst []) (sj (b:=YP) rfl) rfl))];have:=GK f [] (d:=.lst []) (d':=.lst []) rfl;rw[bP] at this;exact this
 | m+1,k+1,hk,hm=>by
  intro h w O f n a q;cases w with
  | nil=>
   show uK O.length (fin (yY Pt (wq Pt k) [XV (sV inj h),XV (.lst []),XV (.int ((m+1:Nat):Int)),X9,X9,X9,X9,X9,XV (.tab Pt)] O))=_;unfold yY;rw[u9 (Dc (O1:=O) (x:=.lst [.tup []]) (xI (b:=Y1) rfl) rfl)];have:=GK f [] (d:=.lst [.tup []]) (d':=.lst [.tup []]) rfl;rw[bP] at this;exact this
  | cons x w=>
   have u:Iq inj Pt k m:=Q7 m k 'd' 'd';let c:Sg:=[XV (sV inj h),XV (.lst ((x::w).map inj)),XV (.int ((m+1:Nat):Int)),X9,X9,X9,X9,X9,XV (.tab Pt)];have r:∀y,BF (c++[XV (inj y)]) O=.ok (.int ((DLC.hold h y).length:Nat)) O:=λy=>tR (p8 (qX (qL rfl rfl) (Rz J n 'd' y O))) (by show R.ok (D.int (((DLC.hold h y).map D.str).length:Nat)) O=_;rw[au]);generalize g:DLC.minGo (λy=>(DLC.hold h y).length) w x=y;have v:y∈x::w:=by
    rcases DLC.minGo_mem (λy=>(DLC.hold h y).length) w x with e|e
    ·rw[<- g,e];exact al
    ·rw[<- g];exact ai _ e
   have z:BO Pt 8 (a_ 1) BF c O=.ok (inj y) O:=by
    show(if Pt=Pt then (R.bnd (R.ok (D.lst ((x::w).map inj)) O) λx O1=>match x with|.lst ds=>BE BF c O1 ds|_=>.bad) else .bad)=_;rw[Y2 rfl];show BE BF c O (inj x::w.map inj)=_;show(match BF (c++[XV (inj x)]) O with|.ok (.int j) O1=>DL.minGo BF c (w.map inj) (inj x) j O1|_=>.bad)=_;rw[r x];dsimp only;rw[<- g];exact JX w x λy _=>r y
   have s:2 ^ h.length<=1700000:=by
    have:=cX (n:=2) 'u' a;lia
   obtain⟨I,K,A⟩:=OA J u 'd' n a q f (y:=XV (inj y)) (DLC.hold h y) h [] X9 X9 (λt i=>((DLC.mem_hold n).mp i).1) (DLC.hold_nd n y) (λ_ h=>h) n a (by simp only[eD];lia) (λt i=>((DLC.mem_hold n).mp i).1);have B:((m+1:Nat):Int)≠0:=by lia
   have C:pQ (e_ (qe rK) (a_ 2) (dC (.int 0))) c O=.ok Y1 O:=sj (q_ rfl rfl (show qe rK O (.int ((m+1:Nat):Int)) (.int 0)=_ from by
    show R.ok (D.bl (((m+1:Nat):Int)==0)) O=_;rw[beq_eq_false_iff_ne.mpr B]))
   have l:pR (j_ 2 y_ (b_ (a_ 0) (b_ (a_ 3) c_))) (stC inj h (x::w) ((m+1:Nat):Int) (XV (inj y)) O.length X9 X9 X9 Pt) (O++[[]])=.ok (.val ((DLC.hold h y).map D.str)) (O++[[]]):=uD (qX (qL rfl rfl) (Rz J n 'd' y (O++[[]])));have E:CT 5 6 7 (a_ 0) (pR (j_ 2 y_ (b_ (a_ 0) (b_ (a_ 3) c_)))) BS (Aw Pt (wq Pt k)) (pU (a_ 4)) (stC inj h (x::w) ((m+1:Nat):Int) (XV (inj y)) O.length X9 X9 X9 Pt) (O++[[]])=.rt (.own O.length) (O++[((DLC.covL (DLC.cov m) h (x::w) (DLC.hold h y) h)).map toT]):=by
    unfold CT;show(R.bnS (R.ok (sV inj h) (O++[[]])) _)=_;show(R.bnS (pR (j_ 2 y_ (b_ (a_ 0) (b_ (a_ 3) c_))) (stC inj h (x::w) ((m+1:Nat):Int) (XV (inj y)) O.length X9 X9 X9 Pt) (O++[[]])) _)=_;rw[l];show(match xC 5 6 7 BS (Aw Pt (wq Pt k)) ((DLC.hold h y).map D.str) ((DLC.keys h).map de) (h.map λo=>D.lst (o.2.map inj)) (stC inj h (x::w) ((m+1:Nat):Int) (XV (inj y)) O.length X9 X9 X9 Pt) (O++[[]]) with|.nx σ' O'=>pU (a_ 4) σ' O'|_=>.bad)=_;have F:xC 5 6 7 BS (Aw Pt (wq Pt k)) ((DLC.hold h y).map D.str) ((DLC.keys h).map de) (h.map λo=>D.lst (o.2.map inj)) (stC inj h (x::w) ((m+1:Nat):Int) (XV (inj y)) O.length X9 X9 X9 Pt) (O++[[]])=_:=A;rw[F];rw[gK];rfl
   have p:yY Pt (wq Pt k) c O=.rt (.own O.length) (O++[((DLC.covL (DLC.cov m) h (x::w) (DLC.hold h y) h)).map toT]):=by
    unfold yY;exact yW (O1:=O) (xI (b:=YP) rfl) (yW C (sQ (x:=inj y) z (sQ (x:=.own O.length) (O1:=O++[[]]) rfl E)))
   show uK O.length (fin (yY Pt (wq Pt k) c O))=_;rw[u9 p];have G:=GK f [(DLC.covL (DLC.cov m) h (x::w) (DLC.hold h y) h).map toT] (d:=.own O.length) (d':=.lst ((DLC.covL (DLC.cov m) h (x::w) (DLC.hold h y) h).map toT)) (by
    unfold frz;dsimp only;rw[Z5 (bz _),GN];dsimp only;rw[wm λd H=>OL (JF _ d H)];rfl)
   refine G.trans ?_;show _=R.ok (D.lst ((DLC.covL (DLC.cov m) h (x::w) (DLC.hold h (DLC.minGo (λy=>(DLC.hold h y).length) w x)) h).map toT)) O;rw[g]
end
def Tv(O:Ow)(a b:Int):qe rK O (.int a) (.int b)=.ok (.bl (a==b)) O:=rfl
def B1{a:DA}{σ:Sg}{O O1:Ow}{ds:List D}(h:a σ O=.ok ds O1)(b:ds.length<=4000000):qR a σ O=.ok (.tup ds) O1:=by show((a σ O).bnd _)=_;rw[h];show(if _ then _ else _)=_;rw[Y2 b]
def ZD{t:DE}{σ:Sg}{O O1:Ow}{ds:List D}(h:t σ O=.ok (.lst ds) O1):qP t σ O=.ok (!ds.isEmpty) O1:=by show((t σ O).bnd _)=_;rw[h];rfl
def Af(t:List Nat):Int:=((sg t:Nat):Int)
def ZH(O:Ow):(oC.map λcs=>vP [.str cs] O)=oC.map λcs=>R.ok (D.int (Af cs)) O:=by kernel_rfl
def Yz{cs:List Nat}(h:cs∈oC)(O:Ow):vP [.str cs] O=.ok (.int (Af cs)) O:=ge.mp (ZH O) cs h
def rV(c:List (List Nat)):Int:=(c.map Af).sum
theorem G3:∀l:List Int,xB (l.map D.int)=XV l
 |[]=>rfl
 | x::l=>by
  show(xB (l.map D.int)).map (x :: ·)=_;rw[G3 l];rfl
def JH{c:List (List Nat)}(a:∀t∈c,t∈oC)(f:c.length<=1000)(O:Ow):tI [toT c] O=.ok (.int (rV c)) O:=by
 have b:=wc (o:=Y1) (ext:=1) (i:=1) (it0:=pR (a_ 0)) (σ:=[XV (toT c)]) (O0:=O) (O:=O) (l:=c) (inj:=D.str) (te:=j_ 1 vP (b_ (a_ 1) c_)) (e:=λt=>D.int (Af t)) (τ:=λt=>[XV (toT c),XV (.str t)]) (AR rfl) 'd' (λ_=>rfl) (λt d=>qX (p8 rfl) (Yz (a t d) O));show fin (G9 [XV (toT c)] O)=_;unfold G9;refine B5 (tR (p8 b) ?_);show(match xB (c.map λt=>D.int (Af t)) with|some ns=>R.ok (D.int ns.sum) O|none=>.bad)=_;have:(c.map λt=>D.int (Af t))=(c.map Af).map D.int:=by rw[bi];rfl
 rw[this,G3];rfl
def cW:DT:=tG (qP (a_ 3))
def bW(Pt:Nat):DS:=m_ (CS 2 (dC (.int 1))) (pZ 3 (tN Pt 5 3 (Ce Pt) (b_ (a_ 0) (b_ (a_ 1) (b_ (a_ 2) c_)))))
section
variable{α:Type}[DecidableEq α]{inj:α->D}(J:Inj inj)
def sT(inj:α->D)(h:DLC.Held α)(w:List α)(Pt m:Nat)(x:Option D):Sg:=[XV (sV inj h),XV (.lst (w.map inj)),XV (.int (m:Nat)),XV (.lst ((DLC.cov m h w).map toT)),x,XV (.tab Pt)]
structure Sz(h:DLC.Held α)(w:List α):Prop where
 nd:(DLC.keys h).Nodup
 few:h.length<=18
 wl:w.length<=300
include J in
theorem NS{h:DLC.Held α}{w:List α}(z:Sz h w){Pt m:Nat}(d:m<=18){a b:Option D}{O:Ow}(c:Pl O):tN Pt 5 3 (Ce Pt) (b_ (a_ 0) (b_ (a_ 1) (b_ (a_ 2) c_))) [XV (sV inj h),XV (.lst (w.map inj)),XV (.int (m:Nat)),a,b,XV (.tab Pt)] O=.ok (.lst ((DLC.cov m h w).map toT)) O:=
 C_ rfl (Cd rfl (qL rfl rfl)) (Q7 J m 20 'd' 'd' h w O c z.nd (aE z.few 'u') z.wl)
include J in
theorem P6{h:DLC.Held α}{w:List α}(z:Sz h w)(i:DLC.cov 18 h w≠[]):∀(fuel m:Nat),m<=18->18<m+fuel->∃c,m<=c/\c<=18/\DLC.cov c h w≠[]/\(∀j,m<=j->j<c->DLC.cov j h w=[])/\∀(Pt:Nat)(O:Ow),Pl O->uz cW (bW Pt) fuel (sT inj h w Pt m X9) O=.nx (sT inj h w Pt c X9) O
 |0,m,h1,h2=>by lia
 | fuel+1,m,h1,h2=>by
  by_cases e:DLC.cov m h w=[]
  ·have x:m≠18:=λq=>i (q▸e);obtain⟨c,y,l,n,o,p⟩:=P6 z i fuel (m+1) 'd' 'd';refine⟨c,by lia,l,n,λj s d=>?_,λPt O f=>?_⟩
   ·by_cases q:j=m
    ·rw[q];exact e
    ·exact o j 'd' d
   ·have g:cW (sT inj h w Pt m X9) O=.ok YP O:=by
     unfold sT;rw[e];rfl
    have u:bW Pt (sT inj h w Pt m X9) O=.nx (sT inj h w Pt (m+1) X9) O:=by
     refine yU (σ':=[XV (sV inj h),XV (.lst (w.map inj)),XV (.int ((m+1:Nat):Int)),XV (.lst ((DLC.cov m h w).map toT)),X9,XV (.tab Pt)]) (O1:=O) rfl ?_;rw[wk (NS J z 'd' f)];rfl
    show((cW (sT inj h w Pt m X9) O).bnS λk O1=>if k=YP then (match bW Pt (sT inj h w Pt m X9) O1 with
     |.nx σ' O'=>uz cW (bW Pt) fuel σ' O'
     |.ct σ' O'=>uz cW (bW Pt) fuel σ' O'
     |.bk σ' O'=>.nx σ' O'
     |r=>r) else .nx (sT inj h w Pt m X9) O1)=_
    rw[g];show(if YP=YP then (match bW Pt (sT inj h w Pt m X9) O with
     |.nx σ' O'=>uz cW (bW Pt) fuel σ' O'
     |.ct σ' O'=>uz cW (bW Pt) fuel σ' O'
     |.bk σ' O'=>.nx σ' O'
     |r=>r) else RS.nx (sT inj h w Pt m X9) O)=_
    rw[Y2 rfl,u];exact p Pt O f
  ·refine⟨m,aD _,h1,e,λj a b=>by lia,λPt O f=>?_⟩;have g:cW (sT inj h w Pt m X9) O=.ok Y1 O:=by
    refine xI (b:=YP) ?_;rw[ZD (t:=a_ 3) (σ:=sT inj h w Pt m X9) (O:=O) (O1:=O) (ds:=(DLC.cov m h w).map toT) rfl];cases v:DLC.cov m h w with
    |nil=>exact absurd v e
    |cons _ _=>rfl
   show((cW (sT inj h w Pt m X9) O).bnS λk O1=>if k=YP then (match bW Pt (sT inj h w Pt m X9) O1 with
     |.nx σ' O'=>uz cW (bW Pt) fuel σ' O'
     |.ct σ' O'=>uz cW (bW Pt) fuel σ' O'
     |.bk σ' O'=>.nx σ' O'
     |r=>r) else .nx (sT inj h w Pt m X9) O1)=_
   rw[g];rfl
theorem Qp:∀l:List (List (List Nat)),yM (l.map toT)=XV l
 |[]=>rfl
 | x::l=>by
  show(match uu (x.map D.str),yM (l.map toT) with|some ks,XV t=>XV (ks::t)|_,_=>X9)=_;rw[strL_map,Qp l]
def few(h:DLC.Held α)(w:List α)(m:Nat):Int:=zM ((DLC.cov m h w).map rV)
def best(h:DLC.Held α)(w:List α)(m:Nat):List (List (List Nat)):=zN (((DLC.cov m h w).filter λc=>rV c==few h w m).map qi)
theorem DF:∀(l:List Int)(x:Int),l.foldl min x=x\/l.foldl min x∈l
 |[],x=>.inl rfl
 | y::l,x=>by
  show l.foldl min (min x y)=x\/_;rcases DF l (min x y) with e|e
  ·rw[show(List.foldl min x (y::l))=l.foldl min (min x y) from rfl,e];rcases Int.le_total x y with g|g
   ·left;lia
   ·right;rw[show min x y=y by lia];exact al
  ·right;exact ai _ e
def Zk{h:DLC.Held α}{w:List α}{m:Nat}(a:DLC.cov m h w≠[]):∃c∈DLC.cov m h w,rV c=few h w m:=by
 unfold few;cases b:DLC.cov m h w with
 |nil=>exact absurd b a
 | cons c l=>
  rcases DF (l.map rV) (rV c) with e|e
  ·exact⟨c,al,e.symm⟩
  ·obtain⟨d,f,q⟩:=aB.mp e;exact⟨d,ai _ f,q⟩
def pB{h:DLC.Held α}{w:List α}{m:Nat}{x:List (List Nat)}:x∈best h w m ↔ ∃c∈DLC.cov m h w,rV c=few h w m/\qi c=x:=by
 unfold best;rw[(Ke _).mem_iff,aB];constructor
 ·rintro⟨c,d,rfl⟩;obtain⟨a,b⟩:=ax.mp d;exact⟨c,a,by simpa using b,rfl⟩
 ·rintro⟨c,a,b,rfl⟩;exact⟨c,ax.mpr ⟨a,by simpa using b⟩,rfl⟩
def XN{h:DLC.Held α}{w:List α}{m:Nat}(a:DLC.cov m h w≠[]):best h w m≠[]:=by obtain⟨c,b,e⟩:=Zk a;have:qi c∈best h w m:=pB.mpr ⟨c,b,e,rfl⟩;intro q;rw[q] at this;cases this
include J in
theorem UP{h:DLC.Held α}{w:List α}(z:Sz h w)(A:∀t∈DLC.keys h,t∈oC)(B:DLC.cov 18 h w≠[]):∃m,m<=18/\DLC.Lm h w m/\∀(Pt:Nat)(O:Ow),Pl O->Hu Pt [sV inj h,.lst (w.map inj)] O=.ok (.lst ((best h w m).map toT)) O:=by
 obtain⟨m,_,C,r,E,F⟩:=P6 J z B 20 0 'd' 'd';refine⟨m,C,⟨z.nd,r,λj G=>E j 'd' G⟩,λPt O s=>?_⟩;show fin (KA Pt [XV (sV inj h),XV (.lst (w.map inj)),X9,X9,X9,XV (.tab Pt)] O)=_;unfold KA;have u:(DLC.cov m h w).length<=262144:=aE (DLC.cov_pow m h w z.nd) (aE (cX 'u' z.few) 'u');have v:∀c∈DLC.cov m h w,∀O,tI [toT c] O=.ok (.int (rV c)) O:=λc a O=>by
  obtain⟨y,f,b⟩:=DLC.cov_sound m z.nd a;exact JH (λt g=>A t (b.1 t g)) 'd' O
 have H:l_ C3 (b_ (pV Y1 1 (pR (a_ 3)) (.one 6) [] [] (j_ 1 tI (b_ (a_ 6) c_))) c_) (sT inj h w Pt m X9) O=.ok (.int (few h w m)) O:=by
  have k:=wc (o:=Y1) (ext:=1) (i:=6) (it0:=pR (a_ 3)) (σ:=sT inj h w Pt m X9) (O0:=O) (O:=O) (l:=DLC.cov m h w) (inj:=toT) (te:=j_ 1 tI (b_ (a_ 6) c_)) (e:=λc=>D.int (rV c)) (τ:=λc=>sT inj h w Pt m X9++[XV (toT c)]) (uD rfl) 'd' (λ_=>rfl) (λc a=>qX (p8 rfl) (v c a O));refine tR (p8 k) ?_;show(match xB ((DLC.cov m h w).map λc=>D.int (rV c)) with|some ns=>(if ns≠[] then R.ok (D.int (zM ns)) O else .bad)|none=>.bad)=_;have:((DLC.cov m h w).map λc=>D.int (rV c))=((DLC.cov m h w).map rV).map D.int:=by rw[bi];rfl
  rw[this,G3];show(if (DLC.cov m h w).map rV≠[] then R.ok (D.int (zM ((DLC.cov m h w).map rV))) O else .bad)=_;rw[Y2 (by intro q;exact r (lR.mp q))];rfl
 have I:l_ C5 (b_ (pV Y1 1 (pR (a_ 3)) (.one 6) [(pQ (e_ (qe rK) (j_ 1 tI (b_ (a_ 6) c_)) (a_ 4)))] [] (l_ tY (b_ (l_ AI (b_ (a_ 6) c_)) c_))) c_) (sT inj h w Pt m (XV (.int (few h w m)))) O=.ok (.lst ((best h w m).map toT)) O:=by
  have k:=w4 (o:=Y1) (ext:=1) (i:=6) (it0:=pR (a_ 3)) (σ:=sT inj h w Pt m (XV (.int (few h w m)))) (O0:=O) (O:=O) (l:=DLC.cov m h w) (inj:=toT) (t:=pQ (e_ (qe rK) (j_ 1 tI (b_ (a_ 6) c_)) (a_ 4))) (te:=l_ tY (b_ (l_ AI (b_ (a_ 6) c_)) c_)) (p:=λc=>rV c==few h w m) (e:=λc=>toT (qi c)) (τ:=λc=>sT inj h w Pt m (XV (.int (few h w m)))++[XV (toT c)]) (uD rfl) 'd' (λ_=>rfl)
   (λc a=>sj ((qC (qX (p8 rfl) (v c a O)) rfl).trans (Tv O _ _)))
   (λc a _=>by
    obtain⟨y,f,b⟩:=DLC.cov_sound m z.nd a;have K:l_ AI (b_ (a_ 6) c_) (sT inj h w Pt m (XV (.int (few h w m)))++[XV (toT c)]) O=.ok (.lst ((qi c).map .str)) O:=by
     refine tR (p8 (x:=toT c) (O1:=O) rfl) ?_;show(match uu (c.map D.str) with|some ss=>(if ss.Nodup/\ss.length<=1000 then R.ok (D.lst ((qi ss).map .str)) O else .bad)|none=>.bad)=_;rw[strL_map];show(if c.Nodup/\c.length<=1000 then R.ok (D.lst ((qi c).map .str)) O else .bad)=_;rw[Y2 ⟨f,by lia⟩]
    exact tR (p8 K) rfl)
  refine tR (p8 k) ?_;have L:(((DLC.cov m h w).filter λc=>rV c==few h w m).map λc=>toT (qi c))=(((DLC.cov m h w).filter λc=>rV c==few h w m).map qi).map toT:=by rw[bi];rfl
  show(match yM (((DLC.cov m h w).filter λc=>rV c==few h w m).map λc=>toT (qi c)) with|some rg=>(if (2<=rg.length->(rg.all λd=>!d.isEmpty)=YP)/\rg.length<=4000000 then R.ok (D.lst ((zN rg).map DL.toT)) O else .bad)|none=>.bad)=_;rw[L,Qp];have M:(((DLC.cov m h w).filter λc=>rV c==few h w m).map qi).length<=4000000:=by
   rw[au];have:=aZ (λc=>rV c==few h w m) (DLC.cov m h w);lia
  have n:2<=(((DLC.cov m h w).filter λc=>rV c==few h w m).map qi).length->((((DLC.cov m h w).filter λc=>rV c==few h w m).map qi).all λd=>!d.isEmpty)=YP:=by
   intro N;cases w with
   | nil=>
    exfalso;rw[au] at N;have S:=aZ (λc=>rV c==few h ([]:List α) m) (DLC.cov m h []);have T:(DLC.cov m h ([]:List α)).length=1:=by unfold DLC.cov;rfl
    lia
   | cons x w=>
    rw[ar];intro d P;obtain⟨c,a,rfl⟩:=aB.mp P;have a:=(ax.mp a).1;obtain⟨y,f,b⟩:=DLC.cov_sound m z.nd a;obtain⟨t,g,_⟩:=b.2 x al;have:t∈qi c:=(vw _).mpr g;cases Q:qi c with
    |nil=>rw[Q] at this;cases this
    |cons _ _=>rfl
  show(if _/\_ then R.ok (D.lst ((zN (((DLC.cov m h w).filter λc=>rV c==few h w m).map qi)).map DL.toT)) O else .bad)=_;rw[Y2 ⟨n,M⟩];rfl
 refine u9 (O1:=O) (sQ (O1:=O) (x:=.int 0) rfl (sQ (O1:=O) (NS J z (m:=0) 'd' s) (yU (σ':=sT inj h w Pt m X9) (O1:=O) ?_ (sQ (O1:=O) H ?_))))
 ·exact F Pt O s
 ·exact sv I
end
def z9y{n:Nat}{f:List D}(d:Fn n f){cs:List Nat}(h:cs∈X7 n):BH f cs=AM f cs:=by
 have:AM f cs=YP↔BH f cs=YP:=by
  unfold AM BH;simp only[eL,cI];constructor
  ·intro e;cases b:(xu f).filter λp=>(pS cs).contains p with
   |nil=>rw[b] at e;cases e
   | cons p l=>
    have g:p∈(xu f).filter λp=>(pS cs).contains p:=by rw[b];exact al
    obtain⟨a,c⟩:=ax.mp g;exact⟨p,by simpa using c,(o5.mp a).2⟩
  ·rintro⟨p,a,c⟩;cases b:(xu f).filter λp=>(pS cs).contains p with
   | nil=>
    have:p∈(xu f).filter λp=>(pS cs).contains p:=ax.mpr ⟨o5.mpr ⟨by rw[d.len];exact Gz d.n1 d.n4 h a,c⟩,by simpa using a⟩;rw[b] at this;cases this
   |cons p l=>rfl
 cases a:BH f cs<;>cases c:AM f cs<;>simp_all
def W3:(oC.all λa=>oC.all λb=>!(a.length==b.length&&sP a.length a b&&decide (a≠b))||(aL a.length).any λk=>a.getD k 0 !=45&&sP a.length (a.set k 45) b)=YP:=by decide +kernel
def Z_{n k:Nat}{a:List Nat}(b:a.length=n):sP n a (a.set k 45)=YP:=Pf λj c=>by
 by_cases e:k=j
 ·subst e;left;rw[aY,bA 'd'];rfl
 ·right;rw[aY,br e,<- aY]
def zdY{n:Nat}{f:List D}(c:Fn n f){a b:List Nat}(d:a∈X7 n)(e:b∈X7 n)(h:sP n a b=YP)(g:tP f b=YP):tP f a=YP:=by unfold tP at *;rw[ar] at *;exact λp i=>g p (Qg c.n1 c.n4 d e h i)
def zcz{n:Nat}{f:List D}(a:Fn n f):rk n f=gr n f:=by
 unfold rk gr;refine jL λt u=>?_;have i:=Hm u;have b:=xh a.n1 a.n4 i;unfold HX Ip;rw[z9y a i,Bool.and_comm];congr 1;unfold B8;rw[zb2];have j:(aL t.length).any (yJ f t)=YP ↔ ∃o∈vp n f,o≠t/\sP n t o=YP:=by
  rw[cI];constructor
  ·rintro⟨k,l,d⟩;have l:=bM.mp l;unfold yJ at d;rw[aQ] at d;have v:=GV a.n1 a.n4 i (k:=k) (c:=45) rfl;refine⟨t.set k 45,ax.mpr ⟨v,d.2⟩,λe=>?_,Z_ b⟩;have w:t.getD k 0≠45:=by simpa using d.1
   have:(t.set k 45).getD k 0=45:=by rw[aY,bA l];rfl
   rw[e] at this;exact w this
  ·rintro⟨o,g,m,p⟩;have q:=Hm g;have h:=ar.mp (ar.mp W3 t (xG a.n1 a.n4 i)) o (xG a.n1 a.n4 q);rw[b,xh a.n1 a.n4 q,p,decide_eq_true (cS m)] at h;simp only[beq_self_eq_true,Bool.and_self,gC,jy] at h;rw[cI] at h;obtain⟨k,l,r⟩:=h;rw[aQ] at r;refine⟨k,by rw[b];exact l,?_⟩;unfold yJ;rw[aQ];exact⟨r.1,zdY a (GV a.n1 a.n4 i rfl) q r.2 (ax.mp g).2⟩
 cases d:(aL t.length).any (yJ f t) with
 | true=>
  obtain⟨o,g,m,p⟩:=j.mp d;symm;show(vp n f).all _=Y1;rw[List.all_eq_false];exact⟨o,g,by simp[m,p]⟩
 | false=>
  symm;show(vp n f).all _=YP;rw[ar];intro o g;cases s:(decide (o≠t)&&sP n t o) with
  |false=>rfl
  | true=>
   rw[aQ] at s;have:=j.mpr ⟨o,g,of_decide_eq_true s.1,s.2⟩;rw[d] at this;cases this
def xm(g:Nat->Bool)(t:List Nat):Bool:=(pS t).all g
def AZ(g:Nat->Bool)(t:List Nat):Bool:=xm g t && !(aL t.length).any λk=>t.getD k 0 !=45&&xm g (t.set k 45)
def W2:∀a b c d e f g h:Bool,((X7 3).filter (AZ λp=>[a,b,c,d,e,f,g,h].getD p Y1)).length<=6:=by decide +kernel
def N7{g k:Nat->Bool}(h:∀p,p<8->g p=k p){t:List Nat}(b:t∈X7 3):xm g t=xm k t:=by
 unfold xm;rw[dU,ar,ar];constructor
 ·intro q p a;rw[<- h p (Gz (n:=3) 'u' 'u' b a)];exact q p a
 ·intro q p a;rw[h p (Gz (n:=3) 'u' 'u' b a)];exact q p a
def Vy{g k:Nat->Bool}(h:∀p,p<8->g p=k p){t:List Nat}(a:t∈X7 3):AZ g t=AZ k t:=by unfold AZ;rw[N7 h a];congr 3;funext i;rw[N7 h (GV (n:=3) 'u' 'u' a rfl)]
def six(g:Nat->Bool):((X7 3).filter (AZ g)).length<=6:=by
 have:=W2 (g 0) (g 1) (g 2) (g 3) (g 4) (g 5) (g 6) (g 7);rwa [jL λt a=>Vy (k:=g) (λp b=>by
  have:p=0\/p=1\/p=2\/p=3\/p=4\/p=5\/p=6\/p=7:=by lia
  rcases this with rfl|rfl|rfl|rfl|rfl|rfl|rfl|rfl<;>rfl) a] at this
def qG(f:List D)(t:List Nat):Bool:=tP f t&&B8 f t
def W7{α:Type}{p q:α->Bool}{l:List α}(h:∀x∈l,p x=YP->q x=YP):(l.filter p).length<=(l.filter q).length:=by rw[<- jj,<- jj];exact lj h
def Zm(n:Nat)(f:List D):(rk n f).length<=((X7 n).filter (qG f)).length:=by unfold rk vp;rw[mr];refine W7 λt _ h=>?_;unfold HX at h;unfold qG;simp only[aQ] at h ⊢;exact⟨h.2,h.1.2⟩
theorem M6{q a b c:List Nat->Bool}:∀(l:List (List Nat)),(∀t∈l,(q (t++[45])=YP->a t=YP)/\(q (t++[48])=YP->b t=YP)/\(q (t++[49])=YP->c t=YP))->((l.flatMap λt=>[t++[45],t++[48],t++[49]]).filter q).length<=(l.filter a).length+(l.filter b).length+(l.filter c).length
 |[],_=>by simp
 | t::l,h=>by
  obtain⟨g,i,j⟩:=h t al;have k:=M6 l λs f=>h s (ai _ f);rw[f8,f6,az];have e:([t++[45],t++[48],t++[49]].filter q).length<=(if a t=YP then 1 else 0)+(if b t=YP then 1 else 0)+(if c t=YP then 1 else 0):=by
   simp only[cY,gM];cases m:q (t++[45])<;>cases n:q (t++[48])<;>cases o:q (t++[49])<;>simp_all<;>(repeat' split)<;>lia
  have d:∀p:List Nat->Bool,((t::l).filter p).length=(if p t=YP then 1 else 0)+(l.filter p).length:=λp=>by
   rw[cY];split<;>simp<;>lia
  rw[d a,d b,d c];lia
def JI(t:List Nat)(c:Nat):pS (t++[c])=(pS t).flatMap λp=>(Oo c).map (2*p + ·):=by unfold pS;rw[ik];rfl
def IJ{f:List D}{c:Nat}{g:Nat->Bool}(a:∀s,tP f (s++[c])=xm g s){t:List Nat}(h:qG f (t++[c])=YP):AZ g t=YP:=by unfold qG B8 at h;simp only[aQ,eL,im] at h;unfold AZ;simp only[aQ,eL,im];refine⟨by rw[<- a];exact h.1,λk d=>?_⟩;have b:=bM.mp d;have:=h.2 k (bM.mpr (by rw[az];lia));unfold yJ at this;rw[lD _ _ b,a,aY,aG b,<- aY,aQ] at this;exact this
def Xm(f:List D)(s:List Nat):tP f (s++[45])=xm (λp=>!uF (f.getD (2*p) .non) && !uF (f.getD (2*p+1) .non)) s:=by unfold tP xm;rw[JI,j9];congr 1;funext p;show([2*p+0,2*p+1].all _)=_;simp
def Xn(f:List D)(s:List Nat):tP f (s++[48])=xm (λp=>!uF (f.getD (2*p) .non)) s:=by unfold tP xm;rw[JI,j9];congr 1;funext p;show([2*p+0].all _)=_;simp
def V8(f:List D)(s:List Nat):tP f (s++[49])=xm (λp=>!uF (f.getD (2*p+1) .non)) s:=by unfold tP xm;rw[JI,j9];congr 1;funext p;show([2*p+1].all _)=_;simp
def G4{n:Nat}{f:List D}(d:Fn n f):(rk n f).length<=18:=by
 refine aE (Zm n f) ?_;rcases Ax d.n1 d.n4 with rfl|rfl|rfl|rfl
 ·exact aE (aZ _ _) 'u'
 ·exact aE (aZ _ _) 'u'
 ·have:=six λp=>!uF (f.getD p .non);exact aE (aE (gW rfl) this) 'u'
 ·have h:=M6 (q:=qG f) (X7 3) λt _=>⟨IJ (Xm f),IJ (Xn f),IJ (V8 f)⟩;have a:=six λp=>!uF (f.getD (2*p) .non) && !uF (f.getD (2*p+1) .non);have b:=six λp=>!uF (f.getD (2*p) .non);have c:=six λp=>!uF (f.getD (2*p+1) .non);have e:X7 4=(X7 3).flatMap λt=>[t++[45],t++[48],t++[49]]:=rfl;rw[e];lia
def iN(p:Nat):D:=.int (p:Nat)
def UJ:Inj iN:=⟨λO x l=>Dr O x l,λO x l=>zeP O x l⟩
abbrev wh(n:Nat)(f:List D):List Nat:=zb uQ n f
def uk(n:Nat)(f:List D):DLC.Held Nat:=(rk n f).map λt=>(t,pS t)
def Dx(n:Nat)(f:List D):DLC.keys (uk n f)=rk n f:=by unfold DLC.keys uk;rw[bi];exact mU _
section
variable{n:Nat}{f:List D}(hf:Fn n f)
include hf
theorem Zg{p:Nat}:p∈wh n f↔p∈xu f:=by rw[o5];unfold wh zb;rw[ax,bM,hf.len]
theorem Gu:(DLC.keys (uk n f)).Nodup:=by rw[Dx];exact IK (Kq hf)
theorem Nl{t:List Nat}(h:t∈rk n f):DLC.at_ (uk n f) t=pS t:=DLC.at_mem (Gu hf) (kv:=(t,pS t)) (aB.mpr ⟨t,h,rfl⟩)
theorem Oe{p:Nat}(b:p∈wh n f):∃t∈rk n f,p∈pS t:=by have:=YM hf;unfold Ld at this;obtain⟨t,a,c⟩:=cI.mp (ar.mp this p ((Zg hf).mp b));rw[<- zcz hf] at a;exact⟨t,a,by simpa using c⟩
theorem GD{S:List (List Nat)}:DLC.Cov (uk n f) (wh n f) S↔CQ (wh n f) (rk n f) S:=by
 constructor
 ·rintro⟨b,c⟩;have b:∀t∈S,t∈rk n f:=λt a=>by have:=b t a;rwa [Dx] at this
  refine⟨b,λp d=>?_⟩;obtain⟨t,a,q⟩:=c p d;rw[Nl hf (b t a)] at q;exact⟨t,a,q⟩
 ·rintro⟨b,c⟩;refine⟨λt a=>by rw[Dx];exact b t a,λp d=>?_⟩;obtain⟨t,a,q⟩:=c p d;exact⟨t,a,by rw[Nl hf (b t a)];exact q⟩
theorem Vb:DLC.cov 18 (uk n f) (wh n f)≠[]:=by obtain⟨c,a,_⟩:=DLC.cov_some 18 (Gu hf) ((GD hf (S:=rk n f)).mpr ⟨λt b=>b,λp d=>Oe hf d⟩) (G4 hf);intro e;rw[e] at a;cases a
theorem T7:Sz (uk n f) (wh n f):=⟨Gu hf,by unfold uk;rw[au];exact G4 hf,aE (Ds hf uQ) 'u'⟩
theorem Yu(O:Ow):Hs [.tup f] O=.ok (sV iN (uk n f)) O:=by
 have c:=G0 hf O;have j:=G4 hf;have d:=JO (ext:=1) (i:=1) (it0:=pR (j_ 1 yt (b_ (a_ 0) c_))) (tk:=a_ 1) (tv:=j_ 1 sH (b_ (a_ 1) c_)) (σ:=[XV (.tup f)]) (O0:=O) (O:=O) (l:=rk n f) (inj:=D.str) (key:=D.str) (val:=λt=>.lst (pO (pS t))) (kk:=de) (τ:=λt=>[XV (.tup f),XV (.str t)]) (uD ((sI (p8 rfl) rfl).trans c)) 'd' (by
  refine fy.mpr ((IK (Kq hf)).imp ?_);intro a b h e;exact h (ip e)) (λ_=>rfl) (λ_ _=>rfl) (λ_ _=>rfl) (λt g=>(sI (p8 rfl) rfl).trans (AW (z_ hf t g) O))
 show fin (Hr [XV (.tup f)] O)=_;unfold Hr;have e:sV iN (uk n f)=.map ((rk n f).map de) ((rk n f).map λt=>.lst (pO (pS t))):=by
  unfold sV;rw[Dx];unfold uk;rw[bi];rfl
 rw[e];show fin (pU _ _ _)=_;unfold pU;rw[d];rfl
theorem MZ(O:Ow):Ab [.tup f,.int 1] O=.ok (.lst (pO (wh n f))) O:=RT hf (.int 1) uQ O λd a=>eq1 O a
end
def Gd(c:List (List Nat)):rV c=((rG c:Nat):Int):=by
 unfold rV rG
 induction c with
 |nil=>rfl
 |cons t l ih=>rw[bh,fR,ih,bh,fR];unfold Af;lia
def Vs{α:Type}[DecidableEq α]{h:DLC.Held α}{w:List α}{m:Nat}{c:List (List Nat)}(e:c∈DLC.cov m h w):few h w m<=rV c:=by
 unfold few;cases f:DLC.cov m h w with
 |nil=>rw[f] at e;cases e
 | cons d l=>
  obtain⟨a,b⟩:=JM (l.map rV) (rV d);rw[f] at e;rcases am.mp e with rfl|h
  ·exact a
  ·exact b _ (aB.mpr ⟨c,h,rfl⟩)
structure TK(n:Nat)(f:List D)(l:List (List Nat)):Prop where
 srt:l.Pairwise (· < ·)
 cov:CQ (wh n f) (rk n f) l
 few:l.length<=18
 best:zO (wh n f) (rk n f) l.length (rG l)
def Va{n:Nat}{f:List D}(d:Fn n f):∃l,TK n f l/\∀(Pt:Nat)(O:Ow),Pl O->D7 Pt [.tup f] O=.ok (.tup (l.map .str)) O:=by
 obtain⟨m,A,g,j⟩:=UP UJ (T7 d) (λt e=>by rw[Dx] at e;exact z_ d t e) (Vb d);cases k:best (uk n f) (wh n f) m with
 |nil=>exact absurd k (XN g.ne)
 | cons x r=>
  have B:x∈best (uk n f) (wh n f) m:=by rw[k];exact al
  obtain⟨c,o,C,rfl⟩:=pB.mp B;obtain⟨K,E,F⟩:=DLC.cov_sound m (Gu d) o;have s:c.Perm (qi c):=DLC.perm_of_sub E (λt e=>(vw c).mpr e) (JN c);have u:CQ (wh n f) (rk n f) (qi c):=by
   obtain⟨a,b⟩:=(GD d).mp F;exact⟨λt e=>a t ((vw c).mp e),λp h=>let ⟨t,e,q⟩:=b p h;⟨t,(vw c).mpr e,q⟩⟩
  have v:(qi c).length=m:=by rw[<- s.length_eq];exact g.len o
  refine⟨qi c,⟨GS c,u,by lia,⟨⟨qi c,Jq c,u,rfl,rfl⟩,λS L w=>?_⟩⟩,λPt O G=>?_⟩
  ·have M:=g.le ((GD d).mpr w);rcases i4 (qi c).length S.length with z|z
   ·exact .inl z
   ·right;have j:S.length=m:=by lia
    obtain⟨N,H,I⟩:=g.all ((GD d).mpr w) j;have J:=Vs H;rw[<- C,Gd,Gd] at J;rw[<- Dy s,<- Dy I];lia
  ·have y:Hq Pt [.tup f] O=.ok (.lst ((best (uk n f) (wh n f) m).map toT)) O:=by
    show fin (Ho Pt [XV (.tup f),XV (.tab Pt)] O)=_;unfold Ho;exact B5 (C_ rfl (qL (qX (p8 rfl) (Yu d O)) (qX (qL rfl rfl) (MZ d O))) (j Pt O G))
   rw[k] at y;show fin (Hb Pt [XV (.tup f),XV (.tab Pt)] O)=_;unfold Hb;exact B5 (q_ (C_ rfl (p8 rfl) y) rfl (Dl (i:=0) (ds:=List.map toT (qi c::r)) 'k'))
def rE(l:List (List Nat)):List (List (List Nat)):=l.foldl (λX8 t=>X8++X8.map (· ++ [t])) [[]]
def GP(l:List (List Nat))(t:List Nat):rE (l++[t])=rE l++(rE l).map (· ++ [t]):=by unfold rE;rw[ik];rfl
def J2{P:List (List Nat)->Prop}(b:P [])(c:∀l t,P l->P (l++[t])):∀l,P l:=λl=>by
 have:∀k(l:List (List Nat)),l.length=k->P l:=λk=>by
  induction k with
  |zero=>intro l h;rw[cj.mp h];exact b
  | succ k ih=>
   intro l h;rcases List.eq_nil_or_concat l with rfl|⟨a,t,rfl⟩
   ·cases h
   ·rw[List.concat_eq_append] at h ⊢;exact c a t (ih a (by simpa using h))
 exact this _ l rfl
def ZP(l:List (List Nat)):(rE l).length=2 ^ l.length:=J2 (P:=λl=>(rE l).length=2 ^ l.length) rfl (λl t a=>by
 rw[GP,az,au,a,az];show _=2 ^ (l.length+1);rw[j6];lia) l
def JR(l:List (List Nat)):∀r∈rE l,r.Sublist l:=J2 (P:=λl=>∀r∈rE l,r.Sublist l) (λr a=>by
 have:r=[]:=by simpa [rE] using a
 rw[this];exact mQ _) (λl t b r a=>by
 rw[GP] at a;rcases aH.mp a with h|h
 ·exact(b r h).trans (List.sublist_append_left _ _)
 ·obtain⟨c,d,rfl⟩:=aB.mp h;exact(b c d).append (mQ _)) l
def RJ(p:List Nat->Bool)(l:List (List Nat)):l.filter p∈rE l:=J2 (P:=λl=>l.filter p∈rE l) (by simp[rE]) (λl t a=>by
 rw[GP,f6];by_cases h:p t=YP
 ·rw[cR h];exact av _ (aB.mpr ⟨_,a,rfl⟩)
 ·rw[cQ h,gM,bP];exact bB _ a) l
def ua(l:List Nat):Nat:=(l.map λp=>2 ^ p).sum
def We{l:List Nat}(d:l.Pairwise (· < ·)){N:Nat}(f:∀p∈l,p<N):ua l=DLB.mkN (λp=>l.contains p) N:=by
 have e:l=(aL N).filter λp=>l.contains p:=Ko (α:=Nat) (λa=>bz a) (λa b c=>l9) d (kK.filter _) λx=>by
  rw[ax,bM,be];exact⟨λh=>⟨f x h,h⟩,λh=>h.2⟩
 have h:=DLB.sum_mkN (λp=>l.contains p) N;rw[<- e] at h;have:(l.map λi=>((2 ^ i:Nat):Int)).sum=((ua l:Nat):Int):=by
  unfold ua;clear h e d f
  induction l with
  |nil=>rfl
  |cons x l ih=>rw[bh,fR,ih,bh,fR];lia
 rw[this] at h;lia
def GF{l:List Nat}(a:l.Pairwise (· < ·))(i:Nat):(ua l).testBit i=l.contains i:=by
 obtain⟨N,b⟩:∃N,∀p∈l,p<N:=by
  clear a
  induction l with
  |nil=>exact⟨0,λ_ h=>(ba h).elim⟩
  | cons x l ih=>
   obtain⟨N,h⟩:=ih;refine⟨N+x+1,λp hp=>?_⟩;rcases am.mp hp with rfl|hp
   ·lia
   ·have:=h p hp;lia
 rw[We a b,DLB.mkN_bit];cases c:l.contains i with
 |false=>rw[kZ]
 |true=>rw[decide_eq_true (b i (be.mp c))];rfl
def zg(r:List (List Nat)):Nat:=DLB.orM (λt=>ua (pS t)) r
def Fz(ps:List Nat)(r:List (List Nat)):Bool:=(zg r &&& ua ps)==ua ps
def Jn{ps:List Nat}(c:ps.Pairwise (· < ·)){r:List (List Nat)}(d:∀t∈r,t∈oC):Fz ps r=YP ↔ ∀p∈ps,∃t∈r,p∈pS t:=by
 unfold Fz zg;rw[beq_iff_eq];have a:∀i,(DLB.orM (λt=>ua (pS t)) r).testBit i=YP ↔ ∃t∈r,i∈pS t:=λi=>by
  rw[DLB.orM_bit,cI];exact⟨λ⟨t,b,q⟩=>⟨t,b,by rw[GF (GA (d t b))] at q;exact be.mp q⟩,λ⟨t,b,q⟩=>⟨t,b,by rw[GF (GA (d t b))];exact be.mpr q⟩⟩
 constructor
 ·intro h p e;have:(DLB.orM (λt=>ua (pS t)) r &&& ua ps).testBit p=YP:=by rw[h,GF c];exact be.mpr e
  rw[nK,aQ] at this;exact(a p).mp this.1
 ·intro h;refine Nat.eq_of_testBit_eq λi=>?_;rw[nK,GF c];cases f:ps.contains i with
  |false=>rw[kZ]
  |true=>rw[iC];exact(a i).mpr (h i (be.mp f))
def uO(ps:List Nat)(ts:List (List Nat)):List (Int×Int):=((rE ts).filter (Fz ps)).map λr=>(((r.length:Nat):Int),((rG r:Nat):Int))
def CI(ps:List Nat)(ts:List (List Nat)):Prop:=∀p∈ps,∃t∈ts,p∈pS t
def NT{ps:List Nat}{ts:List (List Nat)}(a:ps.Pairwise (· < ·))(b:Tm ts)(h:CI ps ts):uO ps ts≠[]:=by
 have c:ts∈rE ts:=by
  have:=RJ (λ_=>YP) ts;rwa [gG.mpr λ_ _=>rfl] at this
 have:((((ts.length:Nat):Int),((rG ts:Nat):Int)):Int×Int)∈uO ps ts:=aB.mpr ⟨ts,ax.mpr ⟨c,(Jn a b).mpr h⟩,rfl⟩;intro e;rw[e] at this;cases this
def ZR{ps:List Nat}{ts:List (List Nat)}(d:ps.Pairwise (· < ·))(f:Tm ts)(m:ts.Nodup)(h:CI ps ts):∃a b:Nat,zO ps ts a b/\ur (uO ps ts)=(((a:Nat):Int),((b:Nat):Int)):=by
 cases g:uO ps ts with
 |nil=>exact absurd g (NT d f h)
 | cons x l=>
  obtain⟨o,s,u⟩:=Jy l x;have v:ur (x::l)∈uO ps ts:=by
   rw[g];rcases o with e|e
   ·show l.foldl _ x∈_;rw[e];exact al
   ·exact ai _ e
  have w:∀y∈uO ps ts,ltQ y (ur (x::l))=Y1:=λy hy=>by
   rw[g] at hy;rcases am.mp hy with rfl|hy
   ·exact s
   ·exact u y hy
  obtain⟨r,z,e⟩:=aB.mp v;obtain⟨i,A⟩:=ax.mp z;have j:=JR ts r i;refine⟨r.length,rG r,⟨⟨r,m.sublist j,⟨λt c=>j.subset c,(Jn d λt c=>f t (j.subset c)).mp A⟩,rfl,rfl⟩,λS B n=>?_⟩,e.symm⟩;have C:=RJ (λt=>decide (t∈S)) ts;have k:S.Perm (ts.filter λt=>decide (t∈S)):=DLC.perm_of_sub B (λt c=>ax.mpr ⟨n.1 t c,by simpa using c⟩) (Hf (m.filter _) λt c=>by simpa using(ax.mp c).2);have D:((((ts.filter λt=>decide (t∈S)).length:Nat):Int),((rG (ts.filter λt=>decide (t∈S)):Nat):Int))∈uO ps ts:=aB.mpr ⟨_,ax.mpr ⟨C,(Jn d λt c=>f t (ax.mp c).1).mpr λp E=>by
   obtain⟨t,c,q⟩:=n.2 p E;exact⟨t,k.mem_iff.mp c,q⟩⟩,rfl⟩
  have:=w _ D;rw[<- e,<- k.length_eq,<- Dy k] at this;unfold ltQ uP at this;simp only[fD,iO,decide_eq_false_iff_not] at this;lia
def VG(a b:Nat):ix (a:Int) (b:Int)=((a ||| b:Nat):Int):=by
 have d:decide ((0:Int) <= -(a:Int)-1)=Y1:=decide_eq_false 'd';have e:decide ((0:Int) <= -(b:Int)-1)=Y1:=decide_eq_false 'd';show -(match decide ((0:Int) <= -(a:Int)-1),decide ((0:Int) <= -(b:Int)-1) with|true,YP=>_|true,Y1=>_|false,YP=>_|false,Y1=>-((((-(-(a:Int)-1)-1).toNat ||| (-(-(b:Int)-1)-1).toNat:Nat)):Int)-1)-1=_;rw[d,e];have f:(-(-(a:Int)-1)-1).toNat=a:=by lia
 have g:(-(-(b:Int)-1)-1).toNat=b:=by lia
 dsimp only;rw[f,g];show -(-((a ||| b:Nat):Int)-1)-1=_;generalize a ||| b=c;lia
def orF(O:Ow)(a b:Nat):fI Fq O (.int (a:Nat)) (.int (b:Nat))=.ok (.int ((a ||| b:Nat))) O:=by show R.ok (D.int (ix (a:Int) (b:Int))) O=_;rw[VG]
def Ud(O:Ow)(a b:Nat):fI BC O (.int (a:Nat)) (.int (b:Nat))=.ok (.int ((a &&& b:Nat))) O:=by show R.ok (D.int (h9 (a:Int) (b:Int))) O=_;have c:decide ((0:Int)<=(a:Int))=YP:=decide_eq_true 'd';have d:decide ((0:Int)<=(b:Int))=YP:=decide_eq_true 'd';unfold h9;rw[c,d];rfl
def MQ(O:Ow){n:Nat}(h:n<=1000000):fI s_ O (.int 1) (.int (n:Nat))=.ok (.int ((2 ^ n:Nat))) O:=by show(match s_ 1 (n:Nat) with|some d=>R.ok d O|none=>.bad)=_;unfold s_;rw[Y2 ⟨by lia,by lia,by decide⟩];simp
def OT(O:Ow)(l:List Nat):yL O [.lst (l.map λp=>D.int ((2 ^ p:Nat):Int))]=.ok (.int ((ua l:Nat))) O:=by
 show(match xB (l.map λp=>D.int ((2 ^ p:Nat):Int)) with|some ns=>R.ok (D.int ns.sum) O|none=>.bad)=_;have:(l.map λp=>D.int ((2 ^ p:Nat):Int))=(l.map λp=>((2 ^ p:Nat):Int)).map D.int:=by rw[bi];rfl
 rw[this,G3];show R.ok (D.int _) O=_;have e:(l.map λp=>((2 ^ p:Nat):Int)).sum=((ua l:Nat):Int):=by
  unfold ua;clear this
  induction l with
  |nil=>rfl
  |cons x l ih=>rw[bh,fR,ih,bh,fR];lia
 rw[e]
def ud(r:List (List Nat)):D:=.tup [.tup (r.map .str),.int ((zg r:Nat))]
def Yy(O:Ow){r:List (List Nat)}(t:List Nat)(h:r.length<=1000):tj O (.tup (r.map .str)) (.tup [.str t])=.ok (.tup ((r++[t]).map .str)) O:=by
 cases r with
 |nil=>rfl
 | cons x l=>
  show(if (x::l).map D.str≠[]/\((x::l).map D.str).length+[D.str t].length<=4000000 then R.ok (D.tup ((x::l).map D.str++[.str t])) O else .bad)=_;rw[Y2 ⟨by simp,by rw[au];simp only[aO,eD] at *;lia⟩,bT];rfl
def Yi(r:List (List Nat))(t:List Nat):zg (r++[t])=zg r ||| ua (pS t):=DLB.orM_app _ _ _
def Se:DE:=(qR (b_ (e_ tj (a_ 6) (qR (b_ (e_ p9 (a_ 1) (a_ 5)) c_))) (b_ (e_ (fI Fq) (a_ 7) (e_ p9 (a_ 2) (a_ 5))) c_)))
def UR:DS:=(pZ 4 (e_ tj (a_ 4) (pV Y1 2 (pR (a_ 4)) (.two 6 7) [] [] Se)))
def zdD{ps:List Nat}{ts:List (List Nat)}(B:ps.Pairwise (· < ·))(vE:ps.length<=16)(C:∀p∈ps,p<1000)(q:Tm ts)(E:ts.length<=18)(hn:ts.Nodup)(h:CI ps ts)(O:Ow):D1 [.tup (pO ps),.tup (ts.map .str)] O=.ok (.tup [.int (ur (uO ps ts)).1,.int (ur (uO ps ts)).2]) O:=by
 let P:Option D:=XV (.tup (pO ps));let T:Option D:=XV (.tup (ts.map .str));let M:Option D:=XV (.lst (ts.map λt=>D.int ((ua (pS t):Nat):Int)));let W:Option D:=XV (.int ((ua ps:Nat):Int));have F:pV Y1 1 (pR (a_ 1)) (.one 6) [] [] (l_ yL (b_ (pV Y1 1 (pR (j_ 1 sH (b_ (a_ 6) c_))) (.one 7) [] [] (e_ (fI s_) (dC (.int 1)) (a_ 7))) c_)) [P,T,X9,X9,X9,X9] O=.ok (.lst (ts.map λt=>D.int ((ua (pS t):Nat):Int))) O:=
  (wc (o:=Y1) (ext:=1) (i:=6) (l:=ts) (inj:=D.str) (e:=λt=>D.int ((ua (pS t):Nat):Int)) (τ:=λt=>[P,T,X9,X9,X9,X9,XV (.str t)]) (AR rfl) 'd' (λ_=>rfl) (λt d=>by
   have n:=q t d;have G:=B_ n;refine tR (p8 ((wc (o:=Y1) (ext:=1) (i:=7) (l:=pS t) (inj:=λ(p:Nat)=>D.int (p:Int)) (e:=λp=>D.int ((2 ^ p:Nat):Int)) (τ:=λ(p:Nat)=>[P,T,X9,X9,X9,X9,XV (.str t),XV (.int (p:Int))]) (uD (qX (p8 rfl) (AW n O))) 'd' (λ_=>rfl) (λp s=>?_)).trans rfl)) (OT O (pS t));have q0:=Gr n s;have z:t.length<=4:=of_decide_eq_true (ar.mp PU t n);have:2 ^ t.length<=2 ^ 4:=cX 'u' 'd';exact q_ rfl rfl (MQ O 'd'))).trans rfl
 have H:l_ yL (b_ (pV Y1 1 (pR (a_ 0)) (.one 6) [] [] (e_ (fI s_) (dC (.int 1)) (a_ 6))) c_) [P,T,M,X9,X9,X9] O=.ok (.int ((ua ps:Nat):Int)) O:=
  tR (p8 ((wc (o:=Y1) (ext:=1) (i:=6) (l:=ps) (inj:=λ(p:Nat)=>D.int (p:Int)) (e:=λp=>D.int ((2 ^ p:Nat):Int)) (τ:=λ(p:Nat)=>[P,T,M,X9,X9,X9,XV (.int (p:Int))]) (AR rfl) 'd' (λ_=>rfl) (λp s=>q_ rfl rfl (MQ O (by have:=C p s;lia)))).trans rfl)) (OT O ps)
 have f:∀i,(rE (ts.take i)).length<=262144:=λi=>by
  rw[ZP];have k:=lE i ts;exact aE (cX 'u' (aE k E)) 'u'
 have u:∀{i:Nat}{r:List (List Nat)},r∈rE (ts.take i)->r.length<=1000:=λ{i r}c=>by
  have k:=(JR _ r c).length_le;have I:=lE i ts;lia
 obtain⟨J,b,A,⟨y,rfl⟩,K⟩:=Jk (i:=5) (it:=rU (b_ (l_ qt (b_ (a_ 1) c_)) c_)) (body:=UR) (σ:=[P,T,M,W,XV (.lst [ud []]),X9]) (O0:=O) (O:=O) (l:=aL ts.length) (inj:=λ(i:Nat)=>D.int (i:Int)) (yX (p8 (tR (p8 rfl) ((GL O _).trans (by rw[au])))) 'd')
  (λj σ b=>(∃y,σ=[P,T,M,W,XV (.lst ((rE (ts.take j)).map ud)),y])/\b=O) (λj a σ b L N=>by
   obtain⟨⟨y,rfl⟩,rfl⟩:=N;obtain⟨m,e⟩:=aq.mp L;rw[List.getElem_range] at e;subst e;have m:j<ts.length:=by rwa [eJ] at m
   have d:ts.take (j+1)=ts.take j++[ts[j]]:=by rw[jh,ay m];rfl
   have f1:=f j;have Q:pV Y1 2 (pR (a_ 4)) (.two 6 7) [] [] Se [P,T,M,W,XV (.lst ((rE (ts.take j)).map ud)),XV (.int (j:Nat))] b=.ok (.lst (((rE (ts.take j)).map (· ++ [ts[j]])).map ud)) b:=by
    refine(Cg (o:=Y1) (ext:=2) (g:=.two 6 7) (ts:=[]) (src:=.val ((rE (ts.take j)).map ud)) (l:=rE (ts.take j)) (inj:=ud) (p:=λ_=>YP) (e:=λr=>ud (r++[ts[j]])) (τ:=λr=>[P,T,M,W,XV (.lst ((rE (ts.take j)).map ud)),XV (.int (j:Nat)),XV (.tup (r.map .str)),XV (.int ((zg r:Nat)))]) (uD rfl) (λ_=>rfl) (by show((rE (ts.take j)).map ud).length=_;rw[au]) 'd' (λ_ _=>rfl) (λ_ _=>rfl) (λr c _=>?_)).trans ?_
    ·have v:e_ p9 (a_ 1) (a_ 5) [P,T,M,W,XV (.lst ((rE (ts.take j)).map ud)),XV (.int (j:Nat)),XV (.tup (r.map .str)),XV (.int ((zg r:Nat)))] b=.ok (.str ts[j]) b:=q_ rfl rfl ((JC (by rw[au];exact m)).trans (by rw[iG]));have w:e_ p9 (a_ 2) (a_ 5) [P,T,M,W,XV (.lst ((rE (ts.take j)).map ud)),XV (.int (j:Nat)),XV (.tup (r.map .str)),XV (.int ((zg r:Nat)))] b=.ok (.int ((ua (pS ts[j]):Nat))) b:=q_ rfl rfl ((Dl (by rw[au];exact m)).trans (by rw[iG]));refine(B1 (qL (q_ rfl (B1 (p8 v) (by show 1<=4000000;decide)) (Yy b _ (u c))) (q_ rfl w (orF b _ _))) (by show 2<=4000000;decide)).trans ?_;unfold ud;rw[Yi]
    ·rw[gG.mpr (λ_ _=>rfl),bi];rfl
   refine⟨_,_,wk (q_ rfl Q ?_),⟨XV (.int (j:Nat)),rfl⟩,rfl⟩;show(if _ then R.ok (D.lst (_++_)) b else .bad)=_;rw[Y2 (by rw[au,au,au];lia),<- bT,d,GP]) ⟨⟨X9,rfl⟩,rfl⟩
 rw[eJ,jY,K] at A;have S:=f ts.length;rw[jY] at S;have U:∀{r:List (List Nat)},r∈rE ts->r.length<=1000/\∀t∈r,t∈oC:=λ{r}c=>by
  have k:=JR ts r c;have I:=k.length_le;exact⟨by lia,λt d=>q t (k.subset d)⟩
 have V:pV Y1 2 (pR (a_ 4)) (.two 6 7) [(pQ (e_ (qe rK) (e_ (fI BC) (a_ 7) (a_ 3)) (a_ 3)))] [] (qR (b_ (l_ qt (b_ (a_ 6) c_)) (b_ (j_ 1 tI (b_ (a_ 6) c_)) c_))) [P,T,M,W,XV (.lst ((rE ts).map ud)),y] O=.ok (.lst ((uO ps ts).map λp=>.tup [.int p.1,.int p.2])) O:=by
  refine(Cg (o:=Y1) (ext:=2) (g:=.two 6 7) (src:=.val ((rE ts).map ud)) (l:=rE ts) (inj:=ud) (p:=Fz ps) (e:=λr=>D.tup [.int ((r.length:Nat)),.int ((rG r:Nat))]) (τ:=λr=>[P,T,M,W,XV (.lst ((rE ts).map ud)),y,XV (.tup (r.map .str)),XV (.int ((zg r:Nat)))]) (uD rfl) (λ_=>rfl) (by show((rE ts).map ud).length=_;rw[au]) 'd' (λ_ _=>rfl) (λr c=>GU ?_) (λr c _=>?_)).trans ?_
  ·refine sj (q_ (q_ rfl rfl (Ud O _ _)) rfl ((Tv O _ _).trans ?_));congr 2;unfold Fz;rw[dU,beq_iff_eq,beq_iff_eq];lia
  ·obtain⟨X,Y⟩:=U c;exact B1 (qL (tR (p8 rfl) ((GL O _).trans (by rw[au]))) (qX (p8 rfl) ((JH Y X O).trans (by rw[Gd])))) (by show 2<=4000000;decide)
  ·unfold uO;rw[bi];rfl
 show fin (KE [P,T,X9,X9,X9,X9] O)=_;have Z:pU (l_ CY (b_ (pV Y1 2 (pR (a_ 4)) (.two 6 7) [(pQ (e_ (qe rK) (e_ (fI BC) (a_ 7) (a_ 3)) (a_ 3)))] [] (qR (b_ (l_ qt (b_ (a_ 6) c_)) (b_ (j_ 1 tI (b_ (a_ 6) c_)) c_)))) c_)) [P,T,M,W,XV (.lst ((rE ts).map ud)),y] O=.rt (.tup [.int (ur (uO ps ts)).1,.int (ur (uO ps ts)).2]) O:=by
  refine sv (tR (p8 V) ?_);show(match zJ ((uO ps ts).map λp=>D.tup [.int p.1,.int p.2]) with|some ps=>if ps≠[] then R.ok (D.tup [.int (ur ps).1,.int (ur ps).2]) O else .bad|none=>.bad)=_;rw[Qq];dsimp only;rw[Y2 (NT B q h)]
 have hB:KE [P,T,X9,X9,X9,X9] O=.rt (.tup [.int (ur (uO ps ts)).1,.int (ur (uO ps ts)).2]) O:=sQ (i:=2) F (sQ (i:=3) H (sQ (i:=4) (x:=.lst [ud []]) (O1:=O) rfl (yU A Z)));exact u9 hB
theorem Jt(Q:St->Prop)(a:∀s:St,Ok s.T s.ps s.ts->Q s->Q ⟨s.T++qw s.ps s.ts,qU s.ps s.ts,rF s.ps s.ts⟩):∀(f:Nat)(s:St),Ok s.T s.ps s.ts->Q s->Q (oF f s)
 |0,s,_,h=>h
 | f+1,s,ok,h=>by
  unfold oF;by_cases b:qU s.ps s.ts=s.ps/\rF s.ps s.ts=s.ts
  ·rw[Y2 b];exact h
  ·rw[Z5 b];exact Jt Q a f _ ok.step (a s ok h)
theorem ON:∀(f:Nat)(s:St),s.ps.length+s.ts.length<f->qU (oF f s).ps (oF f s).ts=(oF f s).ps/\rF (oF f s).ps (oF f s).ts=(oF f s).ts
 |0,s,h=>absurd h (Nat.not_lt_zero _)
 | f+1,s,h=>by
  unfold oF;by_cases a:qU s.ps s.ts=s.ps/\rF s.ps s.ts=s.ts
  ·rw[Y2 a];exact a
  ·rw[Z5 a];have:=MK a;exact ON f _ (by show(qU s.ps s.ts).length+(rF s.ps s.ts).length<f;lia)
def U8(f:Nat)(s:St)(ok:Ok s.T s.ps s.ts){t:List Nat}(a:t∈s.T):t∈(oF f s).T:=Jt (λs=>t∈s.T) (λs _ h=>bB _ h) f s ok a
def XO(f:Nat)(s:St)(ok:Ok s.T s.ps s.ts){t:List Nat}(a:t∈qw s.ps s.ts):t∈(oF (f+1) s).T:=by
 unfold oF;by_cases b:qU s.ps s.ts=s.ps/\rF s.ps s.ts=s.ts
 ·rw[stay ok b.1] at a;cases a
 ·rw[Z5 b];exact U8 f _ ok.step (av _ a)
structure Fin(n:Nat)(f:List D)(s:St):Prop where
 T:∀t∈s.T,t∈rk n f
 ts:∀t∈s.ts,t∈rk n f
 no:∀t∈s.T,∀p∈s.ps,p∉pS t
 cv:CI s.ps s.ts
 ps:∀p∈s.ps,p∈wh n f
def Zt{T:List (List Nat)}{ps:List Nat}{ts:List (List Nat)}(h:Ok T ps ts)(c:CI ps ts):CI (qU ps ts) (rF ps ts):=λp b=>by
 obtain⟨t,d,e⟩:=c p (o3.mp (De b)).1;have a:p∈held (qU ps ts) t:=pe.mpr ⟨e,b⟩;obtain⟨u,f,g,_⟩:=QQ (ps:=qU ps ts) h.tT d (by
  cases i:held (qU ps ts) t with
  |nil=>rw[i] at a;cases a
  |cons _ _=>rfl)
 exact⟨u,f,(pe.mp (g p a)).1⟩
def GJ{n:Nat}{f:List D}(b:Fn n f):Fin n f (sF n f):=by
 refine Jt (Fin n f) (λs c h=>⟨λt ht=>?_,λt ht=>h.ts t (B0 ht).1,λt ht p a=>?_,Zt c h.cv,λp a=>h.ps p (o3.mp (De a)).1⟩) 99 (s0 n f) (El b) ⟨λ_ h=>(ba h).elim,λt ht=>ht,λ_ h=>(ba h).elim,λp a=>Oe b a,λp a=>a⟩
 ·rcases aH.mp ht with ht|ht
  ·exact h.T t ht
  ·exact h.ts t (BW c.tT t ht)
 ·obtain⟨d,e⟩:=o3.mp (De a);rcases aH.mp ht with ht|ht
  ·exact h.no t ht p d
  ·exact e t ht
def Yv{n:Nat}{f:List D}(a:Fn n f){p:Nat}(b:p∈(sF n f).ps):2<=(pX (sF n f).ts p).length:=by
 have d:=CU a;have g:=stay d (ON 99 (s0 n f) (m0 a)).1;obtain⟨t,h,i⟩:=(GJ a).cv p b;have j:t∈pX (sF n f).ts p:=oR.mpr ⟨h,i⟩;have k:0<(pX (sF n f).ts p).length:=kL j;have c:(pX (sF n f).ts p).length≠1:=λe=>by
  have c:uv (sF n f).ts p=YP:=by unfold uv;simpa using e
  have:(pX (sF n f).ts p).headD []∈qw (sF n f).ps (sF n f).ts:=by
   unfold qw AD;rw[vw];exact aB.mpr ⟨p,ax.mpr ⟨b,c⟩,rfl⟩
  rw[g] at this;cases this
 lia
def UB{n:Nat}{f:List D}(a:Fn n f):(sF n f).ts.length<=18:=aE (Hf (CU a).ts1 (GJ a).ts) (G4 a)
def oX{n:Nat}{f:List D}(c:Fn n f){l:List (List Nat)}(g:TK n f l):∃a b:Nat,ur (uO (sF n f).ps (sF n f).ts)=(((a:Nat):Int),((b:Nat):Int))/\(sF n f).T.length+a=l.length/\rG (sF n f).T+b=rG l:=by
 have d:=CU c;obtain⟨a,b,h,e⟩:=ZR d.ps1 d.tT d.ts1 (GJ c).cv;obtain⟨A,B,i,j,k⟩:=P4 99 (s0 n f) (El c) h;obtain⟨m,o⟩:=zdR i g.best;refine⟨a,b,e,?_,?_⟩
 ·show(oF 99 (s0 n f)).T.length+a=_;rw[<- j,<- m];exact fh _
 ·show rG (oF 99 (s0 n f)).T+b=_;rw[<- k,<- o];exact fh _
def At.set{O:Ow}(h:At O)(m:Nat)(s:Int)(b:Bool):At (O.set m [.int s,.bl b]):=λc e d a=>by
 rcases fE e with q|q
 ·exact h c q d a
 ·subst q;simp only[am,ba,or_false] at a;rcases a with rfl|rfl<;>rfl
def At.app{O:Ow}(h:At O)(s:Int)(b:Bool):At (O++[[.int s,.bl b]]):=λc e d a=>by
 rcases aH.mp e with q|q
 ·exact h c q d a
 ·have:c=[.int s,.bl b]:=by simpa using q
  subst this;simp only[am,ba,or_false] at a;rcases a with rfl|rfl<;>rfl
def Wx{c d:DT}{σ:Sg}{O O1 O2:Ow}(a:c σ O=.ok Y1 O1)(b:d σ O1=.ok Y1 O2):xv c d σ O=.ok Y1 O2:=by show((c σ O).bnd _)=_;rw[a];exact b
def Nv{t:DE}{σ:Sg}{O O1:Ow}{i j:Nat}{x y:D}(h:t σ O=.ok (.tup [x,y]) O1):Az (.two i j) t σ O=.nx ((σ.set i (XV x)).set j (XV y)) O1:=by show((t σ O).bnS _)=_;rw[h];rfl
def Wh{t:DE}{σ:Sg}{O O1:Ow}{i j k:Nat}{x y z:D}(h:t σ O=.ok (.tup [x,y,z]) O1):yi i j k t σ O=.nx (((σ.set i (XV x)).set j (XV y)).set k (XV z)) O1:=by unfold yi;rw[h];rfl
def Yq(O:Ow)(i j:Int):qe rH O (.tup [.int i,.int j]) (.tup [.int i,.int j])=.ok (.bl Y1) O:=(F3 O (x:=.tup [.int i,.int j]) (y:=.tup [.int i,.int j]) rfl rfl (b:=YP) 'k').2
def Jh(O:Ow):qe rH O (.lst []) (.lst [])=.ok (.bl Y1) O:=(I8 O (x:=[]) (y:=[]) rfl rfl (b:=YP) 'k').2
def NK{t:List Nat}(h:t∈oC):pl 7 (.str t)=YP:=by have:=yf (ts:=[t]) (λb a=>by rw[cF.mp a];exact h) 7;simpa using this
def Oy(O:Ow){t:List Nat}(h:t∈oC){l:List (List Nat)}(a:Tm l)(c:t∈l):r8 O (.str t) (.tup (l.map .str))=.ok (.bl Y1) O:=(CZ O (x:=.str t) (y:=.tup (l.map .str)) (l:=l.map .str) (NK h) (yf a 7) (.inr rfl) (b:=YP) (by simp[c])).2
def Yo(O:Ow){t:List Nat}(h:t∈oC){l:List (List Nat)}(a:Tm l)(c:t∈l):r8 O (.str t) (.lst (l.map .str))=.ok (.bl Y1) O:=(CZ O (x:=.str t) (y:=.lst (l.map .str)) (l:=l.map .str) (NK h) (yf a 7) (.inl rfl) (b:=YP) (by simp[c])).2
def zfA(O:Ow){a b:List (List Nat)}(h:a.length+b.length<=4000000):tj O (.tup (a.map .str)) (.tup (b.map .str))=.ok (.tup ((a++b).map .str)) O:=by
 cases a with
 |nil=>rfl
 | cons x l=>
  show(if (x::l).map D.str≠[]/\((x::l).map D.str).length+(b.map D.str).length<=4000000 then R.ok (D.tup ((x::l).map D.str++b.map D.str)) O else .bad)=_;rw[Y2 ⟨by simp,by rw[au,au];exact h⟩,bT]
def Jl{ext i:Nat}{it0:DI}{t:DT}{te:DE}{σ:Sg}{O:Ow}{α:Type}{l:List α}{inj:α->D}{τ:α->Sg}(b:it0 σ O=.ok (.val (l.map inj)) O)(c:l.length<1900000)(d:∀a,(qo (qo (σ++aP ext X9) [i]) [i]).set i (XV (inj a))=τ a)(f:∀a∈l,t (τ a) O=.ok Y1 O):pV Y1 ext it0 (.one i) [t] [] te σ O=.ok (.lst []) O:=by have:=w4 (o:=Y1) (ext:=ext) (i:=i) (te:=te) (p:=λ_=>Y1) (e:=λ_=>D.non) b c d f (λ_ _ q=>by cases q);rw[fe.mpr (λ_ _=>by simp)] at this;exact this
def Gb:DS:=(m_ (qM (pQ (e_ (qe rH) (pV Y1 1 (pR (a_ 4)) (.one 14) [(pQ (e_ rT (a_ 12) (j_ 1 sH (b_ (a_ 14) c_))))] [] (a_ 14)) (qO c_))) (pU (dC (.bl Y1))) qQ) (qM (pQ (e_ ye (l_ qt (b_ (pV Y1 1 (pR (a_ 6)) (.one 14) [(pQ (e_ rT (a_ 12) (j_ 1 sH (b_ (a_ 14) c_))))] [] (a_ 14)) c_)) (dC (.int 2)))) (pU (dC (.bl Y1))) qQ))
def F9(Pt:Nat):DS:=(m_ (pZ 2 (j_ 2 D6 (b_ (a_ 0) (b_ (a_ 1) c_)))) (m_ (pZ 3 (j_ 1 D9 (b_ (a_ 2) c_))) (m_ (yi 4 5 6 (j_ 1 Du (b_ (a_ 3) c_))) (m_ (Az (.two 7 8) (qR (b_ (tN Pt 13 1 (D7 Pt) (b_ (a_ 3) c_)) (b_ (j_ 1 yt (b_ (a_ 3) c_)) c_)))) (m_ (Az (.two 9 10) (j_ 2 D1 (b_ (a_ 5) (b_ (a_ 6) c_)))) (m_ (qM (pQ (e_ (qe rH) (qR (b_ (e_ tj (l_ qt (b_ (a_ 4) c_)) (a_ 9)) (b_ (e_ tj (j_ 1 tI (b_ (a_ 4) c_)) (a_ 10)) c_))) (qR (b_ (l_ qt (b_ (a_ 7) c_)) (b_ (j_ 1 tI (b_ (a_ 7) c_)) c_))))) (pU (dC (.bl Y1))) qQ) (m_ (pZ 11 (j_ 1 Dz (b_ (a_ 3) c_))) (m_ (qM (pQ (e_ (qe rH) (pV Y1 1 (pR (a_ 11)) (.one 14) [(xv (pQ (e_ r8 (a_ 14) (a_ 4))) (pQ (e_ r8 (a_ 14) (a_ 7))))] [] (a_ 14)) (qO c_))) (pU (dC (.bl Y1))) qQ) (m_ (qM (pQ (e_ (qe rH) (pV Y1 1 (pR (e_ tj (a_ 4) (a_ 6))) (.one 14) [(pQ (e_ r8 (a_ 14) (a_ 8)))] [] (a_ 14)) (qO c_))) (pU (dC (.bl Y1))) qQ) (vM (pR (a_ 5)) (.one 12) Gb))))))))))
def zfC{Pt:Nat}{ns:List Int}{k:Nat}{O:Ow}(hO:At O){y2 y3 y4 y5 y6 y7 y8 y9 y10 y11 y12:Option D}:
  ∃z2 z3 z4 z5 z6 z7 z8 z9 R9 R8 R7 d,F9 Pt [XV (.lst (ns.map .int)),XV (.int (k:Int)),y2,y3,y4,y5,y6,y7,y8,y9,y10,y11,y12,XV (.tab Pt)] O=.nx [XV (.lst (ns.map .int)),XV (.int (k:Int)),z2,z3,z4,z5,z6,z7,z8,z9,R9,R8,R7,XV (.tab Pt)] d/\At d:=by
 let A:Option D:=XV (.lst (ns.map .int));let B:Option D:=XV (.int (k:Int));let H:Option D:=XV (.tab Pt);obtain⟨s,b,s1,s2⟩:=zeR (ns:=ns) (k:=k) O;have To:At (O++[[.int s,.bl b]]):=hO.app s b;generalize hm:O.length=m at *;generalize Fk:O++[[D.int s,D.bl b]]=O1 at *;obtain⟨n,f,t3,q,f1,f2⟩:=z9w To.flat s2;have Q:=To.set m t3 b;generalize hO4:O1.set m [D.int t3,D.bl b]=c at *;have U:=Q.pl;obtain⟨l,h,V⟩:=Va q;have L:=GJ q;have J:=CU q;have vS:=ZT q Q.flat;obtain⟨a,W,eq,w1,w2⟩:=oX q h;have X:=UB q;have Lk:∀{p},p∈(sF n f).ps->2<=(pX (sF n f).ts p).length:=λ{p}K=>Yv q K;have qE:∀{t},t∈qw (wh n f) (rk n f)->t∈(sF n f).T:=λ{t}ht=>XO 98 (s0 n f) (El q) ht;have zt:res n f=.tup [.tup ((qi (sF n f).T).map .str),.tup (pO (sF n f).ps),.tup ((sF n f).ts.map .str)]:=rfl;generalize (sF n f)=g at *;rw[zt] at vS;have P:∀t∈rk n f,t∈oC:=z_ q;have TT:Tm g.T:=J.TT;have Y:Tm (qi g.T):=Oj TT;have Ts:Tm g.ts:=J.tT;have Tl:Tm l:=λt ht=>P t (h.cov.1 t ht);have Z:g.T.Perm (qi g.T):=DLC.perm_of_sub J.nd (λt ht=>(vw _).mpr ht) (JN _);have Fj:g.T.length<=16:=by have:=J.ln;lia
 have S_:(qi g.T).length<=16:=by rw[<- Z.length_eq];exact Fj
 have vE:=J.p16;have rz:∀p∈g.ps,p<1000:=λp K=>by
  have:=L.ps p K;unfold wh zb at this;have h1:=bM.mp (ax.mp this).1;have h2:=DQ q.n4;lia
 have SX:=zdD J.ps1 vE rz Ts X J.ts1 L.cv c;rw[eq] at SX;let S:Option D:=XV (.own m);let F:Option D:=XV (.tup f);let v:Option D:=XV (.tup ((qi g.T).map .str));let w:Option D:=XV (.tup (pO g.ps));let x:Option D:=XV (.tup (g.ts.map .str));let z:Option D:=XV (.tup (l.map .str));let C:Option D:=XV (.lst ((rk n f).map .str));let E:Option D:=XV (.int ((a:Nat):Int));let G:Option D:=XV (.int ((W:Nat):Int));let I:Option D:=XV (.lst ((qw (wh n f) (rk n f)).map .str));have EU:Dz [.tup f] c=.ok (.lst ((qw (wh n f) (rk n f)).map .str)) c:=by
  show fin (J9 [XV (.tup f),X9] c)=_;unfold J9;exact u9 (sQ (qX (p8 rfl) (G0 q c)) (sv (qX (qL (qX (qL rfl rfl) (MZ q c)) rfl) (PR (z_ q) (Kr q) (Ds q uQ) c))))
 have SM:∀{r:List (List Nat)},Tm r->r.length<=1000->tI [.tup (r.map .str)] c=.ok (.int ((rG r:Nat):Int)) c:=λ{r}hr hl=>(JH hr hl c).trans (by rw[Gd]);have hl18:=h.few;have c1:pQ (e_ (qe rH) (qR (b_ (e_ tj (l_ qt (b_ (a_ 4) c_)) (a_ 9)) (b_ (e_ tj (j_ 1 tI (b_ (a_ 4) c_)) (a_ 10)) c_))) (qR (b_ (l_ qt (b_ (a_ 7) c_)) (b_ (j_ 1 tI (b_ (a_ 7) c_)) c_)))) [A,B,S,F,v,w,x,z,C,E,G,y11,y12,H] c=.ok Y1 c:=by
  have e1:qR (b_ (e_ tj (l_ qt (b_ (a_ 4) c_)) (a_ 9)) (b_ (e_ tj (j_ 1 tI (b_ (a_ 4) c_)) (a_ 10)) c_)) [A,B,S,F,v,w,x,z,C,E,G,y11,y12,H] c=.ok (.tup [.int ((l.length:Nat):Int),.int ((rG l:Nat):Int)]) c:=by
   refine(B1 (qL (q_ (tR (p8 rfl) ((GL c _).trans (by rw[au]))) rfl (show tj c (.int (((qi g.T).length:Nat):Int)) (.int ((a:Nat):Int))=.ok (.int ((((qi g.T).length:Nat):Int)+((a:Nat):Int))) c from rfl)) (q_ (qX (p8 rfl) (SM Y 'd')) rfl (show tj c (.int ((rG (qi g.T):Nat):Int)) (.int ((W:Nat):Int))=.ok (.int (((rG (qi g.T):Nat):Int)+((W:Nat):Int))) c from rfl))) (by show 2<=4000000;decide)).trans ?_;rw[<- Z.length_eq,<- Dy Z,<- w1,<- w2,nM,nM]
  have e2:qR (b_ (l_ qt (b_ (a_ 7) c_)) (b_ (j_ 1 tI (b_ (a_ 7) c_)) c_)) [A,B,S,F,v,w,x,z,C,E,G,y11,y12,H] c=.ok (.tup [.int ((l.length:Nat):Int),.int ((rG l:Nat):Int)]) c:=
   B1 (qL (tR (p8 rfl) ((GL c _).trans (by rw[au]))) (qX (p8 rfl) (SM Tl 'd'))) (by show 2<=4000000;decide)
  exact sj (q_ e1 e2 (Yq c _ _))
 have htl:(qw (wh n f) (rk n f)).length<=16:=aE (GH _ _) (aE (aZ _ _) (Ds q uQ));have c2:pQ (e_ (qe rH) (pV Y1 1 (pR (a_ 11)) (.one 14) [(xv (pQ (e_ r8 (a_ 14) (a_ 4))) (pQ (e_ r8 (a_ 14) (a_ 7))))] [] (a_ 14)) (qO c_)) [A,B,S,F,v,w,x,z,C,E,G,I,y12,H] c=.ok Y1 c:=
  sj (q_ (Jl (l:=qw (wh n f) (rk n f)) (inj:=D.str) (τ:=λt=>[A,B,S,F,v,w,x,z,C,E,G,I,y12,H,XV (.str t)]) (uD rfl) 'd' (λ_=>rfl) (λt ht=>by
   have M:=BW (z_ q) t ht;refine Wx (sj (q_ rfl rfl (Oy c (P t M) Y ((vw _).mpr (qE ht))))) (sj (q_ rfl rfl (Oy c (P t M) Tl ?_)));obtain⟨p,K,_,hu⟩:=Po (z_ q) ht;obtain⟨u,EG,EN⟩:=h.cov.2 p K;rw[<- hu u (h.cov.1 u EG) EN];exact EG)) rfl (Jh c))
 have c3:pQ (e_ (qe rH) (pV Y1 1 (pR (e_ tj (a_ 4) (a_ 6))) (.one 14) [(pQ (e_ r8 (a_ 14) (a_ 8)))] [] (a_ 14)) (qO c_)) [A,B,S,F,v,w,x,z,C,E,G,I,y12,H] c=.ok Y1 c:=
  sj (q_ (Jl (l:=qi g.T++g.ts) (inj:=D.str) (τ:=λt=>[A,B,S,F,v,w,x,z,C,E,G,I,y12,H,XV (.str t)]) (AR (q_ rfl rfl (zfA c 'd'))) (by rw[az];lia) (λ_=>rfl) (λt ht=>by
   have M:t∈rk n f:=by
    rcases aH.mp ht with ht|ht
    ·exact L.T t ((vw _).mp ht)
    ·exact L.ts t ht
   exact sj (q_ rfl rfl (Yo c (P t M) (z_ q) M)))) rfl (Jh c))
 obtain⟨σ',d,l1,⟨KN,rfl⟩,eO⟩:=Jk (i:=12) (it:=pR (a_ 5)) (body:=Gb) (σ:=[A,B,S,F,v,w,x,z,C,E,G,I,y12,H]) (O0:=c) (O:=c) (l:=g.ps) (inj:=λ(p:Nat)=>D.int (p:Int)) (AR rfl)
  (λ_ σ d=>(∃y12,σ=[A,B,S,F,v,w,x,z,C,E,G,I,y12,H])/\d=c) (λj p σ d K hI=>by
   obtain⟨⟨y12,rfl⟩,rfl⟩:=hI;have uV:=aN K;have N:∀{t:List Nat},t∈oC->pQ (e_ rT (a_ 12) (j_ 1 sH (b_ (a_ 14) c_))) [A,B,S,F,v,w,x,z,C,E,G,I,XV (.int (p:Nat)),H,XV (.str t)] d=.ok ((pS t).contains p) d:=λ{t}ht=>sj (q_ rfl (qX (p8 rfl) (AW ht d)) (Dr d p (pS t)));have d1:pQ (e_ (qe rH) (pV Y1 1 (pR (a_ 4)) (.one 14) [(pQ (e_ rT (a_ 12) (j_ 1 sH (b_ (a_ 14) c_))))] [] (a_ 14)) (qO c_)) [A,B,S,F,v,w,x,z,C,E,G,I,XV (.int (p:Nat)),H] d=.ok Y1 d:=
    sj (q_ (Jl (l:=qi g.T) (inj:=D.str) (τ:=λt=>[A,B,S,F,v,w,x,z,C,E,G,I,XV (.int (p:Nat)),H,XV (.str t)]) (AR rfl) 'd' (λ_=>rfl) (λt ht=>by
     have LG:=L.no t ((vw _).mp ht) p uV;rw[N (Y t ht)];have:(pS t).contains p=Y1:=by
      cases hc:(pS t).contains p with
      |false=>rfl
      |true=>exact absurd (be.mp hc) LG
     rw[this])) rfl (Jh d))
   have d2:pQ (e_ ye (l_ qt (b_ (pV Y1 1 (pR (a_ 6)) (.one 14) [(pQ (e_ rT (a_ 12) (j_ 1 sH (b_ (a_ 14) c_))))] [] (a_ 14)) c_)) (dC (.int 2))) [A,B,S,F,v,w,x,z,C,E,G,I,XV (.int (p:Nat)),H] d=.ok Y1 d:=by
    have hc:=w4 (o:=Y1) (ext:=1) (i:=14) (it0:=pR (a_ 6)) (l:=g.ts) (inj:=D.str) (t:=pQ (e_ rT (a_ 12) (j_ 1 sH (b_ (a_ 14) c_)))) (te:=a_ 14) (p:=λt=>(pS t).contains p) (e:=D.str) (σ:=[A,B,S,F,v,w,x,z,C,E,G,I,XV (.int (p:Nat)),H]) (O0:=d) (O:=d) (τ:=λt=>[A,B,S,F,v,w,x,z,C,E,G,I,XV (.int (p:Nat)),H,XV (.str t)]) (AR rfl) 'd' (λ_=>rfl) (λt ht=>N (Ts t ht)) (λ_ _ _=>rfl);refine sj (q_ (y:=.int ((2:Nat):Int)) (O2:=d) (tR (p8 (hc.trans rfl)) (show qt d [.lst ((pX g.ts p).map .str)]=.ok (.int (((pX g.ts p).length:Nat):Int)) d from by show R.ok (D.int ((((pX g.ts p).map D.str).length:Nat):Int)) d=_;rw[au])) rfl ((M_ d _ _).trans ?_));rw[decide_eq_false (lu.mpr (Lk uV))]
   refine⟨_,_,?_,⟨XV (.int (p:Nat)),rfl⟩,rfl⟩;show Gb [A,B,S,F,v,w,x,z,C,E,G,I,XV (.int (p:Nat)),H] d=_;unfold Gb;refine yW (O1:=d) d1 ?_;rw[vO d2];rfl) ⟨⟨y12,rfl⟩,rfl⟩
 rw[eO] at l1;refine⟨S,F,v,w,x,z,C,E,G,I,KN,c,?_,Q⟩;unfold F9;refine sQ (qX (qL rfl rfl) s1) (sQ (qX (p8 rfl) f1) (yU (Wh (qX (p8 rfl) vS)) (yU (Nv (B1 (qL (C_ rfl (p8 rfl) (V Pt c U)) (qX (p8 rfl) (G0 q c))) (by show 2<=4000000;decide))) (yU (Nv (qX (qL rfl rfl) SX)) ?_))));refine yW (O1:=c) c1 (sQ (qX (p8 rfl) EU) (yW (O1:=c) c2 (yW (O1:=c) c3 l1)))
def pure_law(Pt:Nat)(ns:List Int)(f:ns.length<=63):∃O,F_law Pt [.lst (ns.map .int)] []=.ok (.bl YP) O:=by
 let A:Option D:=XV (.lst (ns.map .int));let b:Option D:=XV (.tab Pt);obtain⟨m,g,h⟩:=ZY f [A,X9,X9,X9,X9,X9,X9,X9,X9,X9,X9,X9,X9,b] 5 'u' rfl;obtain⟨j,a,l,d,y2,y3,y4,y5,y6,y7,y8,y9,y10,y11,y12,rfl,s⟩:=Jk (i:=1) (body:=F9 Pt) (yX (p8 h) g) (λ_ e a=>∃d y2 y3 y4 y5 y6 y7 y8 y9 y10 y11 y12,e=[A,d,y2,y3,y4,y5,y6,y7,y8,y9,y10,y11,y12,b]/\At a) (λ_ i e a _ n=>by
   obtain⟨d,y2,y3,y4,y5,y6,y7,y8,y9,y10,y11,y12,rfl,o⟩:=n;obtain⟨t,u,v,w,x,y,z,B,C,E,F,G,p,q⟩:=zfC (Pt:=Pt) (ns:=ns) (k:=i) o (y2:=y2) (y3:=y3) (y4:=y4) (y5:=y5) (y6:=y6) (y7:=y7) (y8:=y8) (y9:=y9) (y10:=y10) (y11:=y11) (y12:=y12);exact⟨_,_,p,_,_,_,_,_,_,_,_,_,_,_,_,rfl,q⟩) ⟨X9,X9,X9,X9,X9,X9,X9,X9,X9,X9,X9,X9,rfl,λc r=>by cases r⟩
 refine⟨a,?_⟩;show fin (m_ (vM (rU (b_ (l_ AL (b_ (dC (.int 1)) (b_ (l_ AJ (b_ (l_ qt (b_ (a_ 0) c_)) (b_ (dC (.int ((5:Nat):Int))) c_))) c_))) c_)) (.one 1) (F9 Pt)) (pU (dC (.bl YP))) [A,X9,X9,X9,X9,X9,X9,X9,X9,X9,X9,X9,X9,b] [])=_;rw[r_ l];rfl
end K10
open PySem PySem.W PyProof.Rows
set_option maxRecDepth 100000 in
set_option maxHeartbeats 0 in
theorem PySem.Challenge.cw_leastterms_k10_whole_sweeps_keep_the_lea_holds : PySem.Challenge.rw_leastterms_k10_whole_sweeps_keep_the_lea.Holds := by
 w_on;refine mx K10.ws fun KU=>?_;refine PySem.W.holds_openX (q:=K10.Qv) (loose:=K10.Lv) (N:=3646) (Xt:=K10.Xv) (XP:=PySem.W.XL K10.Qv []) (Yf:=(fun s=>(PySem.W.Hook.obs K10.Hk s,decide (0<s.toks)))) (Ya:=(fun w=>(PySem.W.Hook.val K10.Hk w,true))) K10.lw (fun s e=>PySem.W.xl_of s (i3.mp e).1) PySem.W.XL.keeps (by rfl) (by rfl) (by rfl) (fun s e=>PySem.W.recFacts_of (i3.mp e).2) (by rfl) (by first|assumption|decide +kernel) (by decide +kernel) ⟨rfl,rfl,rfl,rfl,rfl,by decide +kernel⟩ ?hw ?hc;(case hw=>w_witness2)
 delta K10.Hk;k_fill
 refine DL.walkU (xd := "covers") (l:=PySem.Challenge.rw_leastterms_k10_whole_sweeps_keep_the_lea) (k:=28) (x := "_law_script") (F:=K10.F_law) rfl rfl ⟨rfl,by decide,by decide⟩ (PySem.W.Hook.of K10.Hk) (PySem.W.Hook.keeps K10.Hk) (fun w h Y=>PySem.W.km_in_of Y) ?R ?F K10.pure_law
 case R=>first|rfl|kernel_rfl
 case F=>
  intro w mg fa h KX G EX
  refine' K10.all_mk KX G EX ⟨'9','9','9','9','9','9','9','9','9','9','9','9','9','9','9','9','9','9','9','9','9','9','9','9','9','9','9','9','9','9','9','9','9','9','9','9','9','9','9','9','9','9','9','9',bQ KX G ?_,bQ KX G ?_,bQ KX G ?_,bQ KX G ?_,bQ KX G ?_,bQ KX G ?_,bQ KX G ?_,bQ KX G ?_,bQ KX G ?_,bQ KX G ?_,bQ KX G ?_,bQ KX G ?_,bQ KX G ?_,bQ KX G ?_,bQ KX G ?_,K10.gs_mk KX G ?_,K10.gt_mk KX G ?_ ?_ ?_ ?_⟩ ?Ha ?Hl ?_ ?_ ?Ha2 ?Hl2 ?_ ?_ ?Gh4 ?Gh5 ?_
  (case' Ha|Hl|Ha2|Hl2|Gh4=>k_is)
  (case Gh5=>rfl)
  all_goals first|k_is|kernel_rfl|rfl|skip
end
