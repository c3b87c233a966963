import PyProof.Rows.All
import Wide.All
import OpenK.AllK
import Wide.FinOn
import Lean
import PyProof.EqAt
import PyProof.EqKinds
import PyProof.TupleCall
import PySem.Challenge.RW_leastterms_k93_lines_that_are_none
noncomputable section
set_option compiler.extract_closed false
set_option tactic.hygienic false
set_option bootstrap.genMatcherCode false
set_option Elab.async false
set_option linter.all false
set_option autoImplicit true
set_option relaxedAutoImplicit true
set_option maxRecDepth 100000
open PySem renaming wpAny_bind->aa,Value->ae,Addr->af,Shared->aj,wpAny_pure->ak,wpAny->am,Str->ao,model->aq,starEach->au,Program->aE,World->aG,Heap->aJ,sizeLine->aK,Around->aY,Expr->aZ,mem_of_lookup->be,bootBuiltins->bi,mainGlobals->bt,foldedSetIterable->bw,rawInt->bB,wpAny_field->bC,wpAny_holding->bD,wpAny_call_entry->bF,importedModules->bM,Paired->bP,wpAny_mono->bQ,cellsFrom->bX,wpAny_newObj_type->cb,wpAny_callSpecial?_slot->cm,wpAny_setField_rec->cx,Scope->cC,Comprehension->cD,compareOp->cK,Stmt->cN,wpAny_truthy_bool->cO,FuncData->cV,wpAny_rule->dh,wpAny_Call_Name_kw->dk,Keyword->dB,codeAny_mono->dG,Builtin->dN,PyData->d9,OsState->ee,wpAny_askSetting->ef,wpAny_setField->ei,wpAny_passesOwn->eC,wpAny_standAt->eH,wpAny_setState_of->eM,binaryOp->eU,wpAny_execs_nil->fb,Arguments->fc,wpAny_updateSeq->fg,wpAny_pyIter_list->ft,wpAny_seqItems->fz,wpAny_tryCatch->fC,wpAny_execs_cons->fH,NameKind->fK,wpAny_attempt->fR,wpAny_newList->fT,plainId_quiet->fU,codeAny_builtin->f7,Params->f8,IsPart->gf,wpAny_pyIter_tuple->gh,IsEnum->gi,BindsTo->gk,wpAny_call->gm,wpAny_letGo->gN,wpAny_Name->h9,wpAny_loadName_local->ic,assignEach->ie,wpAny_with_toks->ig,wpAny_typeOf->im,typeIs_str->io,call_meets->ip,wpAny_specialOf->iq,pushCells_keeps->ir,wpAny_loadName_cell->iC,wpAny_setEntries_of->iF,wpAny_newTuple->iN,ElemsOf->iQ,PassesOwn->iW,concat_meets->iY,swapsWithSole->i9,swappedStores->ja,wpAny_newFunctionEnv_cells->jb,wpAny_assign_Name->ji,wpAny_pyIter_slot->jo,fits_of_scanBound->jq,Model->jt,wpAny_eqBool_str->jz,noFill_tuple_add->jB,wpAny_getItem_of->jC,wpAny_isInstance->jF,codeAny_of_tree->jS,DictEntry->jV,sizeLine_eq->j3,wpAny_Call_method_late->j7,wpAny_of_eq->j9,wpAny_isTrue_Compare1->km,codeAny_call_function->kr,exec_Assign_Name_used->kB,intText?->kC,builtinLookup_eq_fast->kN,wpAny_load->kP,wpAny_newFunctionEnv->kS,seq_tuple_add->k7,wpAny_loadName_free->lg,nums_intItems->lm,Within->lz,pushCells->lH,GenState->mi,SetTable->ms,call->mD,KeyKind->mS
open Option renaming some->Qg,none->Qn
open Bool renaming true->Qo,false->Qp
abbrev Qs:=@if_pos
abbrev Qu:=@if_neg
open PyProof.Rows renaming arrOf->Qw
open PyProof.Rows renaming pendingOf->Qz
local macro_rules|`(⇑$e)=>`(by simpa using $e)
local macro_rules|`('1')=>`(by walk_at "e")
local macro_rules|`('2')=>`(by walk_at "s")
local macro_rules|`('3')=>`(by walk_at "le")
local macro_rules|`('4')=>`(by walk_at "a")
local macro_rules|`('5')=>`(by walk_at "i")
local macro_rules|`('6')=>`(by walk_at "g")
local macro_rules|`('7')=>`(by walk_at "fs")
local macro_rules|`('8')=>`(by walk_at "cs")
local macro_rules|`('9')=>`(by walk_at "t")
local macro_rules|`('0')=>`(by walk_at "ss")
local macro_rules|`('d')=>`(by lia)
local macro_rules|`('k')=>`(by simp)
local macro_rules|`('u')=>`(by kernel_rfl)
local macro_rules|`('b')=>`(by decide)
local macro_rules|`('c')=>`(by decide +kernel)
open PySem.W renaming Frag->ag,kitOne->aH,fnOf->a8,findIn->bu,mg_of->bA,mg_none_of->bH,keepIn->bN,boot_heap->bU,kla_fn->b9,codeIn->cg,InstAt->cA,emptyDict->cZ,instObj->dP,exmOne->el,tabIn->eI,cellsFrom_some->fk,nsIn->fy,plainGet->fJ,callWith_K->gc,noTabs->gq,hasDictIn->gE,specialIn->gF,mroIn->gR,methodCall_KW->hJ,isFn->ii,plainGet_of->iD,SharedT->iH,lookIn->iJ,plainOver->jj,OpenLaw->jl,FnAt->jE,takerIn->jN,makesIn->jO,takesIn->jP,kia_one->jU,kla_obj->jW,looks_findIn->j4,tabObj->kE,boot_drawn->kO,kla_codeExpr->kT,ofPys->k8,excIn->lc,callWith_K0->lh,boot_toks->lp,codeRec_of->lD,ofPy->lF,holds_law->lR,kitx_none->lW,kitx_bool->lX,kitx_list->lY,kitx_dict->lZ,handedIn->mj,WalkX->my,CodeHd->mJ,tab_of->mQ,clsIn->mU
open False renaming elim->ah
open PySem.Heap renaming get?_push_of_some->ai,get?_push_size->aA,lt_size->aC,get?_update_other->bg,get?_update_self->bj,SameBut->cn,size_push->cB,size_update->fO,get?_none_of_le->h8,ExtBut->iU
open List renaming getElem?_eq_some_iff->al,mem_cons_of_mem->ar,mem_cons->av,mem_append_right->ax,getElem?_eq_getElem->aB,getElem?_append_left->aD,length_append->aI,mem_cons_self->aL,size_toArray->aM,replicate->aN,mem_append->aO,getElem?_set_ne->aQ,mem_of_getElem?->aR,length_map->aW,getElem?_set_self->aX,length_cons->a7,getElem?_eq_none_iff->ba,append_assoc->bd,getElem?_append_right->bh,mem_map->bz,getElem?_map->bE,pairwise_cons->bG,length_take->bK,length_drop->bR,pairwise_append->bT,append_nil->cf,take_append_drop->ci,mem_append_left->cr,mem_of_mem_take->cu,take_of_length_le->cy,mem_singleton->cz,all_eq_true->cE,perm_append_comm->cG,take_sublist->cI,getD_eq_getElem?_getD->cJ,nodup_cons->cL,mem_of_mem_drop->cM,drop_sublist->cP,range->de,find?_cons->dg,drop_eq_getElem_cons->dj,map_cons->dr,mem_iff_getElem->dD,filterMap_cons->dF,lookup_cons->dM,drop_drop->dO,length_set->dS,drop_append_of_le_length->d6,getElem?_replicate->d7,length_eq_zero_iff->d8,lookup->eu,drop_of_length_le->ez,map_append->eF,pairwise_iff_getElem->eR,getElem?_take_of_lt->eV,map_map->eZ,nodup_append->fq,take_take->fA,contains_iff_mem->fB,not_mem_nil->fM,getElem_mem->fN,mem_reverse->fP,foldl_cons->fZ,mem_filterMap->f9,filter_cons_of_neg->gA,filter_cons_of_pos->gC,flatMap_cons->gG,not_lt->gO,findIdx?_eq_some_iff_getElem->gP,any_cons->gT,filter_cons->gW,any_eq_true->gX,length_singleton->hO,length_filter_le->hU,of_mem_zip->ik,nil_append->iu,map_congr_left->iG,mem_range->iI,lt_irrefl->iP,getElem?_take->iZ,zip_cons_cons->i5,getElem?_take_eq_none->jf,lt_trans->jg,length_eraseIdx_of_lt->jh,flatten_cons->jp,pairwise_map->jr,extract_eq_take_drop->jw,getElem_inj->jA,cons_append->jD,le_antisymm->jH,pairwise_singleton->jL,length_nil->jQ,forIn_cons->jR,length->j5,length_replicate->kn,getElem?_toArray->kA,take_succ->kH,drop_zero->kI,cons_lt_cons_iff->kK,getElem_of_mem->ll,reverse_cons->lS,getElem_take->l7,getElem_drop->l8,reverse_perm->l9,ext_getElem?->ma,zipIdx_cons->mm,all_toArray->mn,getElem_map->mr,isEmpty_nil->mw,drop_length->mx,mem_filter->mC,length_zip->mF,drop_take->mK,drop_left->mL,take_left->mM,nodup_nil->mP,take_add->mV
open Array renaming length_toList->aw,getElem?_eq_getElem->aS,toList_append->bI,size_push->bZ,getElem?_toList->cT,perm_iff_toList_perm->cX,getElem?_eq_some_iff->dL,toList_push->d0,getElem_toList->eS,size_append->fu,map->fF,getElem?_setIfInBounds_self->gM,toList_setIfInBounds->je,mk->jy,size_setIfInBounds->jG,getElem?_eq_none->kl,size_map->kJ,toList_extract->kU,toList_reverse->kW,append_assoc->lA,toList_inj->mo,toList_map->mq,size_zip->mO,toList->mY
open Nat renaming le_refl->ay,le_trans->aP,lt_of_lt_of_le->aV,ne_of_lt->bb,lt_irrefl->bV,lt_succ_self->cj,zero_le->cH,succ_pos->cR,lt_succ_of_lt->c8,zero_max->dq,add_sub_cancel_left->dE,le_succ->dH,ne_of_gt->dQ,min_eq_left->fh,le_of_lt->fx,le_of_ble_eq_true->fD,le_add_right->fL,le_of_eq->ij,lt_of_le_of_lt->i0,not_lt->kQ,add_assoc->le,sub_self->lJ,zero_add->lK,le_of_succ_le->lU,one_ne_zero->mG
open PyProof.Rows renaming wpS_bind->az,wpS_pure->aF,KeyKind->aT,envOfC->aU,Keyed->a9,SortSt->bS,slot_tuple_getitem->cq,wpS_forRange->dI,wpS_mono->dW,wpS_modify->eQ,StrsAre->fo,AllBare->fw,callWith_type1->fE,wpS_get->fV,recsOf->fW,listUpdate_at->gU,listItems_at->ix,KeysOf->iE,wpS_lift->iO,seqEpoch_at->iV,SortedToK->i4,KK_mirror_equal->jX,entry_list_sort->jY,subscriptTail_builtinR->j6,wpS_reverse->kh,IntsAre->ku,slot_list_sort->kL,args_list_sort->kM,strKind_oneLt->lf,entry_tuple_getitem->li,args_tuple_getitem->lE,plain_sorted->lL,entry_sorted->lN,args_sorted1->lO,kind_sorted->mh,Call_->m9
open Bool renaming false_ne_true->bo,and_eq_true->ck,false_eq_true->cU,and_eq_true_iff->iz,not_eq_true'->jn,eq_iff_iff->mE,false_or->mT
open PySem.Builtin.Str renaming occurrences->bq,partsBetween->jJ,strKind->ln
open PySem.Obj renaming mapSeq->br,data_mapFields->cw,isFreed_of_fields->cS,mapFields->e9,cls_mapFields->jm,putSet->kY
open PySem.Value renaming ref->bJ,none->bW,type->dJ,isStrOf->eG,builtin->e8,isInt->gH,isStrOf_shape->iB,int->lq,str->lr,bool->mB
open Option.some renaming inj->bL
open Ne renaming symm->bO
open PySem.Heap.SameBut renaming update->cF
open PySem.NameKind renaming free->cQ,cell->cW
open PySem.F renaming plain_min_loop->cY,slot_str_ascii_iterator_next->dU,slot_enumerate_next->eD,slot_tuple_iterator_next->eJ,slot_NoneType_hash->fQ,slot_dict_getitem->fY,args_tuple_add_2->ge,slot_str_split->gr,entry_tuple_add->gu,plainAttrs_list->gz,slot_tuple_add->gJ,plainAttrs_str->gL,entry_min_loop->gQ,args_str_ascii_iterator_next_1->gZ,entry_str_ascii_iterator_next->hV,args_tuple_iterator_next_1->iM,entry_tuple_iterator_next->i3,args_str_split_2->i7,excBase_ValueError->jd,entry_str_split->js,slot_dict_delitem->ju,args_enumerate_next_1->jK,slot_list_index->jM,entry_enumerate_next->kg,slot_list_append->kz,slot_enumerate_iter->kF,slot_list_extend->kG,attr_ValueError->lT
open PySem.Str renaming ofString->c9
open PySem.Builtin.SmallTypes renaming nextOf->di,ownedTupleHandOut->gj,ownedTupleIsFree->gp
open True renaming intro->dR
open List.Pairwise renaming nil->dZ
open List.Perm renaming refl->eo,append_left->eE
open PySem.SetTable renaming below->er,grown->eT,fits->mX
open And renaming intro->eB
open Int renaming toNat_natCast->eL
open PySem.Builtin.Slice renaming slicePlaces->eN,sliceAdjust->fX
open PySem.PyData renaming eqv->eO,canLay0->iK,depthAll->jT,depth->lI,canLayAll0->lV,list->me
open ForInStep renaming yield->fe
open PySem.Txt renaming split->fi
open Option renaming map_eq_some_iff->fj,isSome_iff_exists->gd,none->iS,isSome_some->lG,getD_none->ml,map->mz
open PyProof.Rows.KeyOrd renaming kle_of_klt->fv,kle_trans->g7
open Prod renaming ext->fG
open PySem.Calls renaming call_function_entry->f6,evalArgs_plain->gK,spliced_cons->iX,Name_function_global->i8,spliced_nil->jk,callWith_builtin->j8
open PySem.Builtin.List renaming listTooLong->gg,listSameRef->jI,listItems->ki
open Sum renaming inl->g8,inr->g9
open PySem.Around renaming frames_deeper->il,under_plainId->iy,under->lB
open Array.Perm renaming refl->iw
open PySem.SeqAt renaming readOf->iA,shaped->mZ
open PySem.Builtin.Builtins renaming bindParams->i6
open PySem.Builtin.Tuple renaming tupleItemsOf->jc
open PySem.Builtin.ObjectAttr renaming bindTo->jv
open Classical renaming byContradiction->jx
open PySem.PassesOwn renaming never->jZ
open Prod.mk renaming inj->j0
open PySem.Walks renaming list->kR
open PyProof.Rows.SortSt renaming mk'->kX
open PySem.Paired renaming length->kZ
open PySem.Code renaming compLoop->k9,isFrame->lC,compStart->mI
open PySem.EntryCells renaming newEntry->lj
open PySem.SeqAt.EqAt renaming int_str->lu,str_int->lv
open PySem.pickOrder renaming go->lP
open Nat.succ renaming inj->lQ
open PySem.Heap.DictOf renaming mapOf->l5
open PySem.SetTable.below renaming go->md
open PySem.W.LeftO renaming of_split->mH
open PySem.W.WData renaming int->mR
open PySem.Builtin.Frozenset renaming oneOther->mW,addrOf->m8,slot0->ng
open PySem.Flow renaming ret->m7
open PySem.W.OpenRow renaming toRowW->nj
open Sum.inr renaming inj->nk
open PySem.Shared renaming heap->nq
open PySem.Heap.IsSliceOf renaming new->nr
namespace K93
open PySem PySem.W
noncomputable def ty(i:Nat):cN:=PySem.Challenge.pw_leastterms_k93_lines_that_are_none.main.body.getD i<|.Pass ⟨0,0,0,0⟩
def Qv:aE:={ PySem.Challenge.pw_leastterms_k93_lines_that_are_none with main:={ PySem.Challenge.pw_leastterms_k93_lines_that_are_none.main with body:=[ty 1,ty 2,ty 3,ty 4,ty 5,ty 6,ty 7,ty 8,ty 9,ty 10,ty 12,ty 13,ty 15,ty 16,ty 17,ty 18,ty 19,ty 20,ty 22,ty 23,ty 24,ty 25,ty 26,ty 27,ty 28,ty 29,ty 30,ty 32,ty 33,ty 34,ty 35,ty 36,ty 37,ty 38,ty 40,ty 41,ty 42,ty 43,ty 44,ty 45,ty 46,ty 47,ty 49,ty 50,ty 51,ty 53,ty 54,ty 55,ty 56,ty 57,ty 58,ty 59,ty 61,ty 62,ty 63,ty 64,ty 65,ty 66,ty 67,ty 68,ty 69,ty 70,ty 71,ty 72,ty 73,ty 75,ty 76,ty 77] } }
def Lv:List ao:=[c9 "SWITCHES_BY_POINTS",c9 "SIGN_BY_ANSWER",c9 "ANSWER_BY_SIGN",c9 "ANSWER_BY_WORD",c9 "QUESTIONS"]
def Xv:aj → Bool:=λs=>PySem.W.xlAt Qv [] s&&PySem.W.recOk (PySem.W.RowW.records<|nj PySem.Challenge.rw_leastterms_k93_lines_that_are_none.row) s
def bY{α β a:Type}{x:Option α}{f:α → β}{g:α → a}{b:β}{c:a}(d:x.map f=Qg b)(e:x.map g=Qg c):x.map (λs=>(f s,g s))=Qg (b,c):=by
  cases x with
  |none=>cases d
  | some s=>
    have h:f s=b:=bL d;have i:g s=c:=bL e;show Qg (f s,g s)=_;rw[h,i]
end K93
section
open PySem PySem.W PyProof.Rows
set_option maxRecDepth 100000 in
def K93.ws:PySem.Challenge.rw_leastterms_k93_lines_that_are_none.wellSaid=Qo:=by kernel_rfl
local macro_rules|`(tactic| o_head $H)=>`(tactic| skip)
set_option maxRecDepth 100000 in
set_option maxHeartbeats 0 in
def K93.hp:False → PySem.Challenge.rw_leastterms_k93_lines_that_are_none.Holds:=by
  intro a
  w_on;refine lR K93.ws λb=>?_;k_head
  all_goals exact a.elim
end

namespace DLT
open PySem PySem.W
noncomputable def oi(tb:String → Option dN)(p:aE)(w:aG)(m:Nat)(an:Option ae):Nat → iH → Thread → Option iH
  |0,_,_=>Qn
  | k+1,a,th=>match through th with
    |true=>Qg a
    | false=>match stepOk m an th with
      |false=>Qn
      | true=>match stepT (denote tb) p w a th with
        |some (b,E_)=>oi tb p w m an k b E_
        |none=>Qn
theorem oB{d:String → Option dN}{p:aE}{w:aG}{m:Nat}{e:Option ae}:∀{k:Nat}{a z:iH}{c:Thread},oi d p w m e k a c=Qg z → topRun d p w m e k a.abs c=Qg z.abs
  |0,_,_,_,H=>by cases H
  | k+1,a,z,c,H=>by
    unfold oi at H;unfold topRun;cases g:through c with
    |true=>rw[g] at H;cases H;rfl
    | false=>
      rw[g] at H;cases h:stepOk m e c with
      |false=>rw[h] at H;cases H
      | true=>
        rw[h] at H;cases f:stepT (denote d) p w a c with
        |none=>rw[f] at H;cases H
        |some q=>obtain⟨b,i⟩:=q;rw[f] at H;rw[stepT_spec f];exact oB H
noncomputable def oy(p:aE)(w:aG)(m:Nat)(an:Option ae):Nat → iH → Thread → Option iH
  |0,_,_=>Qn
  | k+1,a,th=>match through th with
    |true=>Qg a
    | false=>match Fast.tw6613529449190102663 m an th with
      |false=>Qn
      | true=>match Fast.tw10156331382660048174 (Fast.tw11892475500146522536 Fast.tw14364793385576792824) p w a th with
        |some (b,E_)=>oy p w m an k b E_
        |none=>Qn
theorem oj{p:aE}{w:aG}{m:Nat}{c:Option ae}:∀{k:Nat}{a:iH}{b:Thread},oy p w m c k a b=oi treeTable p w m c k a b
  |0,_,_=>rfl
  | k+1,a,b=>by
    unfold oy oi;rw[← Fast.te6613529449190102663,← Fast.te10156331382660048174,← Fast.te11892475500146522536,← Fast.te14364793385576792824];cases through b with
    |true=>rfl
    | false=>
      dsimp only;cases stepOk m c b with
      |false=>rfl
      | true=>
        dsimp only;cases stepT (denote treeTable) p w a b with
        |none=>rfl
        |some q=>exact oj
def oE:Nat → BT → List Obj → BT
  |_,T,[]=>T
  |i,T,o::os=>oE (i+1) (T.ins i o) os
noncomputable def om(P:f8):BT:=oE 0 .nil (bU P).objs.toList
def boot_abs:∀P:f8,absHeap (om P) (bU P).objs.size (bU P).life=bU P:=λP=>by kernel_rfl
noncomputable def B9(P:f8)(os:ee):iH:=⟨om P,(bU P).objs.size,(bU P).life,jy [],kO,lp,os⟩
noncomputable def s0(P:f8)(os:ee):aj:=⟨bU P,jy [],kO,lp,os⟩
def oH(P:f8)(a:ee):(B9 P a).abs=s0 P a:=by unfold B9 s0 SharedT.abs;rw[boot_abs P]
def oC:∀P:f8,((bU P).isNs bt&&(jy []:Array mi).size==0,(bU P).objs.size,(bU P).nsMap bt "__annotations__")=(Qo,11,Qg<|.ref 6):=λP=>by kernel_rfl
def chk(p:aE)(h:aJ)(s:aj):Bool:=staticsOk (bM p.main.body) h s.heap&&namesBound p s.heap&&gensDone s&&laidKept h s.heap
def ou{p:aE}{w:aG}{P:f8}{b:ee}{N:Nat}{α:Type}{f:aj → α}{a:α}(h:(oi treeTable p w 11 (Qg<|.ref 6) N (B9 P b)<|topStub p).map (λs=>(chk p (bU P) s.abs,f s.abs))=Qg (Qo,a)):(topFrom treeTable p w N<|s0 P b).map f=Qg a:=by
  obtain⟨s,e,d⟩:=fj.mp h;have r:=oB e;rw[oH] at r;obtain⟨g,i,j⟩:_ ∧ _ ∧ _:=by simpa only[Prod.mk.injEq] using oC P
  obtain⟨k,l⟩:=j0 d;unfold topFrom;show mz f (match (bU P).isNs bt&&(jy []:Array mi).size==0 with
    | true=>(topRun treeTable p w (bU P).objs.size ((bU P).nsMap bt "__annotations__") N (s0 P b)<|topStub p).bind λc=>match chk p (bU P) c with
      |true=>Qg c
      |false=>Qn
    |false=>Qn)=Qg a
  rw[g,i,j,r];show mz f (match chk p (bU P) s.abs with
      |true=>Qg s.abs
      |false=>Qn)=Qg a
  rw[k];exact congrArg Qg l
noncomputable abbrev R(p:aE)(N:Nat)(w:aG)(P:f8)(os:ee):Option iH:=oy p w 11 (Qg<|.ref 6) N (B9 P os)<|topStub p
def on{p:aE}{w:aG}{P:f8}{b:ee}{N:Nat}{α:Type}{f:aj → α}{a:α}(h:(R p N w P b).map (λs=>(chk p (bU P) s.abs,f s.abs))=Qg (Qo,a)):(topFrom treeTable p w N<|s0 P b).map f=Qg a:=ou (by rw[← oj];exact h)
def oJ{α β a e:Type}{x:Option α}{f:α → β×a}{g:α → e}{b:β}{c:a}{d:e}(h:x.map (λs=>((f s).1,g s))=Qg (b,d))(i:x.map (λs=>(f s).2)=Qg c):x.map (λs=>(f s,g s))=Qg ((b,c),d):=by
  cases x with
  |none=>cases h
  | some s=>
    obtain⟨j,k⟩:=j0<|bL h;have l:(f s).2=c:=bL i;exact congrArg Qg<|fG (fG j l) k
def left_of{p q:aE}{loose:List ao}{Xt:aj → Bool}{α:Type}{Yf:aj → α}{Ya:aG → α}{N:Nat}{b:Bool}(a:String)(e:opening p=plainProg p.main.scope.names)(i:Nat.ble 600 N=Qo)(j:∀s,fenceModules? p s=Qg s)
    (l:∀(v:Bool)(w:aG)(c:ee),(R p N (w.withFollow a v) w.params c).map (λs=>(chk p (bU w.params) s.abs,((openSeen q loose (bM p.main.body) Xt b s.abs).1,Yf s.abs)))=Qg (Qo,(openGood q loose).1,Ya<|w.withFollow a v))
    (m:∀(v:Bool)(w:aG)(c:ee),(R p N (w.withFollow a v) w.params c).map (λs=>(chk p (bU w.params) s.abs,(openSeen q loose (bM p.main.body) Xt b s.abs).2))=Qg (Qo,(openGood q loose).2)):
    LeftO p q loose Xt Yf Ya N b:=mH a λw=>by
  obtain⟨⟨h,n,d,k,c⟩,x,y⟩:=fj.mp<|boot_open e i j w;obtain⟨rfl,rfl,rfl,rfl⟩:h=bU w.params ∧ n=jy [] ∧ d=kO ∧ k=lp:=⇑y
  rw[x];have go (v:Bool):(topFrom treeTable p (w.withFollow a v) N<|s0 w.params c).map (λs=>(openSeen q loose (bM p.main.body) Xt b s,Yf s))=Qg (openGood q loose,Ya<|w.withFollow a v):=
    oJ (f:=λs=>openSeen q loose (bM p.main.body) Xt b s) (g:=Yf) (on (f:=λs=>((openSeen q loose (bM p.main.body) Xt b s).1,Yf s))<|l v w c) (on (f:=λs=>(openSeen q loose (bM p.main.body) Xt b s).2)<|m v w c)
  exact congrArg Qg (fG (go Qp)<|go Qo)
noncomputable def sn{α β:Type}(p:α×β):β:=Prod.casesOn p λ_ b=>b
def P6{p q:aE}{loose:List ao}{Xt:aj → Bool}{α:Type}{Yf:aj → α}{Ya:aG → α}{N:Nat}{j:Bool}(g:String)(e:opening p=plainProg p.main.scope.names)(l:Nat.ble 600 N=Qo)(m:∀s,fenceModules? p s=Qg s)
    (n:∀(v:Bool)(w:aG)(i:ee),(R p N (w.withFollow g v) w.params i).map (λs=>(chk p (bU w.params) s.abs,(openSeen q loose (bM p.main.body) Xt j s.abs).1))=Qg (Qo,(openGood q loose).1))
    (o:∀(v:Bool)(w:aG)(i:ee),(R p N (w.withFollow g v) w.params i).map (λs=>((openSeen q loose (bM p.main.body) Xt j s.abs).2.1,(openSeen q loose (bM p.main.body) Xt j s.abs).2.2.1))=Qg (bltViewBooted,Qo))
    (t:∀(v:Bool)(w:aG)(i:ee),(R p N (w.withFollow g v) w.params i).map (λs=>sn<|sn (sn<|openSeen q loose (bM p.main.body) Xt j s.abs))=Qg (openGood q loose).2.2.2)
    (u:∀(v:Bool)(w:aG)(i:ee),(R p N (w.withFollow g v) w.params i).map (λs=>Yf s.abs)=Qg (Ya<|w.withFollow g v)):
    LeftO p q loose Xt Yf Ya N j:=mH g λw=>by
  obtain⟨⟨h,A,d,k,i⟩,x,y⟩:=fj.mp<|boot_open e l m w;obtain⟨rfl,rfl,rfl,rfl⟩:h=bU w.params ∧ A=jy [] ∧ d=kO ∧ k=lp:=⇑y
  rw[x];have go (v:Bool):(topFrom treeTable p (w.withFollow g v) N<|s0 w.params i).map (λs=>(openSeen q loose (bM p.main.body) Xt j s,Yf s))=Qg (openGood q loose,Ya<|w.withFollow g v):=by
    obtain⟨s,r,a⟩:=fj.mp<|n v w i;have b:=o v w i;have c:=t v w i;have d:=u v w i;rw[r] at b c d;obtain⟨B,C⟩:=j0 a;obtain⟨E,G⟩:=j0<|bL b;refine ou (f:=λs=>(openSeen q loose (bM p.main.body) Xt j s,Yf s)) ?_;rw[show oi treeTable p (w.withFollow g v) 11 (Qg<|.ref 6) N (B9 w.params i) (topStub p)=Qg s from oj.symm.trans r];exact congrArg Qg<|fG B (fG (fG C<|fG E (fG G<|bL c))<|bL d)
  exact congrArg Qg (fG (go Qp)<|go Qo)
end DLT

namespace K93
open PySem PySem.W
abbrev As:List af:=[2,3,15,22,23,24,25,28,35,36,37,40,47,48,49,52,59,60,61,64,71,72,73,76,83,84,85,88,95,96,97,100,107,108,109,112,119,120,121,124,131,132,133,136,138,139,141,142,143,145,146,148,149,150,151,153,154,156,157,158,161,162,163,165,166,168,169,170,172,173,175,176,177,180,181,182,185,186,187,189,190,192,193,194,197,198,199,201,202,204,205,206,209,210,211,213,214,216,217,218,220,221,223,224,225,228,229,230,233,234,235,238,239,240,242,243,245,246,247,250,251,252,254,255,257,258,259,262,263,264,267,268,269,272,273,274,277,278,279,282,283,284,287,288,289,292,293,294,296,297,299,300,301,303,304,306,307,308,310,311,313,314,315,318,319,320,323,324,325,327,328,330,331,332,333,334,337,338,339,341,342,344,345,346,349,350,351,354,355,356,357,359,360,362,363,364,366,367,369,370,371,373,374,376,377,378,380,381,383,384,385,387,388,390,391,392,394,395,397,398,399,400,402,403,405,406,407,410,411,412,414,415,417,418,426,428,429,431,432,433,435,436,438,439,440,442,443,445,446,447,449,450,452,453,454,456,457,459,460,461,462,463,464,465,468,471,472,473,475,476,478,479,480,483,484]
noncomputable def Hk:PySem.W.Hook:=PySem.W.kmHook K93.hp.heap_1 K93.As (λ_=>by kernel_rfl) [280,481]
abbrev Pg:aE:=PySem.Challenge.rw_leastterms_k93_lines_that_are_none.row.prog
set_option maxRecDepth 100000 in
def la1:∀(w:aG)(a:ee),(DLT.R Pg 8610 (w.withFollow "special-get-raises" Qp) w.params a).map (λs=>(DLT.chk Pg (bU w.params) s.abs,((openSeen Qv Lv (bM Pg.main.body) Xv Qo s.abs).1,(Hk.obs s.abs,decide<|0<s.abs.toks))))=Qg (Qo,((openGood Qv Lv).1,(Hk.val<|w.withFollow "special-get-raises" Qp,Qo))):=λw a=>by kernel_rfl
set_option maxRecDepth 100000 in
def Fm:∀(w:aG)(a:ee),(DLT.R Pg 8610 (w.withFollow "special-get-raises" Qp) w.params a).map (λs=>(DLT.chk Pg (bU w.params) s.abs,(openSeen Qv Lv (bM Pg.main.body) Xv Qo s.abs).2))=Qg (Qo,(openGood Qv Lv).2):=λw a=>by kernel_rfl
set_option maxRecDepth 100000 in
def lb1:∀(w:aG)(a:ee),(DLT.R Pg 8610 (w.withFollow "special-get-raises" Qo) w.params a).map (λs=>(DLT.chk Pg (bU w.params) s.abs,((openSeen Qv Lv (bM Pg.main.body) Xv Qo s.abs).1,(Hk.obs s.abs,decide<|0<s.abs.toks))))=Qg (Qo,((openGood Qv Lv).1,(Hk.val<|w.withFollow "special-get-raises" Qo,Qo))):=λw a=>by kernel_rfl
set_option maxRecDepth 100000 in
def lb2:∀(w:aG)(a:ee),(DLT.R Pg 8610 (w.withFollow "special-get-raises" Qo) w.params a).map (λs=>(DLT.chk Pg (bU w.params) s.abs,(openSeen Qv Lv (bM Pg.main.body) Xv Qo s.abs).2))=Qg (Qo,(openGood Qv Lv).2):=λw a=>by kernel_rfl
def lw:PySem.W.LeftO Pg Qv Lv Xv (λs=>(Hk.obs s,decide<|0<s.toks)) (λw=>(Hk.val w,Qo)) 8610:=DLT.left_of "special-get-raises" rfl rfl (λ_=>rfl) (λv=>match v with|false=>la1|true=>lb1) (λv=>match v with|false=>Fm|true=>lb2)
end K93

abbrev qB:=List Nat
abbrev o_:=List qB
-- J1: Z6 PH module here, as the last of Py rows
namespace L2
open PySem PySem.Spec PyProof.Rows
abbrev Key:=Sum Int ao
noncomputable def yo:Key->ae->Bool
 |.inl k,v=>gH k v
 |.inr x,v=>eG x v
def J3(w:aG):Key->Int
 |.inl k=>hashInt k
 |.inr x=>hashStr w x
def vw:∀{k}{v},yo k v=Qo->(∃i t,k=g8 i/\v=lq i t)\/(∃x t,k=g9 x/\v=lr x t)
 | .inl i,v,h=>by
  obtain⟨t,e⟩:=Value.isInt_shape h;exact .inl ⟨i,t,rfl,e⟩
 | .inr x,v,h=>by
  obtain⟨t,e⟩:=iB h;exact .inr ⟨x,t,rfl,e⟩
def Hu(i)(t):yo (.inl i) (.int i t)=Qo:=by simp[yo,gH]
def Hy(x)(t):yo (.inr x) (.str x t)=Qo:=by simp[yo,eG]
def Sq(a b):decide ((g8 a:Key)=g8 b)=(a==b):=by
 by_cases e:a=b
 .subst e;simp
 .have h:¬ (g8 a:Key)=g8 b:=λq=>e<|Sum.inl.inj q;rw[decide_eq_false h];exact(beq_eq_false_iff_ne.mpr e).symm
def Sh(a b):decide ((g9 a:Key)=g9 b)=decide (a=b):=by
 by_cases e:a=b
 .subst e;simp
 .have h:¬ (g9 a:Key)=g9 b:=λq=>e<|nk q;rw[decide_eq_false h,decide_eq_false e]
def Sk(a)(b):decide ((g8 a:Key)=g9 b)=Qp:=decide_eq_false (λq=>nomatch q)
def Sf(a)(b):decide ((g9 a:Key)=g8 b)=Qp:=decide_eq_false (λq=>nomatch q)
def u9(prog)(w):mS prog w Key where
 is:=yo
 hash:=J3 w
 inj:=λv a b ha hb=>by
  rcases vw ha with⟨i,t,rfl,rfl⟩|⟨x,t,rfl,rfl⟩
  .rcases vw hb with⟨j,u,rfl,e⟩|⟨y,u,rfl,e⟩
   .injection e with e1 _;rw[e1]
   .exact nomatch e
  .rcases vw hb with⟨j,u,rfl,e⟩|⟨y,u,rfl,e⟩
   .exact nomatch e
   .injection e with e1 _;rw[e1]
 byValue:=λk v h=>by
  rcases vw h with⟨i,t,rfl,rfl⟩|⟨x,t,rfl,rfl⟩<;>rfl
 pyHash:=λhv h=>by
  rcases vw hv with⟨i,t,rfl,rfl⟩|⟨x,t,rfl,rfl⟩
  .exact wpAny_pyHash_int h
  .exact wpAny_pyHash_str h
 eqBool:=λhu hv h=>by
  rcases vw hu with⟨i,t,rfl,rfl⟩|⟨x,t,rfl,rfl⟩
  .rcases vw hv with⟨j,u,rfl,rfl⟩|⟨y,u,rfl,rfl⟩
   .rw[Sq] at h;exact wpAny_eqBool_int h
   .rw[Sk] at h;exact lu i t y u _ _ _ _ h
  .rcases vw hv with⟨j,u,rfl,rfl⟩|⟨y,u,rfl,rfl⟩
   .rw[Sf] at h;exact lv x t j u _ _ _ _ h
   .rw[Sh] at h;exact jz h
 «strs»:=λk x t v h=>by
  rcases vw h with⟨i,u,rfl,e⟩|⟨y,u,rfl,e⟩
  .exact nomatch e
  .injection e with e1 _;subst e1;cases v<;>rfl
def Yw(prog)(w)(i)(t):(u9 prog w).is (.inl i) (.int i t)=Qo:=Hu i t
def X3(prog)(w)(x)(t):(u9 prog w).is (.inr x) (.str x t)=Qo:=Hy x t
inductive V where
 |non|bl (b:Bool)|int (i:Int)|str (x:ao)|byt (b:Array UInt8)|flt (b:UInt64)|ref (a:af)|ty (n:String)
 deriving DecidableEq
def RelV:V->ae->Prop
 |.non,u=>u=bW
 |.bl b,u=>u=mB b
 |.int i,u=>∃t,u=lq i t
 |.str x,u=>∃t,u=lr x t
 |.byt b,u=>∃t,u=Value.bytes b t
 |.flt b,u=>∃t,u=Value.float b t
 |.ref a,u=>u=bJ a
 |.ty n,u=>u=dJ n
abbrev nz:List V->List ae->Prop:=bP RelV
def nz.length{a:List V}{us:List ae}(r:nz a us):a.length=us.length:=kZ r
theorem nz.get:∀{a:List V}{us:List ae}{i:Nat}{x:V},nz a us->a[i]?=Qg x->∃u,us[i]?=Qg u/\RelV x u
 |_,_,_,_,.nil,e=>by simp at e
 |_,_,0,_,.cons r _,e=>by simp at e;subst e;exact⟨_,rfl,r⟩
 | _,_,i+1,x,.cons _ t,e=>by
  obtain⟨u,b,c⟩:=nz.get t ⇑e;exact⟨u,by simpa using b,c⟩
theorem nz.set{x:V}{u:ae}(r:RelV x u):∀{a:List V}{us:List ae}(i:Nat),nz a us->nz (a.set i x) (us.set i u)
 |_,_,_,.nil=>.nil
 |_,_,0,.cons _ t=>.cons r t
 |_,_,i+1,.cons q t=>.cons q<|nz.set r i t
theorem nz.append:∀{a b:List V}{us c:List ae},nz a us->nz b c->nz (a++b) (us++c)
 |_,_,_,_,.nil,s=>s
 |_,_,_,_,.cons r t,s=>.cons r<|nz.append t s
theorem nz.take:∀{a:List V}{us:List ae}(n:Nat),nz a us->nz (a.take n) (us.take n)
 |_,_,0,_=>.nil
 |_,_,_+1,.nil=>.nil
 |_,_,n+1,.cons r t=>.cons r<|nz.take n t
theorem nz.drop:∀{a:List V}{us:List ae}(n:Nat),nz a us->nz (a.drop n) (us.drop n)
 |_,_,0,r=>r
 |_,_,_+1,.nil=>.nil
 |_,_,n+1,.cons _ t=>nz.drop n t
def nR:Option V->Option ae->Prop
 |some v,Qg u=>RelV v u
 |none,Qn=>True
 |_,_=>False
def KV{κ:Type}:List (κ×V)->List (κ×ae)->Prop:=bP λ(p:κ×V)(q:κ×ae)=>p.1=q.1/\RelV p.2 q.2
def kV:Key->V
 |.inl i=>.int i
 |.inr x=>.str x
inductive HO where
 |lst (xs:List V)
 |tup (xs:List V)
 |dK (h_:List (Key×V))|dT (h_:List (List Key×V))
 |set (S:Int->Bool) (n:Nat)
 |ins (C dx:af) (fs:List (ao×V))
 |own (x:af)
 |xd (fs:List (ao×V))
 |met (f x:af)
 |rng (lo hi:Int)
 |frz (o:Obj) (u:HO)
 |tbl (ps:Array ae)
 |ext (φ:aJ->Prop)
abbrev Hp:=af->Option HO
noncomputable def upd(H:Hp)(a:af)(o:HO):Hp:=λb=>if b=a then Qg o else H b
def pK{H:Hp}{a:af}{o:HO}:upd H a o a=Qg o:=by unfold upd;rw[Qs rfl]
def oN{H:Hp}{a b:af}{o:HO}(h:b≠a):upd H a o b=H b:=by unfold upd;rw[Qu h]
def RM{H:Hp}{a b:af}{o u:HO}(h:H a=Qg o)(h':H b=Qg u)(d:o≠u):a≠b:=by intro e;subst e;rw[h] at h';exact d<|bL h'
def qS{H:Hp}{a b:af}{o:HO}(h:H a=Qg o)(h':H b=Qn):a≠b:=by intro e;subst e;rw[h] at h';cases h'
def nW(h:aJ)(a:af)(items:Array ae):Prop:=∃o,h.get? a=Qg o/\o.cls=.type "tuple"/\(∃n,o.data=.seq items n)/\o.dict=Qn
def nW.tup{h:aJ}{a:af}{b:Array ae}(x:nW h a b):IsTup h a b:=let ⟨o,e,c,d,_⟩:=x;⟨o,e,c,d⟩
def nW.new(h:aJ)(a:Array ae):nW (h.push { cls:=.type "tuple",data:=.seq a }) h.objs.size a:=⟨_,aA _ rfl,rfl,⟨_,rfl⟩,rfl⟩
section
variable(P:aE)(w:aG)
def nN(H:Hp)(h:aJ)(a:af):HO->Prop
 |.lst xs=>xs.length<=aK/\∃(f_:List ae)(n:Nat),nz xs f_/\h.get? a=Qg { cls:=.type "list",data:=.seq f_.toArray n }
 |.tup xs=>xs.length<=aK/\∃f_:List ae,nz xs f_/\nW h a f_.toArray
 |.dK h_=>h_.length<=aK/\(a==sysModules)=Qp/\∃vs,KV h_ vs/\h.DictOf (u9 P w) a vs
 | .dT h_=>h_.length<=aK/\(a==sysModules)=Qp/\∃xs:List (List Key×af×ae),
   bP (λ(p:List Key×V)(q:List Key×af×ae)=>p.1=q.1/\H q.2.1=Qg (.tup<|p.1.map kV)/\RelV p.2 q.2.2) h_ xs/\
   ∃o es ep,h.get? a=Qg o/\o.ExactDict/\o.data=.dict es ep/\es.toList=xs.map (entryOfKey (tupleKind<|u9 P w))/\(xs.map (·.1)).Nodup
 |.set S n=>h.SetOf (intKind P w) a S n
 | .ins C dx fs=>H dx=Qg (.own a)/\fs.length<=1000/\dx≠a/\h.get? a=Qg (dP C dx)/\
   ∃mA,h.Ns1 dx mA/\(∀f,nR (fs.lookup f)<|mA f)/\lz mA (fs.map (·.1))
 |.own _=>∃o,h.get? a=Qg o
 |.xd fs=>∃mA,h.Ns1 a mA/\∀f,nR (fs.lookup f)<|mA f
 |.rng lo hi=>∃t u v,h.get? a=Qg { cls:=.type "range",data:=.fields #[.int lo t,.int hi u,.int 1 v] }
 |.frz o u=>h.get? a=Qg o/\nN H h a u
 |.tbl ps=>h.get? a=Qg { cls:=.none,data:=.fields ps }
 |.met f x=>h.get? a=Qg (PySem.W.methodObj (.ref f)<|.ref x)
 |.ext φ=>φ h/\(∃o,h.get? a=Qg o)/\∀h1 h2:aJ,φ h1->(∀o,h1.get? a=Qg o->h2.get? a=Qg o)->φ h2
def HOk(H:Hp)(h:aJ):Prop:=∀a o,H a=Qg o->nN P w H h a o
end
section
variable{P:aE}{w:aG}{H H':Hp}{h h':aJ}{a:af}{o:HO}
def nN.lt(x:nN P w H h a o):a<h.objs.size:=by
 cases o with
 |lst xs=>obtain⟨_,_,_,_,e⟩:=x;exact aC e
 |tup xs=>obtain⟨_,_,_,p⟩:=x;exact(nW.tup p).lt
 |dK h_=>obtain⟨_,_,_,_,o,_,_,e,_⟩:=x;exact aC e
 |dT h_=>obtain⟨_,_,_,_,o,_,_,e,_⟩:=x;exact aC e
 |set S n=>obtain⟨o,_,_,_,e,_⟩:=x;exact aC e
 |ins C dx fs=>obtain⟨_,_,_,e,_⟩:=x;exact aC e
 |own y=>obtain⟨_,e⟩:=x;exact aC e
 |xd fs=>obtain⟨_,⟨_,_,_,e,_⟩,_⟩:=x;exact aC e
 |rng lo hi=>obtain⟨_,_,_,e⟩:=x;exact aC e
 |frz ob u=>obtain⟨e,_⟩:=x;exact aC e
 |tbl ps=>exact aC<|x
 |met f y=>exact aC<|x
 |ext φ=>obtain⟨_,⟨_,e⟩,_⟩:=x;exact aC e
theorem Paired.mapP{α β:Type}{F G:α->β->Prop}:∀{c:List α}{d:List β},bP F c d->(∀a b,F a b->G a b)->bP G c d
 |_,_,.nil,_=>.nil
 |_,_,.cons r t,f=>.cons (f _ _ r)<|Paired.mapP t f
def nN.stay(x:nN P w H h a o)(k:∀b u,(b=a\/H b=Qg (.own a))->h.get? b=Qg u->h'.get? b=Qg u)
  (E:∀b,H b=Qg (.own a)->H' b=Qg (.own a)) (ht:∀b l,H b=Qg (.tup l)->H' b=Qg (.tup l)):nN P w H' h' a o:=by
 induction o with
 |lst l=>obtain⟨z,m,n,r,e⟩:=x;exact⟨z,m,n,r,k _ _ (.inl rfl) e⟩
 |tup l=>obtain⟨z,m,r,g,e,c⟩:=x;exact⟨z,m,r,g,k _ _ (.inl rfl) e,c⟩
 |dK h_=>obtain⟨z,y,G,r,g,i,j,e,c⟩:=x;exact⟨z,y,G,r,g,i,j,k _ _ (.inl rfl) e,c⟩
 | dT h_=>
  obtain⟨z,y,l,r,g,i,j,e,c⟩:=x;exact⟨z,y,l,Paired.mapP r λp q z=>⟨z.1,ht _ _ z.2.1,z.2.2⟩,g,i,j,k _ _ (.inl rfl) e,c⟩
 |set S n=>obtain⟨g,i,j,t,e,c⟩:=x;exact⟨g,i,j,t,k _ _ (.inl rfl) e,c⟩
 | ins C dx fs=>
  obtain⟨d,z,I,e,s,⟨A,i,j,J,c⟩,r⟩:=x;exact⟨E _ d,z,I,k _ _ (.inl rfl) e,s,⟨A,i,j,k _ _ (.inr d) J,c⟩,r⟩
 |own y=>obtain⟨g,e⟩:=x;exact⟨g,k _ _ (.inl rfl) e⟩
 |xd fs=>obtain⟨s,⟨A,i,j,e,c⟩,r⟩:=x;exact⟨s,⟨A,i,j,k _ _ (.inl rfl) e,c⟩,r⟩
 |rng lo hi=>obtain⟨t,u,v,e⟩:=x;exact⟨t,u,v,k _ _ (.inl rfl) e⟩
 |frz g u ih=>obtain⟨e,q⟩:=x;exact⟨k _ _ (.inl rfl) e,ih q⟩
 | tbl ps=>
  have e:=x;exact k a _ (.inl rfl) e
 | met f y=>
  have e:=x;exact k a _ (.inl rfl) e
 |ext φ=>obtain⟨p,⟨o,e⟩,B⟩:=x;exact⟨B _ _ p λo q=>k _ _ (.inl rfl) q,⟨o,k _ _ (.inl rfl) e⟩,B⟩
def HOk.lt(x:HOk P w H h)(e:H a=Qg o):a<h.objs.size:=(x a o e).lt
def HOk.fresh(x:HOk P w H h)(e:h.objs.size<=a):H a=Qn:=by
 cases q:H a with
 |none=>rfl
 |some u=>exact absurd (aV (x.lt q) e)<|bV _
def HOk.kept(x:HOk P w H h)(k:∀b u,h.get? b=Qg u->h'.get? b=Qg u):HOk P w H h':=λa o e=>
 (x a o e).stay (λb u _ q=>k b u q) (λ_ q=>q) λ_ _ q=>q
def HOk.laid(x:HOk P w H h)(k:∀b u,h.get? b=Qg u->h'.get? b=Qg u)(i:h.objs.size<=a)(d:nN P w (upd H a o) h' a o):HOk P w (upd H a o) h':=λb u e=>by
 have f:=x.fresh i;by_cases g:b=a
 .subst g;rw[pK] at e;cases e;exact d
 .rw[oN g] at e;exact(x b u e).stay (λc v _ q=>k c v q) (λc q=>by rw[oN<|qS q f];exact q) λc j q=>by rw[oN<|qS q f];exact q
end
def Rd(H:Hp)(a:af)(u:HO):Prop:=H a=Qg u \/ ∃o,H a=Qg (.frz o u)
def Rd.of(h:H a=Qg u):Rd H a u:=.inl h
def Rd.ok(r:Rd H a u)(x:HOk P w H h):nN P w H h a u:=by
 rcases r with r|⟨o,r⟩
 .exact x a u r
 .obtain⟨_,q⟩:=x a _ r;exact q
noncomputable def Du:Option HO->Prop
 |some (.lst _)=>True
 |some (.dK _)=>True
 |some (.dT _)=>True
 |some (.set _ _)=>True
 |some (.ins _ _ _)=>True
 |some (.ext _)=>True
 |_=>False
section
variable{P:aE}{w:aG}{H:Hp}{h h':aJ}{x e:af}{o':HO}
def HOk.write(ok:HOk P w H h)(a:Du (H x))(j:e=x\/H e=Qg (.own x))(k:∀b u,b≠e->h.get? b=Qg u->h'.get? b=Qg u)(n:∃u,h'.get? e=Qg u)
  (i:nN P w (upd H x o') h' x o'):HOk P w (upd H x o') h':=λb u q=>by
 have l:∀c y,H c=Qg (.own y)->c≠x:=λc y r z=>by subst z;rw[r] at a;exact a
 have o:∀c d,H c=Qg (.tup d)->c≠x:=λc d r z=>by subst z;rw[r] at a;exact a
 by_cases f:b=x
 .subst f;rw[pK] at q;cases q;exact i
 .rw[oN f] at q;by_cases g:b=e
  .have m:H b=Qg (.own x):=by
    rcases j with z|z
    .exact absurd (g.trans z) f
    .rw[g];exact z
   rw[q] at m;cases m;obtain⟨v,p⟩:=n;exact⟨v,by rw[g];exact p⟩
  .refine(ok b u q).stay (λc v hc r=>k c v ?_ r) (λc r=>by rw[oN<|l c b r];exact r) λc d r=>by rw[oN<|o c d r];exact r
   rcases hc with rfl|hc
   .exact g
   .rintro rfl;rcases j with z|z
    .exact l c b hc z
    .rw[hc] at z;cases z;exact f rfl
end
structure Un(fs ex:List af)(H H':Hp)(h h':aJ):Prop where
 keep:∀b o,h.get? b=Qg o->H b=Qn->b∉fs->b∉ex->h'.get? b=Qg o
 slot:∀b o,h.get? b=Qg o->H b=Qn->b∈fs->b∉ex->∃sl,h'.get? b=Qg { o with slots:=sl }
 free:∀b o,h.get? b=Qg o->H b=Qn->b∉ex->H' b=Qn
 there:∀b o,h.get? b=Qg o->b∉ex->∃o',h'.get? b=Qg o'
 tups:∀b xs,H b=Qg (.tup xs)->H' b=Qg (.tup xs)
 frzs:∀b o u,H b=Qg (.frz o u)->H' b=Qg (.frz o u)
 tbls:∀b ps,H b=Qg (.tbl ps)->∃more,H' b=Qg (.tbl<|ps++more)
section
variable{fs QB ex QH:List af}{H H1 H2:Hp}{h h1 h2 h':aJ}{a x e:af}{o:HO}
def Un.any(u:Un fs ex H H1 h h1){b:af}{c:Obj}(q:h.get? b=Qg c)(n:H b=Qn)(d:b∉ex):∃g,h1.get? b=Qg { c with slots:=g }:=by
 by_cases f:b∈fs
 .exact u.slot b c q n f d
 .exact⟨c.slots,u.keep b c q n f d⟩
def Un.trans(a:Un fs ex H H1 h h1)(b:Un fs ex H1 H2 h1 h2):Un fs ex H H2 h h2 where
 keep:=λc d q n i f=>b.keep c d (a.keep c d q n i f) (a.free c d q n f) i f
 slot:=λc d q n i f=>by
  obtain⟨t,g⟩:=a.slot c d q n i f;obtain⟨m,k⟩:=b.slot c _ g (a.free c d q n f) i f;exact⟨m,k⟩
 free:=λc d q n f=>by
  obtain⟨l,g⟩:=a.there c d q f;exact b.free c l g (a.free c d q n f) f
 there:=λc d q f=>by
  obtain⟨l,g⟩:=a.there c d q f;exact b.there c l g f
 tups:=λc j q=>b.tups c j<|a.tups c j q
 frzs:=λc d j q=>b.frzs c d j<|a.frzs c d j q
 tbls:=λc p q=>by
  obtain⟨r,g⟩:=a.tbls c p q;obtain⟨s,k⟩:=b.tbls c _ g;exact⟨r++s,by rw[k,lA]⟩
def Un.kept(k:∀b u,h.get? b=Qg u->h'.get? b=Qg u):Un fs ex H H h h':=
 ⟨λb c q _ _ _=>k b c q,λb c q _ _ _=>⟨c.slots,k b c q⟩,λ_ _ _ n _=>n,λb c q _=>⟨c,k b c q⟩,λ_ _ q=>q,λ_ _ _ q=>q,λ_ d q=>⟨#[],by rw[q];simp⟩⟩
def Un.refl:Un fs ex H H h h:=Un.kept λ_ _ q=>q
def Un.laid(k:∀b u,h.get? b=Qg u->h'.get? b=Qg u)(d:h.objs.size<=a)(c:H a=Qn):Un fs ex H (upd H a o) h h' where
 keep:=λb u q _ _ _=>k b u q
 slot:=λb u q _ _ _=>⟨u.slots,k b u q⟩
 free:=λb u q n _=>by rw[oN (bb<|aV (aC q) d)];exact n
 there:=λb u q _=>⟨u,k b u q⟩
 tups:=λb f q=>by rw[oN<|qS q c];exact q
 frzs:=λb u f q=>by rw[oN<|qS q c];exact q
 tbls:=λb g q=>⟨#[],by rw[oN<|qS q c,q];simp⟩
def Un.write(c:Du (H x))(j:e=x\/H e=Qg (.own x))(k:∀b u,b≠e->h.get? b=Qg u->h'.get? b=Qg u)(l:∃u,h'.get? e=Qg u):Un fs ex H (upd H x o) h h':=by
 have f:∀b,H b=Qn->b≠x:=λb n z=>by subst z;rw[n] at c;exact c
 have g:∀b,H b=Qn->b≠e:=λb n z=>by
  subst z;rcases j with r|r
  .exact f b n r
  .rw[n] at r;cases r
 have d:∀b u,H b=Qg u->¬ Du (Qg u)->b≠x:=λb u q m z=>by subst z;rw[q] at c;exact m c
 refine⟨λb u q n _ _=>k b u (g b n) q,λb u q n _ _=>⟨u.slots,k b u (g b n) q⟩,λb u q n _=>by rw[oN<|f b n];exact n,λb u q _=>?_,
  λb p q=>by rw[oN (d b _ q λz=>z)];exact q,λb u p q=>by rw[oN (d b _ q λz=>z)];exact q,λb s q=>⟨#[],by rw[oN (d b _ q λz=>z),q];simp⟩⟩
 by_cases i:b=e
 .subst i;exact l
 .exact⟨u,k b u i q⟩
def Un.mono(u:Un fs ex H H1 h h1)(g:∀b∈fs,b∈QB)(f:∀b∈ex,b∈QH):Un QB QH H H1 h h1:=
 ⟨λb d q n i c=>u.keep b d q n (λz=>i<|g b z) λz=>c<|f b z,λ_ _ q n _ c=>u.any q n λz=>c<|f _ z,λb d q n c=>u.free b d q n λz=>c<|f b z,λb d q c=>u.there b d q λz=>c<|f b z,u.tups,u.frzs,u.tbls⟩
end
def E9(h:aJ)(H:Hp):List af:=(de h.objs.size).filter λa=>(H a).isSome
def vW(h:aJ)(H:Hp):aJ:=PySem.W.hideAll h<|E9 h H
def WO(h:aJ)(H:Hp):(vW h H).objs.size=h.objs.size:=PySem.W.hideAll_size _ _
def Vz(e:h.get? b=Qg o)(n:H b=Qn):(vW h H).get? b=Qg o:=
 PySem.W.hideAll_get _ e λa=>by
  have q:=(mC.mp a).2;rw[n] at q;simp at q
def UD(e:(vW h H).get? b=Qg o):h.get? b=Qg o/\H b=Qn:=by
 have a:=PySem.W.of_hideAll (E9 h H) e;refine⟨a,?_⟩;cases q:H b with
 |none=>rfl
 | some x=>
  have c:b∈E9 h H:=mC.mpr ⟨iI.mpr<|aC a,by simp[q]⟩;have z:(vW h H).get? b=Qn:=PySem.W.hideAll_none (E9 h H) c;rw[z] at e;cases e
noncomputable def T7(g h:aJ)(L:af):List (af×Obj):=(de h.objs.size).filterMap λa=>if a=L\/(g.get? a).isSome=Qo then Qn else (h.get? a).map λo=>(a,o)
def rest(g h:aJ)(L d:af):List (af×Obj):=(T7 g h L).filter λp=>decide<|p.1≠d
structure Mod(K:ag)(mg:ao->Option ae)(base:aJ):Prop where
 kin:K.In base
 glob:base.Ns bt mg
 blt:∃mb,base.Ns builtinsNs mb/\∀x:ao,x ≠ "__name__"->mb x=bi x
 nolimit:base.NoLimit
structure Cx where
 prog:aE
 w:aG
 K:ag
 mg:ao->Option ae
 base:aJ
 A:aY
 N:List ao
 s₀:aj
 H₀:Hp
 env:Env
 outer:List Env
 stack:List Env
 ex:List af
 fn:ao->Bool
 calm:Bool
 pn:List (af×Obj)
 xe:ae->aj->Prop
def qf(l:List Env):List af:=l.filterMap (·.frame)
abbrev Cx.fs(X:Cx):List af:=qf X.outer
def qu(sc:cC)(x:ao):Prop:=sc.names.lookup x=Qg .local\/sc.names.lookup x=Qg .cell\/sc.names.lookup x=Qg .free
def Loc(sc:cC)(x:ao):Prop:=sc.names.lookup x=Qg .local\/sc.names.lookup x=Qg .cell
def Q6(env:Env)(h:aJ)(m:ao->Option ae)(x:ao)(u:ae):Prop:=
 (env.kindOf x=Qg .local/\m x=Qg u)\/((env.kindOf x=Qg .cell\/env.kindOf x=Qg .free)/\∃c,env.cells.lookup x=Qg c/\h.IsCell c (Qg u))
structure Cx.Ok(X:Cx):Prop where
 mod:Mod X.K X.mg X.base
 kind:X.env.scope.kind=.function
 glob:X.env.globals=bt
 blt:X.env.builtins=builtinsNs
 above:X.s₀.heap.objs.size<=X.env.locals
 inj:∀x y c,X.env.cells.lookup x=Qg c->X.env.cells.lookup y=Qg c->x=y
 has:∀x,(X.env.kindOf x=Qg .cell\/X.env.kindOf x=Qg .free)->∃c,X.env.cells.lookup x=Qg c
 cab:∀x c,X.fn x=Qo->X.env.cells.lookup x=Qg c->X.s₀.heap.objs.size<=c
 hd:X.calm=Qo->X.A.handled=Qn
 frames:X.A.frames=Qg X.stack
 stk:X.stack=X.outer\/(X.stack=X.env::X.outer/\X.env.frame=Qg X.env.locals)
 exf:∀b∈X.ex,b≠X.env.locals/\∀x c,X.env.cells.lookup x=Qg c->c≠b
 bs:∀b o,X.base.get? b=Qg o->X.s₀.heap.get? b=Qg o/\X.H₀ b=Qn
 bsz:X.base.objs.size<=X.s₀.heap.objs.size
 noex:∀b o,X.base.get? b=Qg o->b∉X.ex
 exfs:∀b∈X.ex,b∉X.fs
 funs:X.s₀.heap.FunFrames X.base X.outer
 frf:∀b∈X.fs,X.H₀ b=Qn
structure Inv(X:Cx)(Qc:List (af×Obj))(σ:List (Option V))(H:Hp)(s:aj):Prop where
 ok:X.Ok
 os:s.os=X.s₀.os
 bare:fw s.gens
 base:Un X.fs X.ex X.H₀ H X.s₀.heap s.heap
 loc:∃m,s.heap.Ns X.env.locals m/\∀(i:Nat)(x:ao)(v:V),X.N[i]?=Qg x->σ[i]?=Qg (Qg v)->qu X.env.scope x->∃u,RelV v u/\Q6 X.env s.heap m x u
 cell:∀x c,X.env.cells.lookup x=Qg c->∃v,s.heap.IsCell c v
 free:H X.env.locals=Qn
 freeC:∀x c,X.env.cells.lookup x=Qg c->H c=Qn
 pin:∀p∈X.pn++Qc,s.heap.get? p.1=Qg p.2/\H p.1=Qn/\p.1≠X.env.locals/\p.1∉X.fs/\∀v,p.2.data ≠ .cell v
 hok:HOk X.prog X.w H s.heap
 len:σ.length=X.N.length
 tk:0<s.toks
section
variable{X:Cx}{Qc:List (af×Obj)}{σ:List (Option V)}{H H':Hp}{s:aj}{h':aJ}
def Cx.Ok.nofr(ok:X.Ok)(e:X.base.get? b=Qg o):b∉X.fs:=λa=>by
 have:=(ok.funs.mem a).1;rw[e] at this;cases this
def Inv.bs(I:Inv X Qc σ H s):∀b o,X.base.get? b=Qg o->s.heap.get? b=Qg o/\H b=Qn:=λb o e=>
 ⟨I.base.keep b o (I.ok.bs b o e).1 (I.ok.bs b o e).2 (I.ok.nofr e)<|I.ok.noex b o e,I.base.free b o (I.ok.bs b o e).1 (I.ok.bs b o e).2<|I.ok.noex b o e⟩
def Inv.bk(I:Inv X Qc σ H s):∀b o,X.base.get? b=Qg o->s.heap.get? b=Qg o:=λb o e=>(I.bs b o e).1
def Inv.mod(I:Inv X Qc σ H s):Mod X.K X.mg X.base:=I.ok.mod
def Inv.kIn(I:Inv X Qc σ H s):X.K.In s.heap:=I.ok.mod.kin.keeps I.bk
def Inv.nolimit(I:Inv X Qc σ H s):s.heap.NoLimit:=I.ok.mod.nolimit.keeps I.bk
def Inv.fr(I:Inv X Qc σ H s):∃m,Fr X.base X.env.locals s.heap m:=
 let ⟨m,hn,_⟩:=I.loc
 ⟨m,hn,I.bk,aP I.ok.bsz I.ok.above⟩
def Inv.lt(I:Inv X Qc σ H s):X.env.locals<s.heap.objs.size:=let ⟨_,hn,_⟩:=I.loc;hn.lt
def Inv.sz(I:Inv X Qc σ H s):X.s₀.heap.objs.size<=s.heap.objs.size:=aP I.ok.above<|fx I.lt
def Inv.nofs(I:Inv X Qc σ H s)(h:s.heap.objs.size<=a):a∉X.fs:=λb=>by
 obtain⟨_,o,c,_⟩:=I.ok.funs.mem b;exact absurd (aV (aC c)<|aP I.sz h)<|bV _
def Inv.cne(I:Inv X Qc σ H s):∀x c,X.env.cells.lookup x=Qg c->c≠X.env.locals:=λx c e z=>by
 obtain⟨v,o,a,b⟩:=I.cell x c e;obtain⟨m,⟨g,h,i,d,f,_⟩,_⟩:=I.loc;rw[z,d] at a;cases a;rw[f] at b;cases b
def Inv.funs(I:Inv X Qc σ H s):s.heap.FunFrames X.base X.outer:=by
 have a:∀(l:List Env),(∀b∈qf l,b∈X.fs)->X.s₀.heap.FunFrames X.base l->s.heap.FunFrames X.base l:=by
  intro l
  induction l with
  |nil=>intro _ _;trivial
  | cons env r ih=>
   intro g h;obtain⟨i,⟨L,o,c,j,k,m⟩,n⟩:=h;have d:=g L (by unfold qf;rw[dF,c];exact aL);obtain⟨p,e⟩:=I.base.slot L o k (I.ok.frf L d) d λz=>I.ok.exfs L z d;exact⟨i,⟨L,_,c,j,e,m⟩,ih (λb f=>g b (by unfold qf;rw[dF,c];exact ar _ f)) n⟩
 exact a X.outer (λ_ f=>f) I.ok.funs
def Inv.stack(I:Inv X Qc σ H s):s.heap.FunFrames X.base X.stack:=by
 rcases I.ok.stk with e|⟨e,a⟩
 .rw[e];exact I.funs
 .rw[e];obtain⟨m,b,_⟩:=I.loc;refine .cons (by rw[I.ok.kind];decide) a b ?_ I.funs;exact h8<|aP I.ok.bsz I.ok.above
def Inv.stkSub(I:Inv X Qc σ H s):∀b∈qf X.stack,b∈X.env.locals::X.fs:=λb a=>by
 rcases I.ok.stk with e|⟨e,c⟩
 .rw[e] at a;exact ar _ a
 .rw[e] at a;unfold qf at a;rw[dF,c] at a;exact a
def Inv.stkFree(I:Inv X Qc σ H s):∀b∈qf X.stack,H b=Qn:=λb hb=>by
 rcases av.mp (I.stkSub b hb) with e|hb
 .rw[e];exact I.free
 .obtain⟨_,o,a,_⟩:=I.ok.funs.mem hb;exact I.base.free b o a (I.ok.frf b hb) λz=>I.ok.exfs b z hb
def Inv.step{Y:Array mi}{t':Nat}{d':Drawn}{ch:List af}(I:Inv X Qc σ H s)
  (E:∀b∈ch,(b∈X.ex\/X.s₀.heap.objs.size<=b)/\b≠X.env.locals/\(∀x c,X.env.cells.lookup x=Qg c->c≠b)/\∀p∈X.pn++Qc,p.1≠b)
  (g:∀b o,b≠X.env.locals->b∉X.fs->b∉ch->s.heap.get? b=Qg o->H b=Qn->h'.get? b=Qg o)
  (t:∀b o,b≠X.env.locals->b∈X.fs->b∉ch->s.heap.get? b=Qg o->H b=Qn->∃S,h'.get? b=Qg { o with slots:=S }) (f:∀b o,b∉ch->s.heap.get? b=Qg o->H b=Qn->H' b=Qn)
  (A:∀b o,b∉ch->s.heap.get? b=Qg o->∃G,h'.get? b=Qg G)
  (J:∀b y,H b=Qg (.tup y)->H' b=Qg (.tup y)) (L:∀b o u,H b=Qg (.frz o u)->H' b=Qg (.frz o u)) (M:∀b ps,H b=Qg (.tbl ps)->∃N,H' b=Qg (.tbl<|ps++N))
  (ns:∀m,s.heap.Ns X.env.locals m->h'.Ns X.env.locals m) (T:HOk X.prog X.w H' h') (hg:fw Y) (ht:0<t'):
  Inv X Qc σ H' { s with heap:=h',gens:=Y,drawn:=d',toks:=t' }:=by
 have Z:∀b o,X.s₀.heap.get? b=Qg o->b≠X.env.locals:=λb o e=>bb<|aV (aC e) I.ok.above;have Q:∀b o,X.s₀.heap.get? b=Qg o->b∉X.ex->b∉ch:=λb o e a B=>by
  rcases (E b B).1 with z|z
  .exact a z
  .exact absurd (aV (aC e) z)<|bV _
 have h:∀x c,X.env.cells.lookup x=Qg c->∀v,s.heap.IsCell c v->h'.IsCell c v:=λx c e v ⟨o,C,U⟩=>by
  have O:c∉ch:=λz=>(E c z).2.2.1 x c e rfl;by_cases hc:c∈X.fs
  .obtain⟨S,q⟩:=t c o (I.cne x c e) hc O C<|I.freeC x c e;exact⟨_,q,U⟩
  .exact⟨o,g c o (I.cne x c e) hc O C<|I.freeC x c e,U⟩
 refine⟨I.ok,I.os,hg,⟨λb o e n B a=>?_,λb o e n B a=>?_,λb o e n a=>?_,λb o e a=>?_,λb y e=>J b y<|I.base.tups b y e,λb o y e=>L b o y<|I.base.frzs b o y e,λb ps e=>?_⟩,?_,λx c e=>?_,?_,λx c e=>?_,λp hp=>?_,T,I.len,ht⟩
 .exact g b o (Z b o e) B (Q b o e a) (I.base.keep b o e n B a)<|I.base.free b o e n a
 .obtain⟨S,j⟩:=I.base.slot b o e n B a;obtain⟨uO,P⟩:=t b _ (Z b o e) B (Q b o e a) j<|I.base.free b o e n a;exact⟨uO,P⟩
 .obtain⟨G,j⟩:=I.base.there b o e a;exact f b G (Q b o e a) j<|I.base.free b o e n a
 .obtain⟨G,j⟩:=I.base.there b o e a;exact A b G (Q b o e a) j
 .obtain⟨m1,j⟩:=I.base.tbls b ps e;obtain⟨m2,P⟩:=M b _ j;exact⟨m1++m2,by rw[P,lA]⟩
 .obtain⟨m,hn,hl⟩:=I.loc;refine⟨m,ns m hn,λi x v j P e3=>?_⟩;obtain⟨u,r,l⟩:=hl i x v j P e3;refine⟨u,r,?_⟩;rcases l with l|⟨k,c,e,z⟩
  .exact .inl l
  .exact .inr ⟨k,c,e,h x c e _ z⟩
 .obtain⟨v,z⟩:=I.cell x c e;exact⟨v,h x c e v z⟩
 .obtain⟨m,⟨o,_,_,C,_⟩,_⟩:=I.loc;exact f _ o (λz=>(E _ z).2.1 rfl) C I.free
 .obtain⟨v,o,C,U⟩:=I.cell x c e;exact f c o (λz=>(E c z).2.2.1 x c e rfl) C<|I.freeC x c e
 .obtain⟨e,n,ne,nf,d⟩:=I.pin p hp;have O:p.1∉ch:=λz=>(E p.1 z).2.2.2 p hp rfl;exact⟨g p.1 p.2 ne nf O e n,f p.1 p.2 O e n,ne,nf,d⟩
def Inv.un{t':Nat}(I:Inv X Qc σ H s)(u:Un X.fs [] H H' s.heap h')(a:HOk X.prog X.w H' h')(ht:0<t':=by first|exact cR _|exact Inv.tk ‹_›|assumption|lia):Inv X Qc σ H' { s with heap:=h',toks:=t' }:=by
 obtain⟨m,⟨o,l,p,d,r⟩,_⟩:=id I.loc;obtain⟨q,g⟩:=u.any d I.free 'k';exact I.step (ch:=[]) (λ_ z=>nomatch z) (λb o _ c _ e n=>u.keep b o e n c 'k') (λb o _ c _ e n=>u.slot b o e n c 'k') (λb o _ e n=>u.free b o e n 'k') (λb o _ e=>u.there b o e 'k') u.tups u.frzs u.tbls (λt h=>by
  obtain⟨v,i,j,f,k⟩:=h;rw[d] at f;cases f;exact⟨_,i,j,g,k⟩) a I.bare ht
def Inv.call{g:Array mi}{t':Nat}{k:Drawn}{ch:List af}(I:Inv X Qc σ H s)(u:Un (qf X.stack) ch H H' s.heap h')(d:HOk X.prog X.w H' h')(l:fw g)
  (h:∀b∈ch,(b∈X.ex\/X.s₀.heap.objs.size<=b)/\b≠X.env.locals/\(∀x c,X.env.cells.lookup x=Qg c->c≠b)/\∀p∈X.pn++Qc,p.1≠b) (ht:0<t':=by first|exact cR _|exact Inv.tk ‹_›|assumption|lia):
  Inv X Qc σ H' { s with heap:=h',gens:=g,drawn:=k,toks:=t' }:=by
 obtain⟨m,⟨o,B,C,i,r⟩,_⟩:=id I.loc;obtain⟨E,f⟩:=u.any i I.free λz=>(h _ z).2.1 rfl;exact I.step h (λb o f q a e n=>u.keep b o e n (λz=>(av.mp<|I.stkSub b z).elim f q) a) (λb o _ _ a e n=>u.any e n a) (λb o a e n=>u.free b o e n a) (λb o a e=>u.there b o e a) u.tups u.frzs u.tbls (λG t=>by
  obtain⟨J,v,y,j,A⟩:=t;rw[i] at j;cases j;exact⟨_,v,y,f,A⟩) d l ht
def Inv.turned{t':Nat}{it:af}(I:Inv X Qc σ H s)(k:∀b o,b≠it->s.heap.get? b=Qg o->h'.get? b=Qg o)(g:H it=Qn)(d:it≠X.env.locals)
  (h:it∈X.ex\/X.s₀.heap.objs.size<=it) (i:∀x c,X.env.cells.lookup x=Qg c->c≠it) (j:∀p∈X.pn++Qc,p.1≠it) (ht:0<t':=by first|exact cR _|exact Inv.tk ‹_›|assumption|lia):Inv X Qc σ H { s with heap:=h',toks:=t' }:=by
 have f:∀b u,H b=Qg u->b≠it:=λb u e z=>by rw[z,g] at e;cases e
 refine I.step (ch:=[it]) (λb l=>?_) (λb o _ _ a e _=>k b o (λz=>a (by simp[z])) e) (λb o _ _ a e _=>⟨o.slots,k b o (λz=>a (by simp[z])) e⟩) (λ_ _ _ _ n=>n)
  (λb o a e=>⟨o,k b o (λz=>a (by simp[z])) e⟩) (λ_ _ e=>e) (λ_ _ _ e=>e) (λb B e=>⟨#[],by rw[e];simp⟩) (λm t=>?_) (λb u e=>?_) I.bare ht
 .have e:b=it:=⇑l
  subst e;exact⟨h,d,i,j⟩
 .obtain⟨o,w,y,A,r⟩:=t;exact⟨o,w,y,k _ o (bO d) A,r⟩
 .refine(I.hok b u e).stay (λc v a q=>k c v ?_ q) (λ_ q=>q) λ_ _ q=>q;rcases a with z|z
  .rw[z];exact f b u e
  .exact f c _ z
def Inv.tok(I:Inv X Qc σ H s)(t:Nat)(ht:0<t:=by first|exact cR _|exact Inv.tk ‹_›|assumption|lia):Inv X Qc σ H { s with toks:=t }:=I.un Un.refl I.hok
def Inv.kept(I:Inv X Qc σ H s)(k:∀b u,s.heap.get? b=Qg u->h'.get? b=Qg u)(ht:0<t':=by first|exact cR _|exact Inv.tk ‹_›|assumption|lia):Inv X Qc σ H { s with heap:=h',toks:=t' }:=I.un (Un.kept k)<|I.hok.kept k
def Inv.laid{a:af}{o:HO}{t':Nat}(I:Inv X Qc σ H s)(k:∀b u,s.heap.get? b=Qg u->h'.get? b=Qg u)(c:s.heap.objs.size<=a)(d:nN X.prog X.w (upd H a o) h' a o)(ht:0<t':=by first|exact cR _|exact Inv.tk ‹_›|assumption|lia):
  Inv X Qc σ (upd H a o) { s with heap:=h',toks:=t' }:=I.un (Un.laid k c<|I.hok.fresh c)<|I.hok.laid k c d
def Inv.write(I:Inv X Qc σ H s)(c:Du (H x))(d:e=x\/H e=Qg (.own x))(k:∀b u,b≠e->s.heap.get? b=Qg u->h'.get? b=Qg u)(f:∃u,h'.get? e=Qg u)
  (a:nN X.prog X.w (upd H x o) h' x o) (ht:0<t':=by first|exact cR _|exact Inv.tk ‹_›|assumption|lia):Inv X Qc σ (upd H x o) { s with heap:=h',toks:=t' }:=I.un (Un.write c d k f)<|I.hok.write c d k f a
def Inv.weak(I:Inv X Qc σ H s)(a:σ'.length=σ.length)(w:∀(i:Nat)v,σ'[i]?=Qg (Qg v)->σ[i]?=Qg (Qg v)):Inv X Qc σ' H s:=
 ⟨I.ok,I.os,I.bare,I.base,let ⟨m,hn,qZ⟩:=I.loc;⟨m,hn,λi x v b c d=>qZ i x v b (w i v c) d⟩,I.cell,I.free,I.freeC,I.pin,I.hok,a.trans I.len,I.tk⟩
def Inv.pins_of(I:Inv X Qc σ H s)(h:∀p∈B_,s.heap.get? p.1=Qg p.2/\H p.1=Qn/\p.1≠X.env.locals/\p.1∉X.fs/\∀v,p.2.data ≠ .cell v):Inv X B_ σ H s:=
 ⟨I.ok,I.os,I.bare,I.base,I.loc,I.cell,I.free,I.freeC,λp a=>(aO.mp a).elim (λz=>I.pin p<|cr _ z)<|h p,I.hok,I.len,I.tk⟩
def Hf{N:List ao}(c:N.Nodup){i j:Nat}{x:ao}(a:N[i]?=Qg x)(b:N[j]?=Qg x):i=j:=by obtain⟨f,d⟩:=al.mp a;obtain⟨g,e⟩:=al.mp b;exact(jA c).mp (d.trans e.symm)
def Hr{M:jt}{A:aY}{E:ae->aj->Prop}{i:Nat}{x:ao}{v:V}{u:ae}{Q:Unit->aj->Prop}(I:Inv X Qc σ H s)(hN:X.N.Nodup)(L:X.N[i]?=Qg x)(t:Loc X.env.scope x)(r:RelV v u)
  (h:∀T,Inv X Qc (σ.set i<|Qg v) H T->(∃a,cn a s.heap T.heap/\(a=X.env.locals\/X.env.cells.lookup x=Qg a))->Q () T) (hf:X.fn x=Qo\/X.env.scope.names.lookup x=Qg .local:=by first|exact .inl rfl|exact .inr rfl|assumption):am M A (storeName X.env x u) Q E s:=by
 obtain⟨m,U,hl⟩:=id I.loc;have ue:(X.env.scope.kind == .class||(X.env.scope.kind == .module&&X.env.locals !=X.env.globals))=Qp:=by rw[I.ok.kind];rfl
 have CS:i<σ.length:=by rw[I.len];exact(al.mp L).1
 have C:=I.cne;have g:∀{a:af}{h':aJ},(∃o,s.heap.get? a=Qg o/\H a=Qn)->cn a s.heap h'->HOk X.prog X.w H h':=λ{a h'}ha f b ob e=>by
  obtain⟨_,_,o4⟩:=ha;refine(I.hok b ob e).stay (λc O hc q=>(f.2 c ?_).trans q) (λ_ q=>q) λ_ _ q=>q;rintro rfl;rcases hc with rfl|hc
  .rw[o4] at e;cases e
  .rw[o4] at hc;cases hc
 rcases t with hk|hk
 .refine wpAny_storeName_local hk U (λh' yN f=>?_) ue;obtain⟨oL,_,_,Y,_⟩:=id U;refine h _ ⟨I.ok,I.os,I.bare,⟨λb o e n G t=>?_,λb o e n G t=>?_,I.base.free,λb o e t=>?_,I.base.tups,I.base.frzs,I.base.tbls⟩,⟨_,yN,λj y Z l B e3=>?_⟩,λy c e=>?_,I.free,I.freeC,λp hp=>?_,g ⟨oL,Y,I.free⟩ f,by simpa using I.len,cR _⟩ ⟨_,f,.inl rfl⟩
  .exact(f.2 b (bb<|aV (aC e) I.ok.above)).trans (I.base.keep b o e n G t)
  .obtain⟨sl,l⟩:=I.base.slot b o e n G t;exact⟨sl,(f.2 b (bb<|aV (aC e) I.ok.above)).trans l⟩
  .obtain⟨o',l⟩:=I.base.there b o e t;exact⟨o',(f.2 b (bb<|aV (aC e) I.ok.above)).trans l⟩
  .by_cases J:j=i
   .subst J;rw[L] at l;cases l;rw[aX CS] at B;cases B;exact⟨u,r,.inl ⟨hk,by simp⟩⟩
   .rw[aQ<|bO J] at B;obtain⟨u',r',q⟩:=hl j y Z l B e3;refine⟨u',r',?_⟩;rcases q with⟨k,e⟩|⟨k,c,e,z⟩
    .refine .inl ⟨k,?_⟩;have:y≠x:=λe=>J<|Hf hN l (e▸L);simp[this,e]
    .exact .inr ⟨k,c,e,z.sameBut f<|C y c e⟩
  .obtain⟨O,z⟩:=I.cell y c e;exact⟨O,z.sameBut f<|C y c e⟩
  .obtain⟨e,n,P,nf,d⟩:=I.pin p hp;exact⟨(f.2 p.1 P).trans e,n,P,nf,d⟩
 .have AN:X.fn x=Qo:=by
   rcases hf with z|z
   .exact z
   .rw[z] at hk;cases hk
  obtain⟨c,hc⟩:=I.ok.has x<|.inl hk;obtain⟨O,z⟩:=I.cell x c hc;refine wpAny_storeName_cell I.ok.kind hk hc z (λh' x_ f=>?_);obtain⟨oc,yM,Jo⟩:=id z;refine h { s with heap:=h' } ⟨I.ok,I.os,I.bare,⟨λb o e n G t=>?_,λb o e n G t=>?_,I.base.free,λb o e t=>?_,I.base.tups,I.base.frzs,I.base.tbls⟩,⟨m,U.sameBut f (bO<|C x c hc),λj y Z l B e3=>?_⟩,λy S e=>?_,I.free,I.freeC,λp hp=>?_,g ⟨oc,yM,I.freeC x c hc⟩ f,by simpa using I.len,I.tk⟩ ⟨c,f,.inr hc⟩
  .exact(f.2 b<|bb (aV (aC e)<|I.ok.cab x c AN hc)).trans (I.base.keep b o e n G t)
  .obtain⟨sl,l⟩:=I.base.slot b o e n G t;exact⟨sl,(f.2 b<|bb (aV (aC e)<|I.ok.cab x c AN hc)).trans l⟩
  .obtain⟨o',l⟩:=I.base.there b o e t;exact⟨o',(f.2 b<|bb (aV (aC e)<|I.ok.cab x c AN hc)).trans l⟩
  .by_cases J:j=i
   .subst J;rw[L] at l;cases l;rw[aX CS] at B;cases B;exact⟨u,r,.inr ⟨.inl hk,c,hc,x_⟩⟩
   .rw[aQ<|bO J] at B;obtain⟨u',r',q⟩:=hl j y Z l B e3;refine⟨u',r',?_⟩;rcases q with q|⟨k,S,e,z'⟩
    .exact .inl q
    .refine .inr ⟨k,S,e,z'.sameBut f ?_⟩;rintro rfl;exact J<|Hf hN l (I.ok.inj _ _ _ e hc▸L)
  .by_cases uf:S=c
   .subst uf;exact⟨_,x_⟩
   .obtain⟨w2,z2⟩:=I.cell y S e;exact⟨w2,z2.sameBut f uf⟩
  .obtain⟨e,n,P,nf,d⟩:=I.pin p hp;refine⟨(f.2 p.1 ?_).trans e,n,P,nf,d⟩;intro q;rw[q,yM] at e;have q':=bL e;exact d O (by rw[<- q'];exact Jo)
def BE(I:Inv X Qc σ H s)(b:X.N.Nodup)(c:X.N[i]?=Qg x)(d:Loc X.env.scope x)(r:RelV v u)
  (h:∀a,Inv X Qc (σ.set i<|Qg v) H a->Q () a) (e:X.fn x=Qo\/X.env.scope.names.lookup x=Qg .local:=by first|exact .inl rfl|exact .inr rfl|assumption):am M A (storeName X.env x u) Q E s:=
 Hr I b c d r (λa f _=>h a f) e
def Inv.call'(I:Inv X Qc σ H s)(d:s'.os=s.os)(u:Un (qf X.stack) ch H H' s.heap s'.heap)(a:HOk X.prog X.w H' s'.heap)(f:fw s'.gens)
  (g:∀b∈ch,(b∈X.ex\/X.s₀.heap.objs.size<=b)/\b≠X.env.locals/\(∀x c,X.env.cells.lookup x=Qg c->c≠b)/\∀p∈X.pn++Qc,p.1≠b) (ht:0<s'.toks:=by first|exact cR _|exact Inv.tk ‹_›|assumption|lia):Inv X Qc σ H' s':=by obtain⟨h',h,i,j,k⟩:=s';have e:=d;subst e;exact I.call u a f g
end
abbrev XK:=ae->Option af->Hp->Prop
abbrev St:=List<|Option V
abbrev VK:=V->Hp->Prop
abbrev TE:=St->Hp->VK->Prop
abbrev TT:=St->Hp->(Bool->Hp->Prop)->Prop
abbrev TA:=St->Hp->(List V->Hp->Prop)->Prop
structure v7 where
 nx:St->Hp->Prop
 rt:VK
 bk:St->Hp->Prop:=λ_ _=>False
 ct:St->Hp->Prop:=λ_ _=>False
abbrev TS:=v7->St->Hp->Prop
def EP(X:Cx)(Qc:List (af×Obj))(σ:St)(Q:VK)(u:ae)(s':aj):Prop:=∃v H',Inv X Qc σ H' s'/\RelV v u/\Q v H'
def TP(X:Cx)(Qc:List (af×Obj))(σ:St)(Q:Bool->Hp->Prop)(b:Bool)(s':aj):Prop:=∃H',Inv X Qc σ H' s'/\Q b H'
def AP(X:Cx)(Qc:List (af×Obj))(σ:St)(Q:List V->Hp->Prop)(us:List ae)(s':aj):Prop:=∃vs H',Inv X Qc σ H' s'/\nz vs us/\Q vs H'
def SP(X:Cx)(Qc:List (af×Obj))(D:v7)(f:Flow)(s':aj):Prop:=
 match f with
 |.next=>∃σ' H',Inv X Qc σ' H' s'/\D.nx σ' H'
 |.brk=>∃σ' H',Inv X Qc σ' H' s'/\D.bk σ' H'
 |.cont=>∃σ' H',Inv X Qc σ' H' s'/\D.ct σ' H'
 |.ret u=>∃v σ' H',Inv X Qc σ' H' s'/\RelV v u/\D.rt v H'
def PE(X:Cx)(e:aZ)(t:TE):Prop:=
 ∀(Qc:List (af×Obj))(s:aj)(σ:St)(H:Hp)(Q:VK),Inv X Qc σ H s->t σ H Q->am (aq X.prog X.w) X.A (eval e X.env) (EP X Qc σ Q) X.xe s
def PT(X:Cx)(e:aZ)(t:TT):Prop:=
 ∀(Qc:List (af×Obj))(s:aj)(σ:St)(H:Hp)(Q:Bool->Hp->Prop),Inv X Qc σ H s->t σ H Q->am (aq X.prog X.w) X.A (isTrue e X.env<|eval e X.env) (TP X Qc σ Q) X.xe s
def PW(X:Cx)(e:aZ)(t:TT):Prop:=
 ∀(whole:Sem ae)(Qc:List (af×Obj))(s:aj)(σ:St)(H:Hp)(Q:Bool->Hp->Prop),Inv X Qc σ H s->t σ H Q->am (aq X.prog X.w) X.A (isTrue e X.env whole) (TP X Qc σ Q) X.xe s
def PW.pt(h:PW X e t):PT X e t:=h _
def PA(X:Cx)(es:List aZ)(t:TA):Prop:=
 ∀(pos:Pos)(Qc:List (af×Obj))(s:aj)(σ:St)(H:Hp)(Q:List V->Hp->Prop),Inv X Qc σ H s->t σ H Q->am (aq X.prog X.w) X.A (spliced (backTo pos<|au es X.env)) (AP X Qc σ Q) X.xe s
def PS(X:Cx)(st:cN)(t:TS):Prop:=
 ∀(Qc:List (af×Obj))(s:aj)(σ:St)(H:Hp)(D:v7),Inv X Qc σ H s->t D σ H->am (aq X.prog X.w) X.A (exec st X.env) (SP X Qc D) X.xe s
def qH(X:Cx)(st:List cN)(t:TS):Prop:=
 ∀(Qc:List (af×Obj))(s:aj)(σ:St)(H:Hp)(D:v7),Inv X Qc σ H s->t D σ H->am (aq X.prog X.w) X.A (execs st X.env) (SP X Qc D) X.xe s
def oO{α:Type}{t:Sem α}{Q b:α->aj->Prop}{M}{A}{E}{s}(h:am M A t Q E s)(c:∀a s,Q a s->b a s):am M A t b E s:=bQ h c λ_ _ x=>x
section
variable{X:Cx}
def bin{a b:aZ}{j k:TE}(l:PE X a j)(m:PE X b k){c:List (af×Obj)}{s:aj}{d:St}{H:Hp}{R:V->V->Hp->Prop}(I:Inv X c d H s)(h:j d H λx i=>k d i λy e=>R x y e)
  {α:Type} {Q:α->aj->Prop} {f:ae->ae->Sem α}
  (n:∀v u g x y e,Inv X c d e g->RelV x v->RelV y u->R x y e->am (aq X.prog X.w) X.A (f v u) Q X.xe g):
  am (aq X.prog X.w) X.A (eval a X.env) (λv o=>am (aq X.prog X.w) X.A (eval b X.env) (λu p=>am (aq X.prog X.w) X.A (f v u) Q X.xe p) X.xe o) X.xe s:=by refine oO (l c s d H _ I h) λv q ⟨x,i,r,t,B⟩=>?_;refine oO (m c q d i _ r B) λu g ⟨y,e,C,E,G⟩=>?_;exact n v u g x y e C t E G
def A7(i:Nat):TE:=λσ H Q=>∃v,σ[i]?=Qg (Qg v)/\Q v H
def tC(v:V):TE:=λ_ H Q=>Q v H
abbrev pL(x:ao):Prop:=(x==("__debug__":ao))=Qp
def Ad(j:X.N[i]?=Qg x)(k:qu X.env.scope x)(d:pL x:=by decide)(n:(x==("__classdict__":ao))=Qp:=by decide):PE X (.Name x pos) (A7 i):=by
 intro b s o H Q I h;obtain⟨v,e,h⟩:=h;obtain⟨m,p,q⟩:=I.loc;obtain⟨u,r,l⟩:=q i x v j e k;have a:EP X b o Q u s:=⟨v,H,I,r,h⟩;rcases l with⟨hk,t⟩|⟨hk,c,f,g⟩
 .exact h9 (ic I.ok.kind hk p t a) d
 .rcases hk with hk|hk
  .exact h9 (iC I.ok.kind hk f g a) d
  .exact h9 (lg I.ok.kind hk f g a n) d
def Gx:PE X (.Constant (.int i) j pos) (tC<|.int i):=λ_ _ _ H _ I h=>wpAny_Constant_int ⟨.int i,H,I.tok _,⟨_,rfl⟩,h⟩
def R1:PE X (.Constant (.bool b) j pos) (tC<|.bl b):=λ_ _ _ H _ I h=>Constant_bool ⟨.bl b,H,I,rfl,h⟩
def LV:PE X (.Constant .none j pos) (tC .non):=λ_ _ _ H _ I h=>Constant_none ⟨.non,H,I,rfl,h⟩
def SN:PE X (.Constant (.str x) j pos) (tC<|.str x):=λ_ _ _ H _ I h=>Calls.Constant_str ⟨.str x,H,I.tok _,⟨_,rfl⟩,h⟩
def Gl(X:Cx)(x:ao):Prop:=X.env.kindOf x=Qg .globalImplicit
def Aj(I:Inv X Qc σ H s)(a:Gl X x)(b:X.mg x=Qg u)(h:Q u s)
  (c:pL x:=by decide):am (aq X.prog X.w) X.A (eval (.Name x pos) X.env) Q E s:=
 i8 I.ok.kind a (Calls.loadGlobal_global (by rw[I.ok.glob];exact I.mod.glob.keeps I.bk) b h) c
def Ag(I:Inv X Qc σ H s)(a:Gl X x)(b:X.mg x=Qn)(c:bi x=Qg u)(h:Q u s)
  (d:x ≠ "__name__":=by decide) (e:pL x:=by decide):am (aq X.prog X.w) X.A (eval (.Name x pos) X.env) Q E s:=by obtain⟨i,f,g⟩:=I.mod.blt;exact i8 I.ok.kind a (Calls.loadGlobal_builtin (by rw[I.ok.glob];exact I.mod.glob.keeps I.bk) b (by rw[I.ok.blt];exact f.keeps I.bk) ((g x d).trans c) h) e
def Am(a:Gl X x)(b:X.mg x=Qg u)(r:RelV v u)(c:pL x:=by decide):PE X (.Name x pos) (tC v):=
 λ_ _ _ H _ I h=>Aj I a b ⟨v,H,I,r,h⟩ c
def L4(a:Gl X x)(b:X.mg x=Qn)(c:bi x=Qg u)(r:RelV v u)(d:x ≠ "__name__":=by decide)(e:pL x:=by decide):PE X (.Name x pos) (tC v):=
 λ_ _ _ H _ I h=>Ag I a b c ⟨v,H,I,r,h⟩ d e
variable{a b:aZ}{ta tb:TE}{pos:Pos}
def PC(X:Cx)(op:CmpOp)(a b:aZ)(t:TE):Prop:=
 ∀(Qc:List (af×Obj))(s:aj)(σ:St)(H:Hp)(Q:VK),Inv X Qc σ H s->t σ H Q->
  am (aq X.prog X.w) X.A (eval a X.env) (λv j_=>am (aq X.prog X.w) X.A (eval b X.env) (λu q8=>am (aq X.prog X.w) X.A (cK op v u) (EP X Qc σ Q) X.xe q8) X.xe j_) X.xe s
def Ny(b)(h:op ≠ .In)(c:op ≠ .NotIn):behindInMarks op b=Qp:=by
 have d:(op==CmpOp.In)=Qp:=by cases op<;>first|rfl|exact absurd rfl h
 have e:(op==CmpOp.NotIn)=Qp:=by cases op<;>first|rfl|exact absurd rfl c
 cases b<;>simp[behindInMarks,d,e]
def tB(t:TE):TT:=λσ H Q=>t σ H λx H1=>∃c,x=.bl c/\Q c H1
def GP(h:PC X op a b t)(d:behindInMarks op b=Qp:=by first|exact Ny _ 'b' 'b'|rfl):PE X (.Compare a [op] [b] pos) t:=λc s e H Q I f=>wpAny_Compare1 (h c s e H Q I f) d
def GF{f:CmpOp}{t:TE}(h:PC X f a b t)(g:behindInMarks f b=Qp:=by first|exact Ny _ 'b' 'b'|rfl):PT X (.Compare a [f] [b] pos) (tB t):=by intro e s i H Q I j;refine km (oO (h e s i H _ I j) λv p g=>oO g λu r k=>oO k λc w ⟨x,l,m,n,o⟩=>?_) g;obtain⟨d,rfl,q⟩:=o;cases n;exact cO ⟨l,m,q⟩
variable{tA Fc:TT}{rest:List aZ}
def Ri(t u:TT):TT:=λσ H Q=>t σ H λc H1=>if c=Qo then u σ H1 Q else Q Qp H1
def tOr(t u:TT):TT:=λσ H Q=>t σ H λc H1=>if c=Qo then Q Qo H1 else u σ H1 Q
def Rk(t:TT):TT:=λσ H Q=>t σ H λc H1=>Q (!c) H1
def T2(f:PT X a tA):PW X (.BoolOp .And [a] pos) tA:=by
 intro i d s g H Q I h;refine isTrue_and (oO (f d s g H Q I h) λc j e=>?_);cases c with
 |true=>exact isTrue_and_nil e
 |false=>exact e
def S9(f:PT X a tA):PW X (.BoolOp .Or [a] pos) tA:=by
 intro i d s g H Q I h;refine isTrue_or (oO (f d s g H Q I h) λc j e=>?_);cases c with
 |false=>exact isTrue_or_nil e
 |true=>exact e
def R_(j:PT X a tA)(k:PW X (.BoolOp .And (b::rest) pos) Fc):PW X (.BoolOp .And (a::b::rest) pos) (Ri tA Fc):=by
 intro l d s e H Q I h;refine isTrue_and (oO (j d s e H _ I h) λc m ⟨f,g,i⟩=>?_);cases c with
 |true=>exact k l d m e f Q g i
 |false=>exact⟨f,g,i⟩
def R4(j:PT X a tA)(k:PW X (.BoolOp .Or (b::rest) pos) Fc):PW X (.BoolOp .Or (a::b::rest) pos) (tOr tA Fc):=by
 intro l d s e H Q I h;refine isTrue_or (oO (j d s e H _ I h) λc m ⟨f,g,i⟩=>?_);cases c with
 |true=>exact⟨f,g,i⟩
 |false=>exact k l d m e f Q g i
def Tf(e:PT X a tA):PT X (.UnaryOp .Not a pos) (Rk tA):=by intro d s f H Q I h;exact isTrue_not<|e d s f H (λc g=>Q (!c) g) I h
def R8(ta tb:TE):TE:=λσ H Q=>ta σ H λx H1=>∃c,x=.bl c/\if c=Qo then tb σ H1 Q else Q (.bl Qp) H1
def Q0(ta tb:TE):TE:=λσ H Q=>ta σ H λx H1=>∃c,x=.bl c/\if c=Qo then Q (.bl Qo) H1 else tb σ H1 Q
def RY(ta:TE):TE:=λσ H Q=>ta σ H λx H1=>∃c,x=.bl c/\Q (.bl<|!c) H1
def Tj(h:PE X a t):PE X (.BoolOp op [a] pos) t:=λc s d H Q I e=>BoolOp_one<|h c s d H Q I e
def Tw(j:PE X a ta)(k:PE X (.BoolOp .And (b::rest) pos) tb):PE X (.BoolOp .And (a::b::rest) pos) (R8 ta tb):=by
 intro d s f H Q I h;refine BoolOp_and (oO (j d s f H _ I h) λv l ⟨x,g,i,m,e⟩=>?_);obtain⟨c,rfl,e⟩:=e;cases m;refine cO ?_;cases c with
 |true=>exact k d l f g Q i e
 |false=>exact⟨.bl Qp,g,i,rfl,e⟩
def RP(j:PE X a ta)(k:PE X (.BoolOp .Or (b::rest) pos) tb):PE X (.BoolOp .Or (a::b::rest) pos) (Q0 ta tb):=by
 intro d s f H Q I h;refine BoolOp_or (oO (j d s f H _ I h) λv l ⟨x,g,i,m,e⟩=>?_);obtain⟨c,rfl,e⟩:=e;cases m;refine cO ?_;cases c with
 |false=>exact k d l f g Q i e
 |true=>exact⟨.bl Qo,g,i,rfl,e⟩
def SQ(f:PE X a ta):PE X (.UnaryOp .Not a pos) (RY ta):=by intro d s g H Q I h;refine UnaryOp_ (oO (f d s g H _ I h) λv l ⟨x,i,j,k,e⟩=>?_);obtain⟨c,rfl,e⟩:=e;cases k;exact not_of<|cO ⟨.bl<|!c,i,j,rfl,e⟩
def tIf(t:TT)(ta tb:TE):TE:=λσ H Q=>t σ H λc H1=>if c=Qo then ta σ H1 Q else tb σ H1 Q
def VN{c:aZ}(l:PT X c tA)(m:PE X a ta)(n:PE X b tb):PE X (.IfExp c a b pos) (tIf tA ta tb):=by
 intro e s f H Q I h;refine wpAny_IfExp (oO (l e s f H _ I h) λd g ⟨i,j,k⟩=>?_);cases d with
 |true=>exact m e g f i Q j k
 |false=>exact n e g f i Q j k
end
def pI(K:ag)(H:Hp)(a:af)(xs:List V):Prop:=
 Rd H a (.lst xs) \/
  ∃(o:Obj)(f_:Array ae)(n:Nat),K.lookup a=Qg o/\o.cls=.type "list"/\o.dict=Qn/\o.data=.seq f_ n/\f_.size<=aK/\nz xs f_.toList
def qP(K:ag)(H:Hp)(a:af)(xs:List V):Prop:=
 Rd H a (.tup xs) \/
  ∃(o:Obj)(f_:Array ae)(n:Nat),K.lookup a=Qg o/\o.cls=.type "tuple"/\o.data=.seq f_ n/\f_.size<=aK/\nz xs f_.toList
def Rf:ae->Option V
 |.none=>Qg .non
 |.bool b=>Qg<|.bl b
 |.int i _=>Qg<|.int i
 |.str x _=>Qg<|.str x
 |.bytes b _=>Qg<|.byt b
 |.float b _=>Qg<|.flt b
 |.ref a=>Qg<|.ref a
 |.type n=>Qg<|.ty n
 |_=>Qn
def RelV.abs(r:RelV x u):Rf u=Qg x:=by
 cases x with
 |non=>cases r;rfl
 |bl _=>cases r;rfl
 |int _=>obtain⟨t,rfl⟩:=r;rfl
 |str _=>obtain⟨t,rfl⟩:=r;rfl
 |byt _=>obtain⟨t,rfl⟩:=r;rfl
 |flt _=>obtain⟨t,rfl⟩:=r;rfl
 |ref _=>cases r;rfl
 |ty _=>cases r;rfl
def RelV.inj(r:RelV x u)(q:RelV y u):x=y:=bL<|r.abs.symm.trans q.abs
theorem nz.inj:∀{a b:List V}{us:List ae},nz a us->nz b us->a=b
 |_,_,_,.nil,.nil=>rfl
 |_,_,_,.cons r t,.cons r' t'=>by rw[r.inj r',nz.inj t t']
section
variable{X:Cx}{Qc:List (af×Obj)}{σ:St}{H:Hp}{s:aj}{a:af}{xs:List V}
def pI.of{K:ag}(h:H a=Qg (.lst xs)):pI K H a xs:=.inl<|.inl h
def qP.of{K:ag}(h:H a=Qg (.tup xs)):qP K H a xs:=.inl<|.inl h
def Inv.list(I:Inv X Qc σ H s)(h:pI X.K H a xs):∃b:List ae,nz xs b/\PlainL s.heap a b.toArray/\xs.length<=aK:=by
 rcases h with h|⟨o,b,n,c,d,f,g,i,r⟩
 .obtain⟨z,b,n,r,e⟩:=h.ok I.hok;exact⟨b,r,⟨_,n,e,rfl,rfl,rfl⟩,z⟩
 .refine⟨b.toList,r,⟨o,n,I.kIn a o c,d,f,by simpa using g⟩,?_⟩;have e:=r.length;simp at e;lia
def Inv.tuple(I:Inv X Qc σ H s)(h:qP X.K H a xs):∃b:List ae,nz xs b/\IsTup s.heap a b.toArray/\xs.length<=aK:=by
 rcases h with h|⟨o,b,n,c,d,f,g,r⟩
 .obtain⟨z,b,r,p⟩:=h.ok I.hok;exact⟨b,r,p.tup,z⟩
 .refine⟨b.toList,r,⟨o,I.kIn a o c,d,n,by simpa using f⟩,?_⟩;have e:=r.length;simp at e;lia
def Inv.list_inj(I:Inv X Qc σ H s)(h:pI X.K H a xs)(h':pI X.K H a ys):xs=ys:=by
 obtain⟨f,r,⟨o,n,e,_,_,d⟩,_⟩:=I.list h;obtain⟨g,i,⟨j,k,b,_,_,c⟩,_⟩:=I.list h';rw[e] at b;cases b;rw[d] at c;injection c with d1 _;have:f=g:=by simpa using congrArg mY d1
 subst this;exact r.inj i
def Inv.tuple_inj(I:Inv X Qc σ H s)(h:qP X.K H a xs)(h':qP X.K H a ys):xs=ys:=by
 obtain⟨f,r,⟨o,e,_,n,d⟩,_⟩:=I.tuple h;obtain⟨g,i,⟨j,b,_,k,c⟩,_⟩:=I.tuple h';rw[e] at b;cases b;rw[d] at c;injection c with d1 _;have:f=g:=by simpa using congrArg mY d1
 subst this;exact r.inj i
end
abbrev Cx.wish(X:Cx)(E:ae->aj->Prop):Cx:={ X with xe:=E }
abbrev Cx.nox(X:Cx):Cx:=X.wish λ_ _=>False
def Cx.Ok.wish{X:Cx}(ok:X.Ok)(E:ae->aj->Prop):(X.wish E).Ok:=
 ⟨ok.mod,ok.kind,ok.glob,ok.blt,ok.above,ok.inj,ok.has,ok.cab,ok.hd,ok.frames,ok.stk,ok.exf,ok.bs,ok.bsz,ok.noex,ok.exfs,ok.funs,ok.frf⟩
def Cx.Ok.unwish{X:Cx}{E:ae->aj->Prop}(ok:(X.wish E).Ok):X.Ok:=
 ⟨ok.mod,ok.kind,ok.glob,ok.blt,ok.above,ok.inj,ok.has,ok.cab,ok.hd,ok.frames,ok.stk,ok.exf,ok.bs,ok.bsz,ok.noex,ok.exfs,ok.funs,ok.frf⟩
section
variable{X:Cx}{Qc:List (af×Obj)}{σ:St}{H:Hp}{s:aj}{E:ae->aj->Prop}
def Inv.wish(I:Inv X Qc σ H s)(E:ae->aj->Prop):Inv (X.wish E) Qc σ H s:=⟨I.ok.wish E,I.os,I.bare,I.base,I.loc,I.cell,I.free,I.freeC,I.pin,I.hok,I.len,I.tk⟩
def Inv.unwish(I:Inv (X.wish E) Qc σ H s):Inv X Qc σ H s:=⟨I.ok.unwish,I.os,I.bare,I.base,I.loc,I.cell,I.free,I.freeC,I.pin,I.hok,I.len,I.tk⟩
def SP.unwish{D:v7}{f:Flow}{c:aj}(h:SP (X.wish E) Qc D f c):SP X Qc D f c:=by
 cases f with
 |next=>obtain⟨a,b,I,q⟩:=h;exact⟨a,b,I.unwish,q⟩
 |brk=>obtain⟨a,b,I,q⟩:=h;exact⟨a,b,I.unwish,q⟩
 |cont=>obtain⟨a,b,I,q⟩:=h;exact⟨a,b,I.unwish,q⟩
 |ret u=>obtain⟨v,a,b,I,r,q⟩:=h;exact⟨v,a,b,I.unwish,r,q⟩
def PE.nox(h:PE X.nox e t):PE X e t:=λQc s σ H Q I a=>
 bQ (h Qc s σ H Q (I.wish _) a) (λ_ _ ⟨v,b,c,r,q⟩=>⟨v,b,c.unwish,r,q⟩) λ_ _ z=>ah z
def PT.nox(h:PT X.nox e t):PT X e t:=λQc s σ H Q I a=>
 bQ (h Qc s σ H Q (I.wish _) a) (λ_ _ ⟨b,c,q⟩=>⟨b,c.unwish,q⟩) λ_ _ z=>ah z
def qH.nox{a:List cN}{t:TS}(h:qH X.nox a t):qH X a t:=λQc s σ H D I b=>
 bQ (h Qc s σ H D (I.wish _) b) (λ_ _ q=>q.unwish) λ_ _ z=>ah z
end
section
variable{X:Cx}{st:cN}{rest:List cN}{t u:TS}{e:aZ}{te:TE}{pos:Pos}
def K3:TS:=λD σ H=>D.nx σ H
def Ru(t u:TS):TS:=λD σ H=>t { D with nx:=u D } σ H
def L_:qH X [] K3:=λ_ _ a H _ I h=>fb ⟨a,H,I,h⟩
def Aw(c:PS X st t)(d:qH X rest u):qH X (st::rest) (Ru t u):=by
 intro a s g H D I h;refine fH (oO (c a s g H { D with nx:=u D } I h) λf i q=>?_);cases f with
 | next=>
  obtain⟨b,j,k,q⟩:=q;exact d a i b j D k q
 |ret v=>exact q
 |brk=>exact q
 |cont=>exact q
def GY(b:PS X st t):qH X [st] t:=by
 intro a s c H D I h;refine fH (oO (b a s c H D I h) λf d q=>?_);cases f with
 |next=>exact fb q
 |ret v=>exact q
 |brk=>exact q
 |cont=>exact q
def UO:PS X (.Pass pos) K3:=λ_ _ a H _ I h=>wpAny_Pass ⟨a,H,I,h⟩
def Inv.quiet{a:List (af×Obj)}{b:St}{H:Hp}{s:aj}(I:Inv X a b H s):interactive X.env=Qp:=by simp[interactive,I.ok.kind]
def RW(te:TE):TS:=λD σ H=>te σ H λ_ H1=>D.nx σ H1
def MK(c:PE X e te)(d:swapsWith e Qn pos.line X.env=pure Qp:=by rfl):PS X (.Expr e pos) (RW te):=by intro a s b H D I h;exact wpAny_Expr_any (oO (c a s b H _ I h) λv j ⟨x,f,g,k,i⟩=>⟨b,f,g,i⟩) I.quiet d
def Rw(te:TE):TS:=λD σ H=>te σ H D.rt
def Su(c:PE X e te):PS X (.Return (Qg e) pos) (Rw te):=by intro a s b H D I h;exact wpAny_Return_some (oO (c a s b H _ I h) λv j ⟨x,d,f,g,i⟩=>⟨x,b,d,f,g,i⟩)
def Rh(c:TT)(t u:TS):TS:=λD σ H=>c σ H λb H1=>if b=Qo then t D σ H1 else u D σ H1
def R0{c:aZ}{a b:List cN}{i:TT}(n:PT X c i)(o:qH X a t)(p:qH X b u):PS X (.If c a b pos) (Rh i t u):=by
 intro f s g H D I h;refine wpAny_If (oO (n f s g H _ I h) λd j ⟨k,l,m⟩=>?_);cases d with
 |true=>exact o f j g k D l m
 |false=>exact p f j g k D l m
def TB:TS:=λ_ _ _=>False
def WI:qH X sts TB:=λ_ _ _ _ _ _ h=>h.elim
end
abbrev TG:=V->St->Hp->(St->Hp->Prop)->Prop
abbrev AV:=List V->St->Hp->(St->Hp->Prop)->Prop
def PG(X:Cx)(target:aZ)(t:TG):Prop:=
 ∀(Qc:List (af×Obj))(s:aj)(σ:St)(H:Hp)(v:V)(u:ae)(Q:St->Hp->Prop),Inv X Qc σ H s->RelV v u->t v σ H Q->
  am (aq X.prog X.w) X.A (assign target X.env u) (λ_ s'=>∃σ' H',Inv X Qc σ' H' s'/\Q σ' H') X.xe s
def FN(X:Cx)(ts:List aZ)(t:AV):Prop:=
 ∀(Qc:List (af×Obj))(s:aj)(σ:St)(H:Hp)(vs:List V)(us:List ae)(Q:St->Hp->Prop),Inv X Qc σ H s->nz vs us->t vs σ H Q->
  am (aq X.prog X.w) X.A (assignInOrder ((ie ts X.env).map (·.2)) us) (λ_ s'=>∃σ' H',Inv X Qc σ' H' s'/\Q σ' H') X.xe s
abbrev Rm:=V->V->V->Hp->(Hp->Prop)->Prop
abbrev FL:=V->V->Hp->VK->Prop
def QP(X:Cx)(op:Operator)(t:FL):Prop:=
 ∀(Qc:List (af×Obj))(s:aj)(σ:St)(H:Hp)(x y:V)(v u:ae)(Q:VK),Inv X Qc σ H s->RelV x v->RelV y u->t x y H Q->
  am (aq X.prog X.w) X.A (inplaceOp op v u) (EP X Qc σ Q) X.xe s
section
variable{X:Cx}{pos:Pos}
def xD(i:Nat):TG:=λv σ H Q=>Q (σ.set i<|Qg v) H
def EH(b:X.N.Nodup)(c:X.N[i]?=Qg x)(d:Loc X.env.scope x)(e:X.fn x=Qo\/X.env.scope.names.lookup x=Qg .local:=by first|exact .inl rfl|exact .inr rfl|assumption):PG X (.Name x pos) (xD i):=by intro a s g H v u Q I r h;exact ji (BE I b c d r (λj f=>⟨_,H,f,h⟩) e)
def Kn:AV:=λvs σ H Q=>vs=[]/\Q σ H
def Gk(t:TG)(u:AV):AV:=λvs σ H Q=>∃v r,vs=v::r/\t v σ H λσ' H'=>u r σ' H' Q
def Vq:FN X [] Kn:=by intro a s b H c d Q I r h;obtain⟨e,h⟩:=h;subst e;exact assignInOrder_nil ⟨b,H,I,h⟩
def Ni{e:aZ}{b:List aZ}{t:TG}{u:AV}(c:PG X e t)(d:FN X b u)
  (f:(ie (e::b) X.env).map (·.2)=assign e X.env::(ie b X.env).map (·.2):=by rfl):FN X (e::b) (Gk t u):=by
 intro a s g H o p Q I r h;obtain⟨v,q,i,h⟩:=h;subst i;cases r with
 | cons r rr=>
  rw[f];exact assignInOrder_cons (oO (c a s g H _ _ _ I r h) λ_ j ⟨k,l,m,n⟩=>(d a j k l _ _ Q m rr n))
noncomputable def Ko(K:ag)(n:Nat)(t:AV):TG:=λv σ H Q=>∃a xs,v=.ref a/\qP K H a xs/\xs.length=n/\t xs σ H Q
def S8(g:X.calm=Qo)(h:FN X es t)
  (i:(ie es X.env).length=n:=by rfl) (j:(ie es X.env).findIdx? (·.1)=Qn:=by rfl):PG X (.Tuple es k pos) (Ko X.K n t):=by intro c s l H v u Q I r d;obtain⟨a,m,p,q,w,d⟩:=d;subst p;cases r;obtain⟨B,f,x,C⟩:=I.tuple q;refine assign_Tuple_tuple (I.ok.hd g) x (by simp[i,<- w,f.length]) j λE y=>?_;have A:=I.kept λb o e=>y b o (bb<|aC e) e;exact h c _ l H m _ Q A ⇑f d
def A3(to ti:TE)(t:Rm):TG:=λv σ H Q=>to σ H λo H1=>ti σ H1 λi H2=>t o i v H2 λH3=>Q σ H3
def zW(te:TE)(g:TG):TS:=λD σ H=>te σ H λx H1=>g x σ H1 D.nx
def Sa{b e:aZ}{c:TE}{g:TG}(f:PE X e c)(i:PG X b g)(j:i9 [b] e pos.line X.env=pure Qp:=by rfl)(k:ja [b] e X.env=pure Qn:=by rfl)
  (l:(ie [b] X.env).map (·.2)=[assign b X.env]:=by rfl):PS X (.Assign [b] e pos) (zW c g):=by intro a s d H D I h;refine wpAny_Assign_stores (oO (f a s d H _ I h) λv m ⟨x,n,o,p,r⟩=>?_) j k;rw[l];exact oO (i a m d n x v _ o p r) λ_ t q=>q
def GI{i:Nat}{x:ao}{e:aZ}{c:TE}{a:Pos}(d:X.N.Nodup)(f:X.N[i]?=Qg x)(g:Loc X.env.scope x)(j:PE X e c)(k:swapsWith e (Qg<|.Name x a) pos.line X.env=pure Qp:=by rfl)(l:X.fn x=Qo\/X.env.scope.names.lookup x=Qg .local:=by first|exact .inl rfl|exact .inr rfl|assumption):
  PS X (.Assign [.Name x a] e pos) (zW c<|xD i):=by intro b s m H D I h;refine wpAny_Assign_Name (oO (j b s m H _ I h) λv t ⟨y,n,o,p,q⟩=>?_) k;exact BE o d f g p (λu r=>⟨_,n,r,q⟩) l
def RD(i:Nat)(te:TE)(ti:FL):TS:=λD σ H=>∃x,σ[i]?=Qg (Qg x)/\te σ H λy H1=>ti x y H1 λz H2=>D.nx (σ.set i<|Qg z) H2
def Sb{i:Nat}{x:ao}{e:aZ}{g:TE}{d:Operator}{j:FL}{b:Pos}(q:X.N.Nodup)(n:X.N[i]?=Qg x)(f:Loc X.env.scope x)(t:PE X e g)(B:QP X d j)(C:X.fn x=Qo\/X.env.scope.names.lookup x=Qg .local:=by first|exact .inl rfl|exact .inr rfl|assumption):
  PS X (.AugAssign (.Name x b) d e pos) (RD i g j):=by
 intro a s o H D I h;obtain⟨v,E,h⟩:=h;obtain⟨m,G,J⟩:=I.loc;have L:qu X.env.scope x:=by rcases f with k|k;exact .inl k;exact .inr<|.inl k
 obtain⟨u,r,l⟩:=J i x v n E L;refine wpAny_AugAssign_Name ?_;have p:am (aq X.prog X.w) X.A (eval e X.env) (λw M=>am (aq X.prog X.w) X.A (inplaceOp d u w) (λr O=>am (aq X.prog X.w) X.A (storeName X.env x r) (λ_=>SP X a D .next) X.xe O) X.xe M) X.xe s:=by
  refine oO (t a s o H _ I h) λw P ⟨y,Q,S,T,U⟩=>?_;exact oO (B a P o Q v y u w _ S r T U) λz s2 ⟨zv,Y,Z,r2,q2⟩=>(BE Z q n f r2 (λs3 I3=>⟨_,Y,I3,q2⟩) C)
 rcases l with⟨hk,hm⟩|⟨hk,c,hc,pN⟩
 .exact ic I.ok.kind hk G hm p
 .rcases hk with hk|hk
  .exact iC I.ok.kind hk hc pN p
  .rcases f with k|k
   .have:X.env.scope.names.lookup x=Qg .free:=hk;rw[k] at this;cases this
   .have:X.env.scope.names.lookup x=Qg .free:=hk;rw[k] at this;cases this
def ipI(f:Int->Int->Int):FL:=λx y H Q=>∃i j,x=.int i/\y=.int j/\Q (.int<|f i j) H
def Uh:QP X .Add (ipI λi j=>i+j):=by intro a s f H x y v u Q I b c h;obtain⟨i,j,d,e,q⟩:=h;subst d;subst e;obtain⟨t,rfl⟩:=b;obtain⟨g,rfl⟩:=c;exact iadd_int ⟨.int _,H,I.tok _,⟨_,rfl⟩,q⟩
end
section
variable{X:Cx}{pos:Pos}
def Tr(c:TT)(tb:TS):TS:=λD σ H=>∃W:Nat->St->Hp->Prop,(∃m,W m σ H)/\∀m σ H,W m σ H->
 c σ H λb H1=>if b=Qo then ∃N:St->Hp->Prop,(∀σ' H',N σ' H'->∃m',m'<m/\W m' σ' H')/\tb { D with nx:=N,ct:=N,bk:=D.nx } σ H1 else D.nx σ H1
def VR{c:aZ}{body:List cN}{t:TT}{u:TS}(x:iW (aq X.prog X.w) X.A X.env X.xe)(J:PT X c t)(L:qH X body u):PS X (.While c body [] pos) (Tr t u):=by
 intro a s M H D I h;obtain⟨W,⟨O,P⟩,d⟩:=h;refine wpAny_While<|codeAny_whileLoop (λn Q=>∃e y,Inv X a e y Q/\W n e y) ?_ O ⟨M,H,I,P⟩;rintro n S ⟨j,B,T,U⟩;refine eC x (oO (J a S j B _ T<|d n j B U) λb Y ⟨C,E,k⟩=>?_);cases b with
 | true=>
  obtain⟨N,G,k⟩:=k;refine eC x (oO (L a Y j C _ E k) λf Z l=>?_);cases f with
  | next=>
   obtain⟨g,i,m,o⟩:=l;obtain⟨p,q,r⟩:=G g i o;exact⟨p,q,g,i,m,r⟩
  | cont=>
   obtain⟨g,i,m,o⟩:=l;obtain⟨p,q,r⟩:=G g i o;exact⟨p,q,g,i,m,r⟩
  |brk=>exact l
  |ret v=>exact l
 | false=>
  exact fb ⟨j,C,E,k⟩
end
structure It where
 go:Nat->Hp->Prop
 yld:Nat->Hp->V->Hp->Prop
 stop:Nat->Hp->Prop
def qV(X:Cx)(Qc:List (af×Obj))(H:Hp)(b:af):Prop:=
 H b=Qn/\b≠X.env.locals/\b∉X.fs/\(b∈X.ex\/X.s₀.heap.objs.size<=b)/\(∀x c,X.env.cells.lookup x=Qg c->c≠b)/\∀p∈X.pn++Qc,p.1≠b
def Inv.fpOk(I:Inv X Qc σ H s)(a:s.heap.objs.size<=b)(d:H' b=Qn):qV X Qc H' b:=by
 refine⟨d,dQ<|aV I.lt a,I.nofs a,.inr<|aP I.sz a,λx c e z=>?_,λp f z=>?_⟩
 .obtain⟨v,q⟩:=I.cell x c e;exact absurd (aV q.lt (by rw[z];exact a))<|bV _
 .exact absurd (aV (aC (I.pin p f).1) (by rw[z];exact a))<|bV _
structure vi(P:aE)(w:aG)(K:ag)(tg:aZ)(J:It)(fp:List af)(it:af)(tn:Nat->aJ->Prop):Prop where
 mem:it∈fp
 obj:∀i h,tn i h->∀b∈fp,∃o,h.get? b=Qg o/\∀v,o.data ≠ .cell v
 keep:∀i h h',tn i h->(∀b∈fp,∀o,h.get? b=Qg o->h'.get? b=Qg o)->tn i h'
 item:∀(X:Cx),X.prog=P->X.w=w->X.K=K->X.calm=Qo->∀(i:Nat)(Qc:List (af×Obj))(s:aj)(σ:St)(H:Hp)(E:ae->aj->Prop),Inv X Qc σ H s->(∀b∈fp,qV X Qc H b)->tn i s.heap->J.go i H->
  am (aq P w) X.A (pyNext<|.ref it) (λr s1=>∃u,r=Qg u/\
   am (aq P w) X.A (letOwnedTupleGo tg (.ref it) u) (λ_ s2=>∃x H',Inv X Qc σ H' s2/\RelV x u/\J.yld i H x H'/\tn (i+1) s2.heap/\∀b∈fp,H' b=Qn) E s1) E s
 done:∀(X:Cx),X.prog=P->X.w=w->X.K=K->X.calm=Qo->∀(i:Nat)(Qc:List (af×Obj))(s:aj)(σ:St)(H:Hp)(E:ae->aj->Prop),Inv X Qc σ H s->(∀b∈fp,qV X Qc H b)->tn i s.heap->J.stop i H->
  am (aq P w) X.A (pyNext<|.ref it) (λr s1=>r=Qn/\Inv X Qc σ H s1) E s
 self:∀(A:aY)(i:Nat)(s:aj)(Q:ae->aj->Prop)(E:ae->aj->Prop),tn i s.heap->Q (.ref it) s->am (aq P w) A (pyIter<|.ref it) Q E s
abbrev TI:=St->Hp->(It->Hp->Prop)->Prop
def QQ(X:Cx)(Qc:List (af×Obj))(σ:St)(tg:aZ)(R:It->Hp->Prop)(Cz:ae)(s2:aj):Prop:=
 ∃(it:af)(fp:List af)(tn:Nat->aJ->Prop)(J:It)(H':Hp),Cz=.ref it/\Inv X Qc σ H' s2/\vi X.prog X.w X.K tg J fp it tn/\tn 0 s2.heap/\(∀b∈fp,qV X Qc H' b)/\R J H'
def PI(X:Cx)(tg iter:aZ)(wi:TI):Prop:=
 ∀(Qc:List (af×Obj))(s:aj)(σ:St)(H:Hp)(R:It->Hp->Prop),Inv X Qc σ H s->wi σ H R->
  am (aq X.prog X.w) X.A (eval iter X.env) (λv s1=>am (aq X.prog X.w) X.A (pyIter v) (QQ X Qc σ tg R) X.xe s1) X.xe s
def Bg(b:s.heap.get? it=Qg o)(c:o.cls=.type n)(d:o.data=.fields vs)
  (e:["enumerate", "zip", "dict_itemiterator", "dict_reverseitemiterator", "odict_iterator", "itertools.zip_longest", "itertools.pairwise"].contains n=Qp) (a:Q () s):am M A (letOwnedTupleGo tg (.ref it) u) Q E s:=by
 cases tg<;>first
  |exact ak a
  | (cases u<;>first
    |exact ak a
    | (refine aa (kP b ?_)
       rw[c,d];show am M A (if (["enumerate", "zip", "dict_itemiterator", "dict_reverseitemiterator", "odict_iterator", "itertools.zip_longest", "itertools.pairwise"].contains n&&vs[0]?==Qg (bB _))=Qo then _ else _) Q E s;rw[Qu (by intro h;rw[e,Bool.false_and] at h;cases h)];exact ak a))
noncomputable def JZ(K:ag)(a:af):It:=
 ⟨λi H=>∃xs x,pI K H a xs/\xs[i]?=Qg x,λi H x H'=>H'=H/\∀xs,pI K H a xs->xs[i]?=Qg x,λi H=>∃xs,pI K H a xs/\xs.length<=i⟩
noncomputable def JY(K:ag)(a:af):It:=
 ⟨λi H=>∃xs x,qP K H a xs/\xs[i]?=Qg x,λi H x H'=>H'=H/\∀xs,qP K H a xs->xs[i]?=Qg x,λi H=>∃xs,qP K H a xs/\xs.length<=i⟩
noncomputable def FQ(lo:Int)(n:Nat):It:=⟨λi _=>i<n,λi H x H'=>H'=H/\x=.int (lo+i),λi _=>n<=i⟩
def N0{P:aE}{w:aG}{K:ag}{Q:aZ}(a it:af):vi P w K Q (JZ K a) [it] it (λi h=>h.IsListIter it a i) where
 mem:=by simp
 obj:=λi h f b g=>by
  have e:b=it:=⇑g
  subst e;obtain⟨o,e,c,d⟩:=f;exact⟨o,e,λv z=>by rw[d] at z;cases z⟩
 keep:=λi h M f k=>f.at λo e=>k it 'k' o e
 item:=by
  intro X n q r N i j s S H E I l f t;subst n q r;obtain⟨T,x,m,y⟩:=t;obtain⟨U,A,p,Y⟩:=I.list m;obtain⟨u,Z,ru⟩:=A.get y;obtain⟨B,C,f2,G,J,L⟩:=l it 'k';refine wpAny_pyNext_list_item f p.isList ⇑Z λM O sb=>?_;have I1:=I.turned (λb o g e=>(sb.2 b g).trans e) B C G J L;obtain⟨o,e,c,d⟩:=id O;exact⟨u,rfl,Bg e c d 'b' ⟨x,H,I1,ru,⟨rfl,λys hy=>by rw[I.list_inj hy m];exact y⟩,O,λb g=>(l b g).1⟩⟩
 done:=by
  intro X n q r N i j s S H E I l f t;subst n q r;obtain⟨T,m,y⟩:=t;obtain⟨U,A,p,Y⟩:=I.list m;obtain⟨B,C,f2,G,J,L⟩:=l it 'k';have hl:=A.length;exact wpAny_pyNext_list_end (I.ok.hd N) f p.isList (by simp;lia) λM eb=>⟨rfl,I.turned (λb o g e=>eb b o g e) B C G J L⟩
 self:=λ_ _ _ _ _ f h=>wpAny_pyIter_listiter f h
def Xx{P:aE}{w:aG}{K:ag}{Q:aZ}(a it:af):vi P w K Q (JY K a) [it] it (λi h=>h.IsTupleIter it a i) where
 mem:=by simp
 obj:=λi h f b g=>by
  have e:b=it:=⇑g
  subst e;obtain⟨o,e,c,d⟩:=f;exact⟨o,e,λv z=>by rw[d] at z;cases z⟩
 keep:=λi h M f k=>f.at λo e=>k it 'k' o e
 item:=by
  intro X n q r N i j s S H E I l f t;subst n q r;obtain⟨T,x,m,y⟩:=t;obtain⟨U,A,p,Y⟩:=I.tuple m;obtain⟨u,Z,ru⟩:=A.get y;obtain⟨B,C,f2,G,J,L⟩:=l it 'k';refine wpAny_pyNext_tuple_item f (p) ⇑Z λM O sb=>?_;have I1:=I.turned (λb o g e=>(sb.2 b g).trans e) B C G J L;obtain⟨o,e,c,d⟩:=id O;exact⟨u,rfl,Bg e c d 'b' ⟨x,H,I1,ru,⟨rfl,λys hy=>by rw[I.tuple_inj hy m];exact y⟩,O,λb g=>(l b g).1⟩⟩
 done:=by
  intro X n q r N i j s S H E I l f t;subst n q r;obtain⟨T,m,y⟩:=t;obtain⟨U,A,p,Y⟩:=I.tuple m;obtain⟨B,C,f2,G,J,L⟩:=l it 'k';have hl:=A.length;exact wpAny_pyNext_tuple_end (I.ok.hd N) f (p) (by simp;lia) λM eb=>⟨rfl,I.turned (λb o g e=>eb b o g e) B C G J L⟩
 self:=λ_ _ _ _ _ f h=>wpAny_pyIter_tupleiter f h
def XC{P:aE}{w:aG}{K:ag}{J:aZ}(it:af)(f:Int)(n:Nat):vi P w K J (FQ f n) [it] it (λi h=>IsRangeIter h it (f+(i:Nat)*1) ((n:Int)-(i:Nat)) 1) where
 mem:=by simp
 obj:=λi h a b d=>by
  have e:b=it:=⇑d
  subst e;exact⟨_,a,λv z=>by
   have L:=z;cases L⟩
 keep:=λi h j a k=>k it 'k' _ a
 item:=by
  intro X y A B l i c s C H E I g a m;subst y A B;obtain⟨p,q,M,r,u,x⟩:=g it 'k';have W:=Walks.range (prog:=X.prog) (w:=X.w) (I.ok.hd l) it f 1 n;refine ig I.tk (W.item i s _ _ m a λv j N O G Q U=>?_);obtain⟨t,rfl⟩:=O;have S:Inv X c C H { s with heap:=j,toks:=N }:=I.turned (λb o d e=>Q b o ⇑d e) p q r u x;refine⟨_,rfl,Bg G rfl rfl 'b' ⟨.int<|f+i,H,S,⟨t,?_⟩,⟨rfl,rfl⟩,G,λb d=>(g b d).1⟩⟩;rw[Int.mul_one]
 done:=by
  intro X y A B l i c s C H E I g a m;obtain⟨p,q,M,r,u,x⟩:=g it 'k';exact wpAny_pyNext_range_end (I.ok.hd l) a (by have:n<=i:=m;lia) λj T=>⟨rfl,I.turned (λb o d e=>T b o d e) p q r u x⟩
 self:=λ_ _ _ _ _ a h=>wpAny_pyIter_rangeiter a h
section
variable{X:Cx}
def VF{c:List (af×Obj)}{f:St}{H:Hp}{s:aj}{R:It->Hp->Prop}{E:ae->aj->Prop}{a d:Int}{t u v:Tok}{g:Nat}(I:Inv X c f H s)(i:-(2 ^ 62)<=a)(j:a<2 ^ 62)(k:-(2 ^ 62)<=d)(l:d<2 ^ 62)
  (q:R (FQ a (d-a).toNat) H) (r:0<g):am (aq X.prog X.w) X.A (pyIter<|.ref s.heap.objs.size) (QQ X c f tg R) E { s with heap:=s.heap.push { cls:=.type "range",data:=.fields #[.int a t,.int d u,.int 1 v] },toks:=g }:=by
 refine wpAny_pyIter_range (IsRange.new ..) (small_one i j k l) ?_;have h:Inv X c f H { s with heap:=s.heap.push { cls:=.type "range",data:=.fields #[.int a t,.int d u,.int 1 v] },toks:=g }:=I.kept λb o e=>ai _ e;refine⟨(s.heap.push { cls:=.type "range",data:=.fields #[.int a t,.int d u,.int 1 v] }).objs.size,[(s.heap.push { cls:=.type "range",data:=.fields #[.int a t,.int d u,.int 1 v] }).objs.size],_,_,H,rfl,
  h.kept λb o e=>ai _ e,XC _ a (d-a).toNat,?_,λb m=>?_,q⟩
 .have n:a+((0:Nat):Int)*1=a:=by simp
  have p:(((d-a).toNat:Nat):Int)-((0:Nat):Int)=Builtin.Range.rangeSize a d 1:=by rw[rangeSize_one];split<;>lia
  rw[n,p];exact aA _ rfl
 .have e:b=(s.heap.push { cls:=.type "range",data:=.fields #[.int a t,.int d u,.int 1 v] }).objs.size:=⇑m
  subst e;exact h.fpOk (ay _) (h.hok.fresh<|ay _)
def RE(ta:TA):TI:=λσ H R=>ta σ H λvs H1=>∃j:Int,vs=[.int j]/\-(2 ^ 62)<=j/\j<2 ^ 62/\R (FQ 0 j.toNat) H1
def Wz{a:aZ}{f:TA}{p b:Pos}(i:Gl X "range")(k:X.mg "range" = Qn)(l:PA X [a] f)(m:au [a] X.env=[(Qp,eval a X.env)]:=by rfl):PI X tg (.Call (.Name "range" p) [a] [] b) (RE f):=by
 intro c s n H R I h;refine m9 (Ag I i k boot_range<|fE (oO (l b c s n H _ I h) λv w ⟨x,y,g,o,d⟩=>?_) m rfl);obtain⟨j,e,d,u,q⟩:=d;subst e;cases o with
 | cons r rr=>
  cases rr;obtain⟨t,rfl⟩:=r;exact call_range_1 (VF g 'd' 'd' d u ⇑q (by first|exact cR _|exact g.tk))
def Ra(wi:TI)(g:TG)(tb:TS):TS:=λD σ H=>wi σ H λJ H1=>∃W:Nat->Nat->St->Hp->Prop,(∃m,W 0 m σ H1)/\∀i m σ H,W i m σ H->
 (J.stop i H/\D.nx σ H)\/(J.go i H/\∃N:St->Hp->Prop,(∀σ' H',N σ' H'->∃m',m'<m/\W (i+1) m' σ' H')/\∀x H',J.yld i H x H'->g x σ H' λqQ H2=>tb { D with nx:=N,ct:=N,bk:=D.nx } qQ H2)
def Bo(fp:List af)(h:aJ):List (af×Obj):=fp.filterMap λb=>(h.get? b).map λo=>(b,o)
def EU(a:b∈fp)(e:h.get? b=Qg o):(b,o)∈Bo fp h:=f9.mpr ⟨b,a,by rw[e];rfl⟩
def Wa(a:p∈Bo fp h):p.1∈fp/\h.get? p.1=Qg p.2:=by
 obtain⟨b,c,e⟩:=f9.mp a;cases q:h.get? b with
 |none=>rw[q] at e;cases e
 | some o=>
  rw[q] at e;have d:=bL e;subst d;exact⟨c,q⟩
def Inv.pinned(I:Inv X Qc σ H s)(f:∀b∈fp,qV X Qc H b)(g:∀b∈fp,∃o,s.heap.get? b=Qg o/\∀v,o.data ≠ .cell v):Inv X (Qc++Bo fp s.heap) σ H s:=
 I.pins_of λp h=>(aO.mp h).elim (λz=>I.pin p<|ax _ z) λz=>by
  obtain⟨a,e⟩:=Wa z;obtain⟨i,j,k,_⟩:=f p.1 a;obtain⟨o,c,d⟩:=g p.1 a;rw[e] at c;cases c;exact⟨e,i,j,k,d⟩
def Inv.unpinned(I:Inv X (Qc++pl) σ H s):Inv X Qc σ H s:=I.pins_of λp a=>I.pin p (ax _<|cr _ a)
def Lx(B:iW (aq X.prog X.w) X.A X.env X.xe)(hc:X.calm=Qo)(hi:PI X tg iter wi)(hg:PG X tg g)(c:qH X body tb)
  (hs:∀x,bw iter X.env x=pure x:=by intro _;rfl):PS X (.For tg iter body [] pos) (Ra wi g tb):=by
 intro a s σ H D I h;refine wpAny_For (oO (hi a s σ H _ I h) λv s1 h1=>oO h1 λCz s2 h2=>?_) hs;obtain⟨it,C,tn,J,H2,e,I2,T,pC,f2,W,⟨m0,w0⟩,E⟩:=h2;subst e
 -- Z8 stays Qo of the zl objects through the loop
 have Q:∀{t:Hp},(∀b∈C,t b=Qn)->∀b∈C,qV X a t b:=λhn b c=>⟨hn b c,(f2 b c).2⟩;refine codeAny_forLoop_any (λn s'=>∃i j t,Inv X a j t s'/\tn i s'.heap/\(∀b∈C,t b=Qn)/\W i n j t) ?_ m0 ⟨0,σ,H2,I2,pC,λb c=>(f2 b c).1,w0⟩;rintro n s3 ⟨i,G,P,I3,o5,FH,w3⟩;rcases E i n G P w3 with⟨L,qn⟩|⟨go,N,hN,M⟩
 .refine eC B (oO (T.done X rfl rfl rfl hc i a s3 G P X.xe I3 (Q FH) o5 L) λr s4 ⟨S,I4⟩=>?_);subst S;exact fb ⟨G,P,I4,qn⟩
 .refine eC B (oO (T.item X rfl rfl rfl hc i a s3 G P X.xe I3 (Q FH) o5 go) λr s4 ⟨u,S,h4⟩=>?_);subst S;refine eC B (oO h4 λ_ s5 ⟨x,H5,I5,r5,y5,U,Y⟩=>?_);have Z:=I5.pinned (Q Y)<|T.obj _ _ U;refine eC B (oO (hg _ s5 G H5 x u _ Z r5<|M x H5 y5) λ_ s6 ⟨J2,H6,I6,q6⟩=>(eC B (oO (c _ s6 J2 H6 _ I6 q6) λf s7 y=>?_)));have k:∀{l:St}{p:Hp},Inv X (a++Bo C s5.heap) l p s7->N l p->∃m,m<n/\∃i j t,Inv X a j t s7/\tn i s7.heap/\(∀b∈C,t b=Qn)/\W i m j t:=λ{l p}q O=>by
   obtain⟨m',hm,w7⟩:=hN l p O;refine⟨m',hm,i+1,l,p,q.unpinned,T.keep _ _ _ U λb c o e=>(q.pin (b,o)<|ax _ (ax _<|EU c e)).1,λb c=>?_,w7⟩;obtain⟨o,e,d⟩:=T.obj _ _ U b c;exact(q.pin (b,o)<|ax _ (ax _<|EU c e)).2.1
  cases f with
  |next=>obtain⟨l,p,q,O⟩:=y;exact k q O
  |cont=>obtain⟨l,p,q,O⟩:=y;exact k q O
  |brk=>obtain⟨l,p,q,y⟩:=y;exact⟨l,p,q.unpinned,y⟩
  |ret v=>obtain⟨x7,l,p,q,r7,y⟩:=y;exact⟨x7,l,p,q.unpinned,r7,y⟩
end
abbrev R2:=V->V->Hp->VK->Prop
def pY(X:Cx)(f:ae->ae->Sem ae)(r:R2):Prop:=
 ∀(Qc:List (af×Obj))(s:aj)(σ:St)(H:Hp)(x y:V)(v u:ae)(Q:VK),Inv X Qc σ H s->RelV x v->RelV y u->r x y H Q->
  am (aq X.prog X.w) X.A (f v u) (EP X Qc σ Q) X.xe s
def JX(X:Cx)(f:ae->Sem ae)(r:V->Hp->VK->Prop):Prop:=
 ∀(Qc:List (af×Obj))(s:aj)(σ:St)(H:Hp)(x:V)(v:ae)(Q:VK),Inv X Qc σ H s->RelV x v->r x H Q->
  am (aq X.prog X.w) X.A (f v) (EP X Qc σ Q) X.xe s
def nM(X:Cx)(f:ae)(r:List V->Hp->VK->Prop):Prop:=
 ∀(Qc:List (af×Obj))(s:aj)(σ:St)(H:Hp)(xs:List V)(us:List ae)(Q:VK),Inv X Qc σ H s->nz xs us->r xs H Q->
  am (aq X.prog X.w) X.A (call f us) (EP X Qc σ Q) X.xe s
def Rc(X:Cx)(r:V->Hp->(Bool->Hp->Prop)->Prop):Prop:=
 ∀(Qc:List (af×Obj))(s:aj)(σ:St)(H:Hp)(x:V)(v:ae)(Q:Bool->Hp->Prop),Inv X Qc σ H s->RelV x v->r x H Q->
  am (aq X.prog X.w) X.A (truthy v) (TP X Qc σ Q) X.xe s
def B7(r:R2)(ta tb:TE):TE:=λσ H Q=>ta σ H λx H1=>tb σ H1 λy H2=>r x y H2 Q
def tUn(r:V->Hp->VK->Prop)(ta:TE):TE:=λσ H Q=>ta σ H λx H1=>r x H1 Q
def rI(C:Int->Int->Prop)(g:Int->Int->V):R2:=λx y H Q=>∃i j,x=.int i/\y=.int j/\C i j/\Q (g i j) H
def yD(g:Int->Int->V):R2:=λx y H Q=>∃i j,x=.int i/\y=.int j/\Q (g i j) H
def rU(g:Int->V):V->Hp->VK->Prop:=λx H Q=>∃i,x=.int i/\Q (g i) H
section
variable{X:Cx}{a b:aZ}{pos:Pos}
def F2(j:PE X a ta)(k:PE X b tb){c:List (af×Obj)}{s:aj}{d:St}{H:Hp}{R:V->V->Hp->Prop}(I:Inv X c d H s)
  (h:ta d H λx i=>tb d i λy e=>R x y e) {Q:ae->aj->Prop} {f:ae->ae->Sem ae}
  (l:∀v u g x y e,Inv X c d e g->RelV x v->RelV y u->R x y e->am (aq X.prog X.w) X.A (f v u) Q X.xe g):
  am (aq X.prog X.w) X.A (eval a X.env) (λv m=>am (aq X.prog X.w) X.A (eval b X.env) (λu n=>am (aq X.prog X.w) X.A (f v u) Q X.xe n) X.xe m) X.xe s:=by refine oO (j c s d H _ I h) λv o ⟨x,i,p,q,r⟩=>?_;exact oO (k c o d i _ p r) λu g ⟨y,e,t,B,C⟩=>(l v u g x y e t q B C)
def RQ{d:Operator}{r:R2}(e:pY X (eU d) r)(f:PE X a ta)(g:PE X b tb):PE X (.BinOp a d b pos) (B7 r ta tb):=by intro c s i H Q I h;exact wpAny_BinOp (F2 f g I h λv u j x y k l m n q=>e c j i k x y v u Q l m n q)
def RG(e:JX X (unaryOp op) r)(f:PE X a ta):PE X (.UnaryOp op a pos) (tUn r ta):=by intro c s d H Q I h;exact UnaryOp_ (oO (f c s d H _ I h) λv g ⟨x,i,j,k,l⟩=>e c g d i x v Q j k l)
def PQ{f:ae->ae->Sem ae}{C:Int->Int->Prop}{g:Int->Int->Int}
  (c:∀(i j:Int)(t u:Tok)(s:aj)(Q:ae->aj->Prop)(E:ae->aj->Prop),C i j->Q (.int (g i j) s.toks) { s with toks:=s.toks+1 }->am (aq X.prog X.w) X.A (f (.int i t)<|.int j u) Q E s):
  pY X f (rI C λi j=>.int<|g i j):=by intro d s n H x y v u Q I e k h;obtain⟨i,j,rfl,rfl,l,q⟩:=h;obtain⟨t,rfl⟩:=e;obtain⟨m,rfl⟩:=k;exact c i j t m s _ _ l ⟨.int<|g i j,H,I.tok _,⟨_,rfl⟩,q⟩
def Kj{f:ae->ae->Sem ae}{g:Int->Int->Int}
  (c:∀(i j:Int)(t u:Tok)(s:aj)(Q:ae->aj->Prop)(E:ae->aj->Prop),Q (.int (g i j) s.toks) { s with toks:=s.toks+1 }->am (aq X.prog X.w) X.A (f (.int i t)<|.int j u) Q E s):
  pY X f (yD λi j=>.int<|g i j):=by intro d s m H x y v u Q I e k h;obtain⟨i,j,rfl,rfl,q⟩:=h;obtain⟨t,rfl⟩:=e;obtain⟨l,rfl⟩:=k;exact c i j t l s _ _ ⟨.int<|g i j,H,I.tok _,⟨_,rfl⟩,q⟩
def Q7{f:ae->ae->Sem ae}{g:Int->Int->Bool}
  (c:∀(i j:Int)(t u:Tok)(s:aj)(Q:ae->aj->Prop)(E:ae->aj->Prop),Q (.bool<|g i j) s->am (aq X.prog X.w) X.A (f (.int i t)<|.int j u) Q E s):
  pY X f (yD λi j=>.bl<|g i j):=by intro d s m H x y v u Q I e k h;obtain⟨i,j,rfl,rfl,q⟩:=h;obtain⟨t,rfl⟩:=e;obtain⟨l,rfl⟩:=k;exact c i j t l s _ _ ⟨.bl<|g i j,H,I,rfl,q⟩
def oz(i j:Int):Prop:=(-(2 ^ 64)<i/\i<2 ^ 64)\/(-(2 ^ 64)<j/\j<2 ^ 64)
def oz.ok(h:oz i j):IntMulOk i j:=by
 rcases h with⟨c,d⟩|⟨c,d⟩
 .exact .of_left<|intBits_le_64 c d
 .exact .of_right<|intBits_le_64 c d
def Tq:pY X (eU .Add) (yD λi j=>.int<|i+j):=Kj λ_ _ _ _ _ _ _ q=>add_int q
def SA:pY X (eU .Sub) (yD λi j=>.int<|i-j):=Kj λ_ _ _ _ _ _ _ q=>sub_int q
def Tv:pY X (eU .Mult) (rI oz λi j=>.int<|i*j):=PQ λ_ _ _ _ _ _ _ c q=>mul_int q c.ok
def Lz:pY X (eU .Mod) (rI (λ_ j=>0<j) λi j=>.int<|i%j):=PQ λi j _ _ _ _ _ c q=>by
 exact mod_int' 'd' (by rw[Int.fmod_eq_emod_of_nonneg i 'd'];exact q)
def unI{f:ae->Sem ae}{g:Int->Int}
  (c:∀(i:Int)(t:Tok)(s:aj)(Q:ae->aj->Prop)(E:ae->aj->Prop),Q (.int (g i) s.toks) { s with toks:=s.toks+1 }->am (aq X.prog X.w) X.A (f<|.int i t) Q E s):
  JX X f (rU λi=>.int<|g i):=by intro d s j H x v Q I e h;obtain⟨i,rfl,q⟩:=h;obtain⟨t,rfl⟩:=e;exact c i t s _ _ ⟨.int<|g i,H,I.tok _,⟨_,rfl⟩,q⟩
def Ss:JX X (unaryOp .USub) (rU λi=>.int<|-i):=unI λ_ _ _ _ _ q=>neg_int q
end
section
variable{X:Cx}{a b c:aZ}{pos:Pos}
def GS(I:Inv X Qc σ H s)(q:Q (.bl k) H)(e:k=k'):EP X Qc σ Q (.bool k') s:=by subst e;exact⟨.bl k,H,I,rfl,q⟩
def KE:pY X (cK .LtE) (yD λi j=>.bl (decide<|i<=j)):=Q7 λ_ _ _ _ _ _ _ q=>le_int q
def Xg:pY X (cK .In) (λx y H Q=>∃i j,x=.str i/\y=.str j/\Q (.bl<|!(bq j i 0 j.length 1).isEmpty) H):=by intro d s g H x y v u Q I e f h;obtain⟨i,j,rfl,rfl,q⟩:=h;obtain⟨t,rfl⟩:=e;obtain⟨k,rfl⟩:=f;exact in_str<|GS I q rfl
def S6:pY X (cK .Is) (λx y H Q=>y=.non/\Q (.bl (decide<|x=.non)) H):=by
 intro d s g H x y v u Q I e f h;obtain⟨rfl,q⟩:=h;cases f;refine is_none_gen<|GS I q ?_;cases x<;>first
  |(cases e;rfl)
  |(obtain⟨t,rfl⟩:=e;rfl)
def Yh:pY X (cK .NotIn) (λx y H Q=>∃i j,x=.str i/\y=.str j/\Q (.bl<|!(!(bq j i 0 j.length 1).isEmpty)) H):=by intro d s g H x y v u Q I e f h;obtain⟨i,j,rfl,rfl,q⟩:=h;obtain⟨t,rfl⟩:=e;obtain⟨k,rfl⟩:=f;exact notIn_str<|GS I q rfl
def pY.or(h:pY X f r)(h':pY X f r'):pY X f (λx y H Q=>r x y H Q\/r' x y H Q):=by
 intro d s e H x y v u Q I g i q;rcases q with q|q
 .exact h d s e H x y v u Q I g i q
 .exact h' d s e H x y v u Q I g i q
def yy(b)(h:op ≠ .In:=by decide)(d:op ≠ .NotIn:=by decide):behindInMarks op b=Qp:=by
 have e:(op==CmpOp.In)=Qp:=by cases op<;>first|rfl|exact absurd rfl h
 have f:(op==CmpOp.NotIn)=Qp:=by cases op<;>first|rfl|exact absurd rfl d
 cases b<;>simp[behindInMarks,e,f]
def UH{e:CmpOp}{r:R2}(f:pY X (cK e) r)(g:PE X a ta)(i:PE X b tb)(j:behindInMarks e b=Qp):PE X (.Compare a [e] [b] pos) (B7 r ta tb):=by intro d s k H Q I h;exact wpAny_Compare1 (F2 g i I h λv u l x y m n o p q=>f d l k m x y v u Q n o p q) j
def KZ(t:TE):TT:=λσ H Q=>t σ H λx H'=>∃k,x=.bl k/\Q k H'
def U7(g:pY X (cK op) r)(i:PE X a ta)(j:PE X b tb)(l:behindInMarks op b=Qp):PT X (.Compare a [op] [b] pos) (KZ<|B7 r ta tb):=by
 intro d s f H Q I h;refine km (oO (i d s f H _ I h) λv m ⟨x,n,o,p,q⟩=>oO (j d m f n _ o q) λu t ⟨y,w,A,B,C⟩=>
  oO (g d t f w x y v u _ A p B C) λc M ⟨z,E,G,J,k,e,L⟩=>?_) l
 subst e;cases J;exact cO ⟨E,G,L⟩
noncomputable def Ub(r r':R2)(ta tb tc:TE):TE:=λσ H Q=>ta σ H λx H1=>tb σ H1 λy H2=>r x y H2 λz H3=>∃k,z=.bl k/\
 (if k=Qo then tc σ H3 λw' H4=>r' y w' H4 Q else Q (.bl Qp) H3)
def VU(n:pY X (cK op) r)(o:pY X (cK AD) r')(p:PE X a ta)(q:PE X b tb)(t:PE X c tc)
  (w:lastMarks [op,AD] [b,c]=Qp:=by with_unfolding_all rfl):PE X (.Compare a [op,AD] [b,c] pos) (Ub r r' ta tb tc):=by
 intro f s g H Q I h;refine Compare_chain (oO (p f s g H _ I h) λv A ⟨x,B,C,E,G⟩=>chain_link (oO (q f A g B _ C G) λu J ⟨y,L,M,i,N⟩=>
  oO (n f J g L x y v u _ M E i N) λd O ⟨z,j,l,P,k,e,m⟩=>?_)) w
 subst e;cases P;refine cO ?_;cases k with
 |false=>exact ite_ff ⟨.bl Qp,j,l,rfl,m⟩
 |true=>exact ite_tt<|chain_last (oO (t f O g j _ l m) λS T ⟨U,Y,Z,r4,q4⟩=>o f T g Y y U u S Q Z i r4 q4)
def Ke(K:ag)(x:V)(H:Hp)(k:Bool):Prop:=
 match x with
 |.non=>k=Qp
 |.bl b=>k=b
 |.int i=>k=(i !=0)
 |.str y=>y.length<=aK/\k=((y.length:Int) !=0)
 |.byt y=>y.size<=aK/\k=((y.size:Int) !=0)
 |.ref p=>(∃xs,pI K H p xs/\k = !xs.isEmpty)\/(∃xs,qP K H p xs/\k = !xs.isEmpty) \/ ∃h_,H p=Qg (.dK h_)/\k = !h_.isEmpty
 |_=>False
def XB{κ:Type}{d:List (κ×V)}{vs:List (κ×ae)}(r:KV d vs):(!vs.isEmpty) = !d.isEmpty:=by cases r<;>rfl
def Om{d:List V}{e:List ae}(r:nz d e):(!e.toArray.isEmpty) = !d.isEmpty:=by cases r<;>simp
def Gz:(aK)<2 ^ 63:=by rw[j3];decide
def SE:Rc X (λx H Q=>∃k,Ke X.K x H k/\Q k H):=by
 intro o s J H x v Q I g h;obtain⟨k,e,q⟩:=h;have L:=j3;cases x with
 | non=>
  cases g;have d:=e;subst d;exact truthy_none ⟨H,I,q⟩
 | bl b=>
  cases g;have d:=e;subst d;exact cO ⟨H,I,q⟩
 | int i=>
  obtain⟨t,rfl⟩:=g;have d:=e;subst d;exact PySem.P.truthy_int ⟨H,I,q⟩
 | str y=>
  obtain⟨t,rfl⟩:=g;obtain⟨B,d⟩:y.length<=aK/\k=((y.length:Int) !=0):=e;subst d;exact PySem.P.truthy_str 'd' ⟨H,I.tok _,q⟩
 | byt y=>
  obtain⟨t,rfl⟩:=g;obtain⟨B,d⟩:y.size<=aK/\k=((y.size:Int) !=0):=e;subst d;exact PySem.W.truthy_bytes 'd' ⟨H,I.tok _,q⟩
 | ref p=>
  cases g;have d:=e;rcases d with⟨C,j,d⟩|⟨C,j,d⟩|⟨u,j,d⟩
  .subst d;obtain⟨E,r,l,A⟩:=I.list j;have f:=r.length;exact wpAny_truthy_list l.isList (by simp;lia) ⟨H,I.tok _,by rw[Om r];exact q⟩
  .subst d;obtain⟨E,r,l,A⟩:=I.tuple j;have f:=r.length;exact truthy_tuple l (by simp;lia) ⟨H,I.tok _,by rw[Om r];exact q⟩
  .subst d;obtain⟨A,G,n,r,m⟩:u.length<=aK/\(p==sysModules)=Qp/\∃n,KV u n/\s.heap.DictOf (u9 X.prog X.w) p n:=I.hok p _ j;have f:=kZ r;exact wpAny_truthy_dict G m 'd' ⟨H,I.tok _,by rw[XB r];exact q⟩
 |_=>exact(e).elim
def Wu(i:PE X a ta)(j:∀d,isTrue a X.env d=(do let v <- d;standAt a.pos;holding [v] (truthy v))):
  PT X a (λf H Q=>ta f H λx g=>∃k,Ke X.K x g k/\Q k g):=by intro e s f H Q I h;exact isTrue_plain (oO (i e s f H _ I h) λv l ⟨x,m,n,o,p⟩=>SE e l f m x v Q n o p)<|j _
def XH:pY X (eU .Add) (λx y H Q=>∃i j,x=.str i/\y=.str j/\i.length+j.length<=aK/\Q (.str<|i++j) H):=by intro d s m H x y v u Q I e f h;obtain⟨i,j,rfl,rfl,g,q⟩:=h;obtain⟨t,rfl⟩:=e;obtain⟨k,rfl⟩:=f;exact ig I.tk<|add_str (λk n l=>⟨.str<|i++j,H,I.tok _ l,⟨_,rfl⟩,q⟩) g
def sD(r:nz [x] us):∃u,us=[u]/\RelV x u:=by
 cases r with
 |cons r1 r2=>cases r2;exact⟨_,rfl,r1⟩
def KA(r:nz [x,y] us):∃u d,us=[u,d]/\RelV x u/\RelV y d:=by
 cases r with
 | cons r1 r2=>
  cases r2 with
  |cons r3 r4=>cases r4;exact⟨_,_,rfl,r1,r3⟩
def WZ:nM X (.type "int") (λd H Q=>(∃i,d=[.int i]/\Q (.int i) H) \/ ∃k,d=[.bl k]/\Q (.int (if k then 1 else 0)) H):=by
 intro e s g H d j Q I r h;rcases h with⟨i,rfl,q⟩|⟨k,rfl,q⟩
 .obtain⟨u,rfl,t,rfl⟩:=sD r;exact call_int_int ⟨.int i,H,I,⟨_,rfl⟩,q⟩
 .obtain⟨u,rfl,f⟩:=sD r;cases f;exact call_int_bool ⟨.int (if k then 1 else 0),H,I.tok _,⟨_,rfl⟩,q⟩
def OX:nM X (.type "str") (λd H Q=>∃i,d=[.int i]/\i.natAbs.log2<1920/\Q (.str<|toString i) H):=by intro e s g H d j Q I r h;obtain⟨i,rfl,f,q⟩:=h;obtain⟨u,rfl,t,rfl⟩:=sD r;exact PySem.P.str_of_int f ⟨.str _,H,I.tok _,⟨_,rfl⟩,q⟩
def Ka(K:ag)(x:V)(H:Hp)(n:Nat):Prop:=
 match x with
 |.str y=>y.length<=aK/\n=y.length
 |.byt y=>y.size<=aK/\n=y.size
 |.ref p=>(∃xs,pI K H p xs/\n=xs.length) \/ ∃xs,qP K H p xs/\n=xs.length
 |_=>False
def Nz:nM X (.builtin "len") (λg H Q=>∃x n,g=[x]/\Ka X.K x H n/\Q (.int n) H):=by
 intro m s A H g B Q I r h;obtain⟨x,n,rfl,e,q⟩:=h;obtain⟨u,rfl,i⟩:=sD r;have C:=j3;cases x with
 | str y=>
  obtain⟨t,rfl⟩:=i;obtain⟨o,f⟩:y.length<=aK/\n=y.length:=e;subst f;exact len_str 'd' ⟨.int _,H,I.tok _,⟨_,rfl⟩,q⟩
 | byt y=>
  obtain⟨t,rfl⟩:=i;obtain⟨o,f⟩:y.size<=aK/\n=y.size:=e;subst f;exact PySem.W.len_bytes 'd' ⟨.int _,H,I.tok _,⟨_,rfl⟩,q⟩
 | ref p=>
  cases i;have f:=e;rcases f with⟨g,j,f⟩|⟨g,j,f⟩
  .subst f;obtain⟨v,k,l,w⟩:=I.list j;have d:=k.length;exact Calls.call_len_list l.isList (by simp;lia) ⟨.int g.length,H,I.tok _,⟨_,by simp only[aM];rw[d]⟩,q⟩
  .subst f;obtain⟨v,k,l,w⟩:=I.tuple j;have d:=k.length;exact len_tuple l (by simp;lia) ⟨.int g.length,H,I.tok _,⟨_,by simp only[aM];rw[d]⟩,q⟩
 |_=>exact(e).elim
end
structure oh(h:aJ)(x dx C:af)(mA:ao->Option ae):Prop where
 obj:h.get? x=Qg (dP C dx)
 ns:h.Ns1 dx mA
 ne:dx≠x
set_option tactic.hygienic true in
def Xb{h:aJ}{b:af}{c:ao->Option ae}(n:h.Ns1 b c):∃d,h.get? b=Qg d/\∀name,iJ name d=Qg (c name):=by
 obtain⟨o,f,r,g,i,j,_,k⟩:=n;refine⟨o,g,λname=>?_⟩;have e:=k name;unfold nsFind findBy at e;rw[<- Array.find?_toList] at e;unfold iJ;rw[i];dsimp only;split
 .rename_i y q;rw[q] at e;exact congrArg Qg e
 .rename_i q;rw[q] at e;have a:f.toList.any (·.refKey)=Qp:=by
   rw[List.any_eq_false];intro y l;obtain⟨z,t,m⟩:=j y<|Array.mem_toList_iff.mp l;simp[DictEntry.refKey,m]
  have p:¬ f.toList.any (·.refKey)=Qo:=by rw[a];exact bo
  rw[Qu p];exact congrArg Qg e
def oh.look(I:oh h x dx C mA):∃a,cA h x (dP C dx) C (Qg a)/\∀name,iJ name a=Qg (mA name):=
 let ⟨a,ho,hl⟩:=Xb I.ns
 ⟨a,⟨I.obj,rfl,rfl,ho⟩,hl⟩
section
variable{prog:aE}{w:aG}{A:aY}{E:ae->aj->Prop}{s:aj}{K:ag}{x dx C f:af}{mA:ao->Option ae}{name:ao}{v:ae}
def UK(X:K.In s.heap)(I:oh s.heap x dx C mA)(a:fJ K C name=Qo)(b:gE K C=Qo)
  (c:bu K (.ref C) name=Qg Qn) (d:mA name=Qg v) (e:mj v=Qo) (h:Q v { s with toks:=s.toks+1 }):
  am (aq prog w) A (getAttr (.ref x) name expr) Q E s:=by obtain⟨i,J,g⟩:=I.look;exact PySem.W.get_value X J (iD a).1 (PySem.W.findObj_own b c rfl (by rw[g,d])) e h
def VA(X:K.In s.heap)(I:oh s.heap x dx C mA)(a:fJ K C name=Qo)
  (b:bu K (.ref C) name=Qg (Qg<|.ref f)) (ht:ii K (.ref f)=Qo) (c:mA name=Qn) (h:Q (.ref f,[.ref x]) s):
  am (aq prog w) A (getMethod (.ref x) name pl) Q E s:=by obtain⟨d,J,e⟩:=I.look;exact PySem.W.method_fn X J (iD a).1 (iD a).2 b (beq_iff_eq.mp ht) (by show(iJ name d).map (·.isSome)=Qg Qp;rw[e,c];rfl) h
def Vc(X:K.In s.heap)(I:oh s.heap x dx C mA)
  (j:bu K (.ref C) "__setattr__" = Qg (Qg<|.builtin "object.__setattr__")) (k:jj K C=Qo) (ht:jN K C name=Qg Qn) (l:gE K C=Qo)
  (m:lz mA ns) (u:ns.length<=aK)
  (h:∀h',oh h' x dx C (λy=>if y=name then Qg v else mA y)->cn dx s.heap h'->Q () { s with heap:=h',toks:=s.toks+2 }):
  am (aq prog w) A (setAttr (.ref x) name v) Q E s:=by obtain⟨B,J,G⟩:=I.look;refine PySem.W.set_plain X J j (PySem.W.osa_open (s:={ s with toks:=s.toks+1 }) (r:=Qn) X J k ht λb=>?_);obtain⟨H,n,o⟩:=PySem.W.any_some l;have p:s.heap.get? x=Qg ⟨.ref C,Qg dx,.plain,#[]⟩:=I.obj;refine aa (ak<|aa (aa<|wpAny_loadPart p (aa<|PySem.W.Looks.here (s:={ s with toks:=s.toks+1 }) (PySem.W.looks_clsIn X n) ?_)));rw[o];refine ak (a:=Qg dx)<|aa (ak<|aa ?_);refine wpAny_nsSet1 (s:={ s with toks:=s.toks+1 }) I.ns λh' g i=>?_;obtain⟨L,q,t,c,d,e⟩:=g.count<|PySem.Within.cons name v m;refine aa (wpAny_lookBehind c (by rw[d];exact pastItsLine_dict (aP e (by rw[a7];lia))) ?_);exact ak<|h _ ⟨(i.2 _<|bO I.ne).trans I.obj,g,I.ne⟩ i
def Vy(X:K.In s.heap)(b:jO K C=Qo)
  (c:bu K (.ref C) "__init__" = Qg (Qg<|.ref f)) (e:PySem.W.typeIn K (.ref f)=Qg (.type "function"))
  (h:codeAny (aq prog w) (A.under<|.builtin "type.__call__" ⟨.ref C::vs,kw⟩) (.call (.ref f) ⟨.ref (s.heap.objs.size+1)::vs,kw⟩) (PySem.W.InitBack (s.heap.objs.size+1) R)
   { s with heap:=(s.heap.push cZ).push (dP C s.heap.objs.size) }):
  codeAny (aq prog w) A (.call (.ref C) ⟨vs,kw⟩) R s:=by obtain⟨i,g,d,t,j⟩:=s;exact PySem.W.make_core (PySem.W.makes_of X b) (j4 X c) (λa=>PySem.W.bind_fn X a e) (.inl rfl) h
end
def tG(f:ao)(v:V):List (ao×V)->List (ao×V)
 |[]=>[(f,v)]
 |(g,x)::r=>if g=f then (g,v)::r else (g,x)::tG f v r
theorem OJ(f g:ao)(v:V):∀c:List (ao×V),(tG f v c).lookup g=if g=f then Qg v else c.lookup g
 | []=>by
  show eu g [(f,v)]=_;by_cases h:g=f
  .have a:(g==f)=Qo:=beq_iff_eq.mpr h;simp only[eu,a,Qs h]
  .have a:(g==f)=Qp:=beq_eq_false_iff_ne.mpr h;simp only[eu,a,Qu h]
 | (k,x)::r=>by
  have d:=OJ f g v r;rw[show tG f v ((k,x)::r)=(if k=f then (k,v)::r else (k,x)::tG f v r) from rfl];by_cases b:k=f
  .rw[Qs b];by_cases h:g=k
   .have a:(g==k)=Qo:=beq_iff_eq.mpr h;simp only[eu,a,Qs<|h.trans b]
   .have a:(g==k)=Qp:=beq_eq_false_iff_ne.mpr h;simp only[eu,a,Qu (λe:g=f=>h<|e.trans b.symm)]
  .rw[Qu b];by_cases h:g=k
   .have a:(g==k)=Qo:=beq_iff_eq.mpr h;simp only[eu,a,Qu (λe:g=f=>b<|h.symm.trans e)]
   .have a:(g==k)=Qp:=beq_eq_false_iff_ne.mpr h;simp only[eu,a];exact d
theorem Hq(f:ao)(v:V):∀a:List (ao×V),f∈(tG f v a).map (·.1)/\∀g,g∈a.map (·.1)->g∈(tG f v a).map (·.1)
 |[]=>⟨by simp[tG],λg h=>by simp at h⟩
 | (k,x)::r=>by
  obtain⟨c,d⟩:=Hq f v r;rw[show tG f v ((k,x)::r)=(if k=f then (k,v)::r else (k,x)::tG f v r) from rfl];by_cases b:k=f
  .rw[Qs b];subst b;exact⟨by simp,λg h=>by simpa using h⟩
  .rw[Qu b];refine⟨?_,λg h=>?_⟩
   .rw[dr];exact ar _ c
   .rw[dr] at h ⊢;rcases av.mp h with e|e
    .exact av.mpr<|.inl e
    .exact ar _<|d g e
theorem OS(f:ao)(v:V):∀a:List (ao×V),(tG f v a).length<=a.length+1
 |[]=>by simp[tG]
 | (k,x)::r=>by
  have c:=OS f v r;rw[show tG f v ((k,x)::r)=(if k=f then (k,v)::r else (k,x)::tG f v r) from rfl];by_cases b:k=f
  .rw[Qs b,a7,a7];lia
  .rw[Qu b,a7,a7];lia
def nR.some_of(r:nR (Qg v) o):∃u,o=Qg u/\RelV v u:=by
 cases o with
 |none=>exact(r).elim
 |some u=>exact⟨u,rfl,r⟩
def nR.none_of(r:nR Qn o):o=Qn:=by
 cases o with
 |none=>rfl
 |some u=>exact(show False from r).elim
def WR(r:RelV v u):mj u=Qo:=by
 cases v with
 |non=>cases (show u=bW from r);rfl
 |bl b=>cases (show u=mB b from r);rfl
 |int i=>obtain⟨t,e⟩:=(show ∃t,u=lq i t from r);cases e;rfl
 |str x=>obtain⟨t,e⟩:=(show ∃t,u=lr x t from r);cases e;rfl
 |byt b=>obtain⟨t,e⟩:=(show ∃t,u=Value.bytes b t from r);cases e;rfl
 |flt b=>obtain⟨t,e⟩:=(show ∃t,u=Value.float b t from r);cases e;rfl
 |ref a=>cases (show u=bJ a from r);rfl
 |ty n=>cases (show u=dJ n from r);rfl
section
variable{P:aE}{w:aG}{H:Hp}{h:aJ}{a C dx:af}
def G8(c:HOk P w H h)(e:H a=Qg (.ins C dx fs)):∃b,oh h a dx C b/\(∀f,nR (fs.lookup f)<|b f)/\lz b (fs.map (·.1))/\fs.length<=1000/\H dx=Qg (.own a):=by obtain⟨d,z,g,i,b,n,r,q⟩:=(show nN P w H h a (.ins C dx fs) from c a _ e);exact⟨b,⟨i,n,g⟩,r,q,z,d⟩
end
structure vf(K:ag)(C:af):Prop where
 pg:fJ K C Str.empty=Qo
 hd:gE K C=Qo
 po:jj K C=Qo
 sa:bu K (.ref C) "__setattr__" = Qg (Qg<|.builtin "object.__setattr__")
def vf.get{K:ag}{C:af}(c:vf K C)(f:ao):fJ K C f=Qo:=c.pg
def nZ(K:ag)(C:af)(f:ao):Prop:=bu K (.ref C) f=Qg Qn
def nZ.taker{K}{C}{f}(n:nZ K C f):jN K C f=Qg Qn:=by unfold jN;rw[show bu K (.ref C) f=Qg Qn from n];rfl
structure Con(K:ag)(C:af)(f:ao)(v:V)(u:ae):Prop where
 at_:bu K (.ref C) f=Qg (Qg u)
 rel:RelV v u
 get:gF K u "__get__" = Qg Qn
 cp:PySem.W.copiedNames.contains f=Qp
structure zX(K:ag)(C:af)(m:ao)(f:af):Prop where
 at_:bu K (.ref C) m=Qg (Qg<|.ref f)
 fn:ii K (.ref f)=Qo
 kp:bN K (.ref f)=Qo
section
variable{X:Cx}{Qc:List (af×Obj)}{σ:St}{H:Hp}{s:aj}{a C dx:af}{f:ao}{v:V}{A:aY}{E:ae->aj->Prop}
def Xs(I:Inv X Qc σ H s)(e:H a=Qg (.ins C dx fs))(c:vf X.K C)(n:nZ X.K C f)(l:fs.lookup f=Qg v)
  (h:∀u d,Inv X Qc σ H d->RelV v u->Q u d):am (aq X.prog X.w) A (getAttr (.ref a) f b) Q E s:=by obtain⟨i,O,r,_,_,_⟩:=G8 I.hok e;obtain⟨u,j,g⟩:=nR.some_of (v:=v) (o:=i f) (by rw[<- l];exact r f);exact UK I.kIn O (c.get f) c.hd n j (WR g)<|h u _ (I.tok _) g
def HC(I:Inv X Qc σ H s)(e:H a=Qg (.ins C dx fs))(c:vf X.K C)(k:zX X.K C m g)(l:fs.lookup m=Qn)
  (h:Q (.ref g,[.ref a]) s):am (aq X.prog X.w) A (getMethod (.ref a) m pl) Q E s:=by obtain⟨b,O,r,_,_,_⟩:=G8 I.hok e;have d:b m=Qn:=nR.none_of (by rw[<- l];exact r m);exact VA I.kIn O (c.get m) k.at_ k.fn d h
def XD(I:Inv X Qc σ H s)(e:H a=Qg (.ins C dx fs))(c:vf X.K C)(n:nZ X.K C f)(M:fs.length<1000)(m:RelV y u)
  (h:∀i,Inv X Qc σ (upd H a (.ins C dx<|tG f y fs)) i->Q () i):am (aq X.prog X.w) A (setAttr (.ref a) f u) Q E s:=by
 obtain⟨j,O,r,k,_,l⟩:=G8 I.hok e;have p:(fs.map (·.1)).length<=aK:=by rw[aW,j3];lia
 refine Vc I.kIn O c.sa c.po n.taker c.hd k p λt d B=>h _ ?_;have G:∃o,t.get? dx=Qg o:=let ⟨o,_,_,e',_⟩:=d.ns;⟨o,e'⟩;refine I.write (x:=a) (e:=dx) (by rw[e];exact dR) (.inr l) (λb q J z=>(B.2 b J).trans z) G ?_;refine⟨by rw[oN O.ne];exact l,?_,O.ne,d.obj,_,d.ns,λg=>?_,λg L=>?_⟩
 .have:=OS f y fs;lia
 .show nR ((tG f y fs).lookup g) (if g=f then Qg u else j g);rw[OJ];by_cases q:g=f
  .rw[Qs q,Qs q];exact m
  .rw[Qu q,Qu q];exact r g
 .by_cases q:g=f
  .rw[q];exact(Hq f y fs).1
  .refine(Hq f y fs).2 g (k g λz=>L ?_);show(if g=f then Qg u else j g)=Qn;rw[Qu q];exact z
def Inv.made(I:Inv X Qc σ H s):Inv X Qc σ (upd (upd H s.heap.objs.size (.own<|s.heap.objs.size+1)) (s.heap.objs.size+1)<|.ins C s.heap.objs.size [])
  { s with heap:=(s.heap.push cZ).push (dP C s.heap.objs.size) }:=by
 have c:(s.heap.push cZ).get? s.heap.objs.size=Qg cZ:=aA s.heap rfl;have g:((s.heap.push cZ).push<|dP C s.heap.objs.size).get? (s.heap.objs.size+1)=Qg (dP C s.heap.objs.size):=by
  have:=aA (s.heap.push cZ) (o:=dP C s.heap.objs.size) rfl;rwa [cB] at this
 have h:(s.heap.push cZ).Ns s.heap.objs.size (λ_=>Qn):=⟨cZ,#[],_,c,rfl,(λe i=>absurd i 'k'),λ_=>rfl⟩;have j:=I.laid (a:=s.heap.objs.size) (o:=.own<|s.heap.objs.size+1) (h':=s.heap.push cZ) (t':=s.toks) (λb u q=>ai _ q) (ay _) ⟨_,c⟩;refine j.laid (a:=s.heap.objs.size+1) (o:=.ins C s.heap.objs.size []) (t':=s.toks) (λb u q=>ai _ q) (ij<|cB _ _) ?_;have d:s.heap.objs.size≠s.heap.objs.size+1:=bb<|cj _;refine⟨by rw[oN d,pK],cH _,d,g,λ_=>Qn,(Heap.Ns1.of_empty h).at λo q=>ai _ q,λ_=>dR,λy k=>absurd rfl k⟩
def Vm(b:attributeBase e f env (eval e env)=eval e env)
  (h:am (aq prog w) A (eval e env) (λo c=>am (aq prog w) A (getAttr o f Qo) Q E c) E s):am (aq prog w) A (eval (.Attribute e f pos) env) Q E s:=
 Attribute_any_ h (by rw[arm_eval_Attribute,b])
end
noncomputable def Ro(K:ag)(ta:TE)(f:ao):TE:=λσ H Q=>ta σ H λx H1=>∃a C dx fs v,x=.ref a/\H1 a=Qg (.ins C dx fs)/\vf K C/\nZ K C f/\fs.lookup f=Qg v/\Q v H1
def Ki(K:ag)(ta tv:TE)(f:ao):TS:=λD σ H=>tv σ H λy H1=>ta σ H1 λx H2=>∃a C dx fs,x=.ref a/\H2 a=Qg (.ins C dx fs)/\vf K C/\nZ K C f/\fs.length<1000/\
 D.nx σ (upd H2 a (.ins C dx<|tG f y fs))
section
variable{X:Cx}{o e:aZ}{f:ao}{pos:Pos}
def Tx(d:PE X e ta)(g:attributeBase e f X.env (eval e X.env)=eval e X.env):PE X (.Attribute e f pos) (Ro X.K ta f):=by intro b s i H Q I h;refine Vm g (oO (d b s i H _ I h) λu y ⟨x,j,k,m,a,C,A,B,v,p,r,c,n,l,q⟩=>?_);subst p;obtain rfl:u=bJ a:=m;exact Xs k r c n l λE G t w=>⟨v,j,t,w,q⟩
def Tn(g:PE X o ta)(i:PE X value tv)(j:swapsWith value (Qg<|.Attribute o f pos') pos.line X.env=pure Qp):PS X (.Assign [.Attribute o f pos'] value pos) (Ki X.K ta tv f):=by intro b s d H D I h;refine plainObj_wpAny_Assign_Attribute (oO (i b s d H _ I h) λu k ⟨y,m,p,r,q⟩=>oO (g b k d m _ p q) λt J ⟨x,L,v,w,a,C,M,N,A,B,c,n,l,E⟩=>?_) j;subst A;obtain rfl:t=bJ a:=w;exact XD v B c n l r λO G=>⟨d,_,G,E⟩
def zge(p:PE X e te)(I:Inv X Qc σ H s)
  (h:te σ H λx d=>∃a C j i g,x=.ref a/\d a=Qg (.ins C j i)/\vf X.K C/\zX X.K C m g/\i.lookup m=Qn/\
   ∀b,Inv X Qc σ d b->am (aq X.prog X.w) X.A (callWith pos (.ref g) [.ref a] (backTo pos<|au args X.env) (backToKw pos<|keywordEach [] X.env)) Q X.xe b)
  (ht:eval (.Call (.Attribute e m apos) args [] pos) X.env=(do
   let ov <- eval e X.env
   standAt apos.atName
   let (f,first) <- holding [ov] (getMethod ov m pl)
   callWith pos f first (backTo pos<|au args X.env) (backToKw pos<|keywordEach [] X.env))):
  am (aq X.prog X.w) X.A (eval (.Call (.Attribute e m apos) args [] pos) X.env) Q X.xe s:=by refine hJ (pl:=pl) (oO (p Qc s σ H _ I h) λu b ⟨x,d,n,r,a,C,j,i,g,t,v,c,k,l,q⟩=>?_) ht;subst t;obtain rfl:u=bJ a:=r;exact HC n v c k l<|q b n
end
section
variable{H:Hp}
inductive vh(K:ag)(H:Hp):V->ae->Prop where
 |non:vh K H .non (.type "NoneType")
 |bl (x:Bool):vh K H (.bl x) (.type "bool")
 |int (i:Int):vh K H (.int i) (.type "int")
 |str (x:ao):vh K H (.str x) (.type "str")
 |flt (x:UInt64):vh K H (.flt x) (.type "float")
 |lst {a:af} {xs:List V} (e:H a=Qg (.lst xs)):vh K H (.ref a) (.type "list")
 |frz {a:af} {o:Obj} {xs:List V} (e:H a=Qg (.frz o<|.lst xs)):vh K H (.ref a) (.type "list")
 |tup {a:af} {xs:List V} (e:H a=Qg (.tup xs)):vh K H (.ref a) (.type "tuple")
 |dK {a:af} {h_:List (Key×V)} (e:H a=Qg (.dK h_)):vh K H (.ref a) (.type "dict")
 |dT {a:af} {h_:List (List Key×V)} (e:H a=Qg (.dT h_)):vh K H (.ref a) (.type "dict")
 | ins {a C dx:af} {fs:List (ao×V)} (e:H a=Qg (.ins C dx fs)) (cl:vf K C) (ha:bu K (.ref C) "__class__" = Qg (Qg<|.builtin "object.__class__"))
   (hn:gF K (.builtin "object.__class__") "__get__" = Qg (Qg<|.builtin "getset_descriptor.__get__")) (pB:jP K (.builtin "object.__class__")=Qg Qo)
   (hm:gR K C (.type "object")=Qg Qo):vh K H (.ref a) (.ref C)
end
structure nB(k:Nat)(A:aY):Prop where
 hd:A.handled=Qn
 dp:A.depth+3*k+5<recursionLimit
 un:A.units+16*k+200<cLine
def nB.mono(r:nB k A)(h:j<=k):nB j A:=⟨r.hd,by have:=r.dp;lia,by have:=r.un;lia⟩
def nB.deeper(r:nB (k+1) A)(env):nB k (A.deeper env):=
 ⟨r.hd,by have:=r.dp;show A.depth+1+3*k+5<_;lia,by have:=r.un;show A.units+3+16*k+200<_;lia⟩
def nB.in1(r:nB (k+1) A):nB k A.in1:=
 ⟨r.hd,by have:=r.dp;show A.depth+3*k+5<_;lia,by have:=r.un;show A.units+1+16*k+200<_;lia⟩
def XG{A:aY}{C:af}{us:List ae}{a:List (ao×ae)}:(A.under<|.builtin "type.__call__" ⟨.ref C::us,a⟩).depth=A.depth+1:=by first|rfl|simp[lB,Code.weight,Code.isCreation,Code.isGuard,Code.isCaller,Code.frames,lC,guardIds]
def XQ{A:aY}{C:af}{us:List ae}{a:List (ao×ae)}:(A.under<|.builtin "type.__call__" ⟨.ref C::us,a⟩).units=A.units+1:=by first|rfl|simp[lB,Code.cUnits,Code.frames,lC]
def nB.make(r:nB (k+1) A)(C:af)(us:List ae)(a:List (ao×ae)):nB k (A.under<|.builtin "type.__call__" ⟨.ref C::us,a⟩):=
 ⟨r.hd,by have:=r.dp;rw[XG];lia,by have:=r.un;rw[XQ];lia⟩
def nB.depth(r:nB k A):A.depth<recursionLimit:=by have:=r.dp;lia
def nB.units(r:nB k A):A.units+64<cLine:=by have:=r.un;lia
def zR:TA:=λ_ H Q=>Q [] H
def Bj(ta:TE)(tr:TA):TA:=λσ H Q=>ta σ H λx H1=>tr σ H1 λxs H2=>Q (x::xs) H2
section
variable{X:Cx}{e:aZ}{es:List aZ}{te:TE}{t:TA}{pos:Pos}
def yr:PA X [] zR:=λ_ _ _ _ H Q I h=>jk ⟨[],H,I,.nil,h⟩
def u_(c:PE X e te)(d:PA X es t)(f:au (e::es) X.env=(Qp,eval e X.env)::au es X.env:=by rfl):PA X (e::es) (Bj te t):=by intro pos a s b H Q I h;rw[f];refine iX (oO (c a s b H _ I h) λu g ⟨x,i,j,k,l⟩=>?_);exact oO (d pos a g b i _ j l) λr v ⟨m,n,o,p,q⟩=>⟨x::m,n,o,.cons k p,q⟩
def Kf(t:TA):TE:=λσ H Q=>t σ H λxs H1=>xs.length<=aK/\∀p,H1 p=Qn->Q (.ref p) (upd H1 p<|.tup xs)
def J6(t:TA):TE:=λσ H Q=>t σ H λxs H1=>xs.length<=aK/\∀p,H1 p=Qn->Q (.ref p) (upd H1 p<|.lst xs)
def Ln(h:PA X es t):PE X (.Tuple es x1 pos) (Kf t):=by intro a s f H Q I g;refine wpAny_Tuple_spliced (oO (h pos a s f H _ I g) λi c ⟨j,k,d,r,z,q⟩=>⟨by rw[<- r.length];exact z,?_⟩);have l:=d.hok.fresh<|ay _;refine⟨.ref c.heap.objs.size,upd k c.heap.objs.size<|.tup j,d.laid (λb u e=>ai _ e) (ay _) ?_,rfl,q _ l⟩;exact⟨z,i,r,nW.new _ _⟩
def GA(h:PA X es t):PE X (.List es pos) (J6 t):=by intro a s f H Q I g;refine wpAny_List_spliced (oO (h pos a s f H _ I g) λi c ⟨j,k,d,r,z,q⟩=>⟨by rw[<- r.length];exact z,?_⟩);have l:=d.hok.fresh<|ay _;refine⟨.ref c.heap.objs.size,upd k c.heap.objs.size<|.lst j,d.laid (λb u e=>ai _ e) (ay _) ?_,rfl,q _ l⟩;exact⟨z,i,0,r,aA _ rfl⟩
end
abbrev Sp:=List V->Hp->VK->XK->Prop
abbrev uD:=List Env->Hp->aj->XK->ae->aj->Prop
structure nV(P:aE)(w:aG)(K:ag)(mg:ao->Option ae)(base:aJ)(A:aY)(outer:List Env)(s:aj)(H:Hp):Prop where
 frames:A.frames=Qg outer
 mod:Mod K mg base
 bs:∀b o,base.get? b=Qg o->s.heap.get? b=Qg o/\H b=Qn
 bsz:base.objs.size<=s.heap.objs.size
 funs:s.heap.FunFrames base outer
 frf:∀b∈qf outer,H b=Qn
 hok:HOk P w H s.heap
 bare:fw s.gens
 tk:0<s.toks
def CE(outer:List Env)(P:aE)(w:aG)(H:Hp)(s:aj)(Q:VK)(u:ae)(s':aj):Prop:=
 (∃v H',s'.os=s.os/\fw s'.gens/\Un (qf outer) [] H H' s.heap s'.heap/\HOk P w H' s'.heap/\RelV v u/\Q v H')/\0<s'.toks
def CR(CX:uD)(outer:List Env)(P:aE)(w:aG)(H:Hp)(s:aj)(Q:VK)(E:XK)(r:Result)(s':aj):Prop:=
 match r with
 |.ok (.ret u)=>CE outer P w H s Q u s'
 |.ok _=>False
 |.error e=>CX outer H s E e s'
structure nG(P:aE)(w:aG)(K:ag)(mg:ao->Option ae)(base:aJ)(CX:uD)(k:Nat)(f:af)(fd:cV)(ps:List ao)(sp:Sp):Prop where
 len:∀vs H Q E,sp vs H Q E->vs.length=ps.length
 run:∀(A:aY)(outer:List Env)(s:aj)(H:Hp)(args:Args)(us:List ae)(vs:List V)(Q:VK)(E:XK),nB k A->nV P w K mg base A outer s H->gk s fd args (ps.zip us)->nz vs us->sp vs H Q E->
  codeAny (aq P w) A (.call (.ref f) args) (CR CX outer P w H s Q E) s
def nG.mono{P:aE}{w:aG}{K:ag}{c:ao->Option ae}{base:aJ}{d:uD}{j k:Nat}{f:af}{fd:cV}{ps:List ao}{e:Sp}(F:nG P w K c base d j f fd ps e)(h:j<=k):
  nG P w K c base d k f fd ps e:=⟨F.len,λA a s H b g i Q E l=>F.run A a s H b g i Q E<|l.mono h⟩
def nG.imp{P:aE}{w:aG}{K:ag}{c:ao->Option ae}{base:aJ}{d:uD}{k:Nat}{f:af}{fd:cV}{ps:List ao}{e g:Sp}(F:nG P w K c base d k f fd ps e)
  (h:∀vs H Q E,g vs H Q E->e vs H Q E):nG P w K c base d k f fd ps g:=
 ⟨λvs H Q E q=>F.len vs H Q E<|h _ _ _ _ q,λA a s H b i vs Q E j l m n o=>F.run A a s H b i vs Q E j l m n<|h _ _ _ _ o⟩
def nV.make{P:aE}{w:aG}{K:ag}{b:ao->Option ae}{base:aJ}{A:aY}{a:List Env}{s:aj}{H:Hp}(e:nV P w K b base A a s H)(C:af)(us:List ae)(c:List (ao×ae)):
  nV P w K b base (A.under<|.builtin "type.__call__" ⟨.ref C::us,c⟩) a s H:=⟨by first|exact e.frames|(simpa [lB,Code.envs,lC,pushEnvs] using e.frames),e.mod,e.bs,e.bsz,e.funs,e.frf,e.hok,e.bare,e.tk⟩
def nV.in1{P:aE}{w:aG}{K:ag}{b:ao->Option ae}{base:aJ}{A:aY}{a:List Env}{s:aj}{H:Hp}(e:nV P w K b base A a s H):
  nV P w K b base A.in1 a s H:=⟨e.frames,e.mod,e.bs,e.bsz,e.funs,e.frf,e.hok,e.bare,e.tk⟩
section
variable{X:Cx}{Qc:List (af×Obj)}{σ:St}{H:Hp}{s s':aj}
def Inv.env0(I:Inv X Qc σ H s):nV X.prog X.w X.K X.mg X.base X.A X.stack s H:=
 ⟨I.ok.frames,I.ok.mod,I.bs,aP I.ok.bsz I.sz,I.stack,I.stkFree,I.hok,I.bare,I.tk⟩
def Inv.after(I:Inv X Qc σ H s)(h:CE X.stack X.prog X.w H s Q u s'):EP X Qc σ Q u s':=by obtain⟨⟨v,e,f,a,i,c,r,q⟩,j⟩:=h;obtain⟨l,g,d,t,k⟩:=s';obtain rfl:k=s.os:=f;exact⟨v,e,I.call i c a (λb z=>absurd z 'k') j,r,q⟩
end
def R5(sp:Sp)(dvs:List V)(E:XK)(t:TA):TE:=λσ H Q=>t σ H λvs H1=>sp (vs++dvs) H1 Q E
noncomputable def Gj(C:af)(m:ao)(sp:Sp)(dvs:List V)(E:XK)(ta:TE)(t:TA):TE:=λσ H Q=>ta σ H λx H1=>∃a dx fs,x=.ref a/\H1 a=Qg (.ins C dx fs)/\fs.lookup m=Qn/\
 t σ H1 λvs H2=>sp (x::(vs++dvs)) H2 Q E
def RV(C:af)(sp:Sp)(dvs:List V)(E:XK)(t:TA):TE:=λσ H Q=>t σ H λvs H1=>∀x dx,H1 x=Qn->H1 dx=Qn->dx≠x->
 sp (.ref x::(vs++dvs)) (upd (upd H1 dx<|.own x) x<|.ins C dx []) (λv H2=>v=.non/\Q (.ref x) H2) E
def Binds(K:ag)(fd:cV)(ps:List ao)(ds:List ae):Prop:=
 ∀(s:aj)(us:List ae),K.In s.heap->(us++ds).length=ps.length->gk s fd ⟨us,[]⟩ (ps.zip<|us++ds)
def Binds.all{K:ag}{fd:cV}{ps:List ao}(h:∀us:List ae,us.length=ps.length->bindArgs fd ⟨us,[]⟩=pure (ps.zip us)):Binds K fd ps []:=λs us _ a=>by
 rw[cf] at a ⊢;exact .of_eq<|h us a
def tX(CX:uD)(X:Cx)(E:XK):Prop:=∀(Qc:List (af×Obj))(σ:St)(H:Hp)(s:aj)(e:ae)(s':aj),Inv X Qc σ H s->CX X.stack H s E e s'->X.xe e s'
section
variable{X:Cx}{CX:uD}{k:Nat}{f C:af}{fd:cV}{ps:List ao}{sp:Sp}{E:XK}{x m:ao}{p pos apos:Pos}{e o:aZ}{es:List aZ}{t:TA}
def Er(F:nG X.prog X.w X.K X.mg X.base CX k f fd ps sp)(c:nB k X.A)(d:Binds X.K fd ps ds)(g:nz dvs ds)(i:tX CX X E)
  (I:Inv X Qc σ H s) (r:nz vs us) (h:sp (vs++dvs) H Q E):am (aq X.prog X.w) X.A (call (.ref f) us) (EP X Qc σ Q) X.xe s:=by
 have b:=r.append g;have j:(us++ds).length=ps.length:=by rw[<- b.length];exact F.len _ _ _ _ h
 refine gm (dG (F.run X.A X.stack s H ⟨us,[]⟩ (us++ds) (vs++dvs) Q E c I.env0 (d s us I.kIn j) b h) λr l a=>?_);cases r with
 |error e=>exact i Qc σ H s e l I a
 | ok fl=>
  cases fl with
  |ret u=>exact I.after a
  |next=>exact ah a
  |brk=>exact ah a
  |cont=>exact ah a
def MF(F:nG X.prog X.w X.K X.mg X.base CX k f fd ps sp)(c:nB k X.A)(d:Gl X x)(g:X.mg x=Qg (.ref f))(i:bN X.K (.ref f)=Qo)(j:Binds X.K fd ps ds)(l:nz dvs ds)(n:tX CX X E)
  (u:PA X (e::es) t) (v:pL x:=by decide) (y:au (e::es) X.env=(Qp,eval e X.env)::au es X.env:=by rfl) (B:(backTo pos<|au es X.env).any (·.1)=Qp:=by rfl):
  PE X (.Call (.Name x p) (e::es) [] pos) (R5 sp dvs E t):=by intro a s G H Q I h;refine dk<|Aj I d g ?_ v;refine gc I.ok.mod.kin i (oO (u pos a s G H _ I h) λJ L ⟨M,N,b,r,q⟩=>⟨b.kIn,?_⟩) y B;exact Er F c j l n b r q
def UZ(n:PE X o ta)(c:vf X.K C)(d:zX X.K C m f)(F:nG X.prog X.w X.K X.mg X.base CX k f fd ps sp)(v:nB k X.A)(y:Binds X.K fd ps ds)(B:nz dvs ds)(G:tX CX X E)(J:PA X (e::es) t)
  (L:au (e::es) X.env=(Qp,eval e X.env)::au es X.env:=by rfl) (M:(backTo pos<|au es X.env).any (·.1)=Qp:=by rfl)
  (ht:eval (.Call (.Attribute o m apos) (e::es) [] pos) X.env=(do
   let ov <- eval o X.env
   standAt apos.atName
   let (f,first) <- holding [ov] (getMethod ov m pl)
   callWith pos f first (backTo pos<|au (e::es) X.env) (backToKw pos<|keywordEach [] X.env)):=by rfl):
  PE X (.Call (.Attribute o m apos) (e::es) [] pos) (Gj C m sp dvs E ta t):=by intro b s g H Q I h;refine hJ (pl:=pl) (oO (n b s g H _ I h) λu N ⟨x,O,i,P,a,Y,Z,S,T,l,q⟩=>?_) ht;subst S;obtain rfl:u=bJ a:=P;refine HC i T c d l ?_;refine gc (first:=[.ref a]) (h₀:=X.base) I.ok.mod.kin d.kp (oO (J pos b N g O _ i q) λus s2 ⟨vs,H2,j,r,U⟩=>⟨j.kIn,?_⟩) L M;exact Er (us:=.ref a::us) (vs:=.ref a::vs) F v y B G j (.cons rfl r) U
def VG(i:PE X o ta)(c:vf X.K C)(g:zX X.K C m f)(F:nG X.prog X.w X.K X.mg X.base CX k f fd ps sp)(j:nB k X.A)(n:Binds X.K fd ps ds)(r:nz dvs ds)(v:tX CX X E)
  (ht:eval (.Call (.Attribute o m apos) [] [] pos) X.env=(do
   let ov <- eval o X.env
   standAt apos.atName
   let (f,first) <- holding [ov] (getMethod ov m pl)
   callWith pos f first (backTo pos<|au [] X.env) (backToKw pos<|keywordEach [] X.env)):=by rfl):
  PE X (.Call (.Attribute o m apos) [] [] pos) (Gj C m sp dvs E ta zR):=by intro b s y H Q I h;refine hJ (pl:=pl) (oO (i b s y H _ I h) λu L ⟨x,M,d,B,a,N,O,G,J,l,q⟩=>?_) ht;subst G;obtain rfl:u=bJ a:=B;refine HC d J c g l ?_;exact lh (first:=[.ref a]) d.kIn g.kp<|Er (us:=[.ref a]) (vs:=[.ref a]) F j n r v d (.cons rfl .nil) q
structure Mk(K:ag)(C f:af):Prop where
 makes:jO K C=Qo
 init:bu K (.ref C) "__init__" = Qg (Qg<|.ref f)
 fn:ii K (.ref f)=Qo
 kp:bN K (.ref C)=Qo
def Vv(M:Mk X.K C f)(F:nG X.prog X.w X.K X.mg X.base CX k f fd ps sp)(i:nB (k+1) X.A)(j:Binds X.K fd ps ds)(l:nz dvs ds)
  (n:tX CX X E) (I:Inv X Qc σ H s) (r:nz vs us)
  (h:∀x b,H x=Qn->H b=Qn->b≠x->sp (.ref x::(vs++dvs)) (upd (upd H b<|.own x) x<|.ins C b []) (λv q=>v=.non/\Q (.ref x) q) E):
  am (aq X.prog X.w) X.A (call (.ref C) us) (EP X Qc σ Q) X.xe s:=by
 have d:=h (s.heap.objs.size+1) s.heap.objs.size (I.hok.fresh<|dH _) (I.hok.fresh<|ay _) (bb<|cj _);have c:=Inv.made (C:=C) I;have g:nz (V.ref (s.heap.objs.size+1)::(vs++dvs)) (bJ (s.heap.objs.size+1)::(us++ds)):=.cons rfl<|r.append l;have y:(bJ (s.heap.objs.size+1)::us++ds).length=ps.length:=by
  have e:=g.length;rw[F.len _ _ _ _ d] at e;exact e.symm
 refine gm (Vy (f:=f) I.kIn M.makes M.init (beq_iff_eq.mp M.fn) (dG (F.run _ X.stack _ _ ⟨bJ (s.heap.objs.size+1)::us,[]⟩ (bJ (s.heap.objs.size+1)::(us++ds)) _ _ E (i.make C us [])
  (c.env0.make C us []) (j _ (bJ (s.heap.objs.size+1)::us) c.kIn y) g d) λr B a=>?_))
 cases r with
 |error e=>exact n Qc σ _ _ e B c a
 | ok fl=>
  cases fl with
  | ret u=>
   obtain⟨v,G,J,L,N,O⟩:=c.after a;subst N;exact⟨L,⟨V.ref<|s.heap.objs.size+1,G,J,rfl,O⟩⟩
  |next=>exact ah a
  |brk=>exact ah a
  |cont=>exact ah a
def Vu(M:Mk X.K C f)(F:nG X.prog X.w X.K X.mg X.base CX k f fd ps sp)(b:nB (k+1) X.A)(c:Gl X x)(d:X.mg x=Qg (.ref C))(g:Binds X.K fd ps ds)(i:nz dvs ds)(j:tX CX X E)
  (l:pL x:=by decide):PE X (.Call (.Name x p) [] [] pos) (RV C sp dvs E zR):=by intro a s n H Q I h;refine dk<|Aj I c d ?_ l;exact lh I.kIn M.kp<|Vv (us:=[]) M F b g i j I .nil h
end
section
variable{fd:cV}{ps:List ao}
structure zk1(K:ag)(fd:cV)(ps ks:List ao)(g:List ae->List ae->List ae)(gV:List V->List V->List V):Prop where
 to:∀(s:aj)(us ws:List ae),K.In s.heap->(g us ws).length=ps.length->gk s fd ⟨us,ks.zip ws⟩ (ps.zip<|g us ws)
 rel:∀{vs:List V}{us:List ae}{zs:List V}{ws:List ae},nz vs us->nz zs ws->nz (gV vs zs) (g us ws)
end
structure oZ(N P:List ao)(sc:cC):Prop where
 kind:sc.kind=.function
 co:sc.isCoroutine=Qp
 gen:sc.isGenerator=Qp
 nd:N.Nodup
 pre:N.take P.length=P
 par:∀x∈P,sc.names.lookup x=Qg .local\/sc.names.lookup x=Qg .cell
 nofree:∀y∈sc.names,y.2 ≠ .free
theorem Oc{a:ao->Option fK}{x}:∀{binds}{m:ao->Option ae},(∀v,(x,v)∉binds)->bindL a binds m x=m x
 |[],_,_=>rfl
 | (n,v)::r,m,h=>by
  unfold bindL;rw[Oc λw b=>h w<|ar _ b];split
  .have:x≠n:=by rintro rfl;exact h v aL
   simp[this]
  .rfl
theorem NZ{a:ao->Option fK}{x}:∀{binds}{m:ao->Option ae},(∀v,(x,v)∉binds)->bindC a binds m x=m x
 |[],_,_=>rfl
 | (n,v)::r,m,h=>by
  unfold bindC;rw[NZ λw b=>h w<|ar _ b];split
  .rfl
  .have:x≠n:=by rintro rfl;exact h v aL
   simp[this]
theorem N5{a:ao->Option fK}{x:ao}{v:ae}:∀{P:List ao}{vs:List ae}{i:Nat}{m:ao->Option ae},P.Nodup->P[i]?=Qg x->vs[i]?=Qg v->a x=Qg .local->
  bindL a (P.zip vs) m x=Qg v
 |[],_,_,_,_,h,_,_=>by simp at h
 |_::_,[],_,_,_,_,h,_=>by simp at h
 | p::P,w::vs,0,m,nd,h1,h2,hk=>by
  simp at h1 h2;subst h1;subst h2;show bindL a ((p,w)::P.zip vs) m p=_;unfold bindL;rw[Oc λv b=>(cL.mp nd).1 (ik b).1,Qs hk];simp
 | p::P,w::vs,i+1,m,nd,h1,h2,hk=>by
  unfold bindL;exact N5 (i:=i) (cL.mp nd).2 ⇑h1 ⇑h2 hk
theorem N4{a:ao->Option fK}{x:ao}{v:ae}:∀{P:List ao}{vs:List ae}{i:Nat}{m:ao->Option ae},P.Nodup->P[i]?=Qg x->vs[i]?=Qg v->a x≠Qg .local->
  bindC a (P.zip vs) m x=Qg v
 |[],_,_,_,_,h,_,_=>by simp at h
 |_::_,[],_,_,_,_,h,_=>by simp at h
 | p::P,w::vs,0,m,nd,h1,h2,hk=>by
  simp at h1 h2;subst h1;subst h2;show bindC a ((p,w)::P.zip vs) m p=_;unfold bindC;rw[NZ λv b=>(cL.mp nd).1 (ik b).1,Qu hk];simp
 | p::P,w::vs,i+1,m,nd,h1,h2,hk=>by
  unfold bindC;exact N4 (i:=i) (cL.mp nd).2 ⇑h1 ⇑h2 hk
def start(N:List ao)(vs:List V):St:=vs.map Qg++aN (N.length-vs.length) Qn
noncomputable def vY(CX:uD)(P:aE)(w:aG)(K:ag)(mg:ao->Option ae)(base:aJ)(N:List ao)(qual:ao)(scope:cC)(f:af)(cd:ae)(A:aY)(outer:List Env)(s:aj)(H:Hp)(E:XK):Cx where
 prog:=P
 w:=w
 K:=K
 mg:=mg
 base:=base
 A:=A.deeper<|envOfC qual scope s.heap.objs.size f cd
 N:=N
 s₀:=s
 H₀:=H
 env:=envOfC qual scope s.heap.objs.size f cd
 outer:=outer
 stack:=envOfC qual scope s.heap.objs.size f cd::outer
 ex:=[]
 calm:=Qo
 fn:=λ_=>Qo
 pn:=[]
 xe:=λe s'=>am (aq P w) (A.deeper<|envOfC qual scope s.heap.objs.size f cd) (leaving (envOfC qual scope s.heap.objs.size f cd) e) (λ_ q9=>CX outer H s E e q9) (λe' q9=>CX outer H s E e' q9) s'
def Nk{a:cC}{n:Nat}{x:ao}(h:a.names.lookup x=Qg .cell):∃c,(bX n a.names []).lookup x=Qg c:=by have q:=fk a.names n []<|.inl h;exact gd.mp q
def NU{J:uD}{P:aE}{w:aG}{K:ag}{C:ao->Option ae}{base:aJ}{N ps:List ao}{j:ao}{d:cC}{f:af}{o:ae}{A:aY}{g:List Env}{s G:aj}{H:Hp}{E:XK}{us:List ae}{vs:List V}
  (S:oZ N ps d) (Q:A.handled=Qn) (m:nV P w K C base A g s H) (Z:vs.length=ps.length) (r:nz vs us)
  (x:InCallC s s.heap.objs.size (bindL (envOfC j d s.heap.objs.size f o).kindOf (ps.zip us) λ_=>Qn) (bX (s.heap.objs.size+1) d.names []) (bindC (envOfC j d s.heap.objs.size f o).kindOf (ps.zip us) λ_=>Qn) G) (T:0<G.toks):
  Inv (vY J P w K C base N j d f o A g s H E) [] (start N vs) H G:=by
 have pV:ps.length<=N.length:=by have:=congrArg j5 S.pre;rw[bK] at this;lia
 obtain⟨t,tk,rfl,L⟩:=x.done;have I:∀b:af,b∉(vY J P w K C base N j d f o A g s H E).ex:=λb z=>absurd (show b∈([]:List af) from z) 'k';refine⟨⟨m.mod,S.kind,rfl,rfl,ay _,λy z c t l=>?_,λy hy=>?_,λy c _ h=>?_,λ_=>Q,il m.frames,.inr ⟨rfl,rfl⟩,λb z=>absurd z<|I b,m.bs,m.bsz,λb _ _=>I b,λb z=>absurd z<|I b,m.funs,m.frf⟩,
  rfl,m.bare,Un.kept L,⟨_,x.toInCall.ns,λi y v t l h3=>?_⟩,λy c h=>⟨_,x.cell y c h⟩,m.hok.fresh<|ay _,λy c h=>?_,λp n=>absurd (show p∈([]:List (af×Obj)) from n) 'k',m.hok.kept L,?_,T⟩
 .exact name_of_addr x.apart (be t)<|be l
 .have hy:=hy;rcases hy with hy|hy
  .exact Nk hy
  .exact absurd rfl (S.nofree _<|be hy)
 .exact fx (x.above y c<|be h)
 .have B:i<vs.length:=by
   unfold start at l;by_cases B:i<vs.length
   .exact B
   .rw[bh ⇑B] at l;rw[d7] at l;split at l<;>cases l
  have U:vs[i]?=Qg v:=by
   unfold start at l;rw[aD ⇑B,bE] at l;cases e:vs[i]? with
   |none=>rw[e] at l;cases l
   |some a=>rw[e] at l;cases l;rfl
  obtain⟨u,M,Y⟩:=r.get U;have n:ps[i]?=Qg y:=by
   rw[<- S.pre,eV 'd'];exact t
  have O:ps.Nodup:=by rw[<- S.pre];exact S.nd.sublist<|cI _ _
  refine⟨u,Y,?_⟩;rcases S.par y (aR n) with k|k
  .exact .inl ⟨k,N5 O n M k⟩
  .obtain⟨c,e⟩:=Nk k;refine .inr ⟨.inl k,c,e,?_⟩;have q:=x.cell y c e;rw[N4 O n M (by show d.names.lookup y≠_;rw[k];decide)] at q;exact q
 .exact m.hok.fresh<|fx (x.above y c<|be h)
 .unfold start;show _=N.length;rw[aI,aW,kn];lia
def yp{G:uD}{P:aE}{w:aG}{K:ag}{L:ao->Option ae}{base:aJ}{k:Nat}{f:af}{name d:ao}{g:fc}{body:List cN}{a:cC}{Z kV p pm j ct oc:ae}{an od:Option af}
  {qx:Array (Option ae)} {N ps:List ao} {M:Sp} (lk:K.lookup f=Qg ⟨oc,od,.func<|a8 name d g body a Z kV p pm an j ct,qx⟩) (o6:cg K j d=Qo) (S:oZ N ps a)
  (B:∀vs H Q E,M vs H Q E->vs.length=ps.length)
  (oP:∀(A:aY)(c:List Env)(s:aj)(H:Hp)(vs:List V)(Q:VK)(E:XK),nB k (A.deeper<|envOfC d a s.heap.objs.size f j)->M vs H Q E->
   ∃t,qH (vY G P w K L base N d a f j A c s H E) body t/\t { nx:=λ_ i=>Q .non i,rt:=Q } (start N vs) H):
  nG P w K L base G (k+1) f (a8 name d g body a Z kV p pm an j ct) ps M:=by
 refine⟨B,λA c s H args us vs Q E O l hb r yJ=>?_⟩;have hl:=B _ _ _ _ yJ;have KX:=l.mod.kin.keeps λb o e=>(l.bs b o e).1;have T:=l.mod.nolimit.keeps λb o e=>(l.bs b o e).1;have vK:∀y∈ps.zip us,a.names.lookup y.1=Qg .local\/(a.names.lookup y.1=Qg .cell/\((bX (s.heap.objs.size+1) a.names []).lookup y.1).isSome=Qo):=λ⟨n,v⟩ hy=>by
  rcases S.par n (ik hy).1 with q|q
  .exact .inl q
  .exact .inr ⟨q,fk _ _ _<|.inl q⟩
 refine kr O.depth (KX _ _ lk) rfl S.co S.gen rfl (lD KX o6) (hb _ _ _ _<|ig l.tk (jb S.kind vK λenv he s1 x pB=>?_));subst he;refine⟨T.keeps x.toInCall.keep,codeAny_func ?_⟩;obtain⟨t,ht,hq⟩:=oP A c s H vs Q E (O.deeper _) yJ;have I:Inv (vY G P w K L base N d a f j A c s H E) [] (start N vs) H s1:=NU S O.hd l hl r x pB;refine bQ (ht [] s1 (start N vs) H _ I hq) (λfl U m=>?_) λe U m=>m;have C:∀{h:St}{i:Hp}{v:V}{u:ae},Inv (vY G P w K L base N d a f j A c s H E) [] h i U->RelV v u->Q v i->CE c P w H s Q u U:=
  λ{h i v u}J Y q=>⟨⟨v,i,J.os,J.bare,J.base,J.hok,Y,q⟩,J.tk⟩
 cases fl with
 | ret u=>
  obtain⟨v,h,i,J,Y,q⟩:=m;exact C J Y q
 | next=>
  obtain⟨h,i,J,q⟩:=m;exact C (v:=V.non) J rfl q
 | brk=>
  obtain⟨_,_,_,q⟩:=m;exact ah q
 | cont=>
  obtain⟨_,_,_,q⟩:=m;exact ah q
section
variable{X:Cx}{x:ao}{p pos:Pos}{e:aZ}{es:List aZ}{t:TA}{id T:String}{r:List V->Hp->VK->Prop}
def Fb(r:List V->Hp->VK->Prop)(t:TA):TE:=λσ H Q=>t σ H λvs H1=>r vs H1 Q
def BF(c:nM X (.builtin id) r)(d:Gl X x)(f:X.mg x=Qn)(g:bi x=Qg (.builtin id))(i:PA X (e::es) t)(j:x ≠ "__name__":=by decide)(k:pL x:=by decide)
  (l:au (e::es) X.env=(Qp,eval e X.env)::au es X.env:=by rfl) (m:(backTo pos<|au es X.env).any (·.1)=Qp:=by rfl):PE X (.Call (.Name x p) (e::es) [] pos) (Fb r t):=by intro a s b H Q I h;refine dk<|Ag I d f g ?_ j k;exact PyProof.Rows.callWith_builtin1 (oO (i pos a s b H _ I h) λn o ⟨q,u,v,w,y⟩=>c a o b u q n Q v w y) l m
def NS(c:nM X (.type T) r)(d:Gl X x)(f:X.mg x=Qn)(g:bi x=Qg (.type T))(i:PA X (e::es) t)(j:x ≠ "__name__":=by decide)(k:pL x:=by decide)
  (l:au (e::es) X.env=(Qp,eval e X.env)::au es X.env:=by rfl) (m:(backTo pos<|au es X.env).any (·.1)=Qp:=by rfl):PE X (.Call (.Name x p) (e::es) [] pos) (Fb r t):=by intro a s b H Q I h;refine dk<|Ag I d f g ?_ j k;exact fE (oO (i pos a s b H _ I h) λn o ⟨q,u,v,w,y⟩=>c a o b u q n Q v w y) l m
end
end L2
namespace HT
open PySem PyProof.Rows
section
open PySem.SeqAt
open PySem.AutoSeq1 (wpAny_loadPart')
open PySem.MeetsSeq PySem.MeetsSeq2 PySem.MeetsSeq3
end
section
variable{prog:aE}{w:aG}{A:aY}{E:ae->aj->Prop}{s:aj}
def cat_tup(ht:IsTup s.heap t vs.toArray)(p:IsTup s.heap b ws.toArray)(h:vs≠[])
  (q:ws=[]->Q (.ref t) s) (r:ws≠[]->Q (.ref s.heap.objs.size) { s with heap:=s.heap.push { cls:=.type "tuple",data:=.seq (vs++ws).toArray } })
  (u:vs.length+ws.length<=aK):am (aq prog w) A (eU .Add (.ref t)<|.ref b) Q E s:=by
 obtain⟨⟨cls,i,data,j⟩,a,v,n,x⟩:=id ht;obtain⟨⟨k,l,f,m⟩,c,y,o,g⟩:=id p;subst v x y g;have e:vs.toArray++ws.toArray=(vs++ws).toArray:=by simp
 by_cases d:ws=[]
 .exact iY ⟨_,a,rfl⟩ ⟨_,c,rfl⟩ jB k7 gJ gu (ge _ _)
   (tuple_addW1 t b vs.toArray ws.toArray n o i l j m ⇑h (by simp[d])) ⟨a,c,q d⟩
 .refine iY ⟨_,a,rfl⟩ ⟨_,c,rfl⟩ jB k7 gJ gu (ge _ _)
   (tuple_addW2 t b vs.toArray ws.toArray n o i l j m ⇑h ⇑d (by rw[aM,aM];exact u)) ⟨a,c,?_⟩
  rw[e];exact r d
def sIx(n d:Nat):Option Int->Nat
 |none=>d
 |some v=>if v<0 then (v+(n:Int)).toNat else min v.toNat n
def sIx_nat(n d k:Nat):sIx n d (Qg (k:Int))=min k n:=by show(if (k:Int)<0 then ((k:Int)+(n:Int)).toNat else min (k:Int).toNat n)=min k n;rw[Qu 'd',eL]
def zki(n d:Nat)(b:d<=n)(o:Option Int):sIx n d o<=n:=by
 cases o with
 |none=>exact b
 | some v=>
  show(if v<0 then (v+(n:Int)).toNat else min v.toNat n)<=n;by_cases a:v<0
  .rw[Qs a];lia
  .rw[Qu a];exact Nat.min_le_right _ _
def Mw(v:Int)(n d:Nat):(if v<0 then max (v+(n:Int)) 0 else min v (n:Int))=((sIx n d (Qg v):Nat):Int):=by
 show(if v<0 then max (v+(n:Int)) 0 else min v (n:Int))=(((if v<0 then (v+(n:Int)).toNat else min v.toNat n):Nat):Int);by_cases a:v<0
 .simp only[Qs a];lia
 .simp only[Qu a];lia
def XO(a b:Option Int)(n:Nat):fX a b 1 (n:Int)=(((sIx n 0 a:Nat):Int),((sIx n n b:Nat):Int)):=by
 have c:¬ ((1:Int)<0):=by lia
 unfold fX;refine fG ?_ ?_
 .cases a with
  |none=>rfl
  |some v=>exact Mw v n 0
 .cases b with
  |none=>rfl
  |some v=>exact Mw v n n
def XM(i j:Nat):eN (i:Int) (j:Int) 1=j-i:=by
 unfold eN;have a:(1:Int)>0:=by lia
 split<;>lia
def Ol(p:gf v o)(h:Q o s):am (aq prog w) A (Builtin.Slice.slicePartIndex v) Q E s:=by
 cases p with
 |none=>exact slicePart_none h
 |int i t=>exact slicePart_int h
def sliceApplied_gen{e:af}{f g:ae}{a b:Option Int}{n:Nat}{Q:Int×Int×Nat->aj->Prop}(i:s.heap.IsSliceOf e f g .none)(pl:gf f a)(j:gf g b)
  (h:Q (((sIx n 0 a:Nat):Int),1,sIx n n b-sIx n 0 a) s):am (aq prog w) A (Builtin.Slice.sliceApplied (.ref e)<|pure (n:Int)) Q E s:=by obtain⟨k,c,l,d⟩:=id i;refine aa<|aa (bC c d rfl<|aa (bC c d rfl<|aa (bC c d rfl<|ak ?_)));refine aa<|slicePart_none ?_;refine aa<|Ol pl (aa<|Ol j (aa<|ak ?_));show am _ _ (match fX a b 1 (n:Int) with|(a,b)=>pure (a,(1:Int),eN a b 1)) _ _ s;rw[XO a b n];show am _ _ (pure (((sIx n 0 a:Nat):Int),(1:Int),eN ((sIx n 0 a:Nat):Int) ((sIx n n b:Nat):Int) 1)) _ _ s;rw[XM];exact ak h
def Wq(a:Array ae)(i k:Nat):((de k).filterMap λ(m:Nat)=>a[((i:Int)+(m:Int)*1).toNat]?).toArray=((a.toList.drop i).take k).toArray:=by
 have e:(λ(m:Nat)=>a[((i:Int)+(m:Int)*1).toNat]?)=λm=>a[i+m]?:=by
  funext m;have:((i:Int)+(m:Int)*1).toNat=i+m:=by lia
  rw[this]
 rw[e];have:=pick_run a i k;rw[List.filterMap_map] at this;have b:((λx=>a[x]?)∘λx=>i+x)=λm=>a[i+m]?:=rfl;rw[b] at this;rw[this]
def getItem_tuple_cut{t e:af}{a:Array ae}{g i:ae}{b c:Option Int}{Q:ae->aj->Prop}(ht:IsTup s.heap t a)(j:s.heap.IsSliceOf e g i .none)(pl:gf g b)(k:gf i c)
  (l:¬ (sIx a.size 0 b=0/\sIx a.size a.size c=a.size))
  (h:Q (.ref s.heap.objs.size) { s with heap:=s.heap.push { cls:=.type "tuple",data:=.seq ((a.toList.drop<|sIx a.size 0 b).take<|sIx a.size a.size c-sIx a.size 0 b).toArray } })
  (r:a.size<=aK):am (aq prog w) A (getItem (.ref t)<|.ref e) Q E s:=by
 have d:sizeOk (.seq ((a.toList.drop<|sIx a.size 0 b).take<|sIx a.size a.size c-sIx a.size 0 b).toArray):=by
  show((a.toList.drop<|sIx a.size 0 b).take<|sIx a.size a.size c-sIx a.size 0 b).toArray.size<=aK;rw[aM,bK,bR,aw];lia
 obtain⟨m,n,o,u⟩:=id j;have p:s.TypeIs (.ref e) "slice":=⟨m,n,o⟩;unfold getItem
 try with_reducible refine bD ?_
 first|refine aa (ak ?_)|skip
 refine aa<|wpAny_sequenceKey ht.typeIs 'b' ?_;refine aa (cm ht.typeIs cq
  (bF cq ht.typeIs li ?_<|lE _ _))
 show am _ _ (jc (.ref t) >>= _) _ _ s;refine aa<|tupleItemsOf_ ht (aa<|im p ?_);refine aa<|sliceApplied_gen j pl k ?_;have f:¬ ((((sIx a.size 0 b:Nat):Int)==0&&(1:Int)==1&&(sIx a.size a.size c-sIx a.size 0 b)==a.size)=Qo):=by
  intro q;rw[ck,ck] at q;have v:=eq_of_beq q.1.1;have x:=eq_of_beq q.2;exact l ⟨by lia,by lia⟩
 show am _ _ (if (((sIx a.size 0 b:Nat):Int)==0&&(1:Int)==1&&(sIx a.size a.size c-sIx a.size 0 b)==a.size)=Qo then _ else _) _ _ s;rw[Qu f,Wq]
 first
  |exact aa<|cb (ak ⟨_,rfl,ak h⟩) d
  |exact aa<|cb (aa (ak<|ak ⟨_,rfl,ak h⟩)) d
  |exact aa (aa<|cb (ak<|ak ⟨_,rfl,ak h⟩) d)
  |exact aa (aa<|cb (ak ⟨_,rfl,ak h⟩) d)
end
end HT
namespace L2
open PySem PySem.Spec PyProof.Rows
abbrev TO:=St->Hp->(Option Int->Hp->Prop)->Prop
def PO(X:Cx)(e:Option aZ)(t:TO):Prop:=
 ∀(Qc:List (af×Obj))(s:aj)(σ:St)(H:Hp)(Q:Option Int->Hp->Prop),Inv X Qc σ H s->t σ H Q->
  am (aq X.prog X.w) X.A (evalPart e X.env) (λu s'=>∃o H',Inv X Qc σ H' s'/\gf u o/\Q o H') X.xe s
def TV:TO:=λ_ H Q=>Q Qn H
def RO(t:TE):TO:=λσ H Q=>t σ H λx H1=>∃i,x=.int i/\Q (Qg i) H1
def Of:∀{us:List ae},nz (ns.map V.int) us->ku us ns:=by
 induction ns with
 |nil=>intro us r;rw[List.map_nil] at r;cases r;exact .nil
 | cons n ns ih=>
  intro us r;cases r with
  | cons r1 r2=>
   obtain⟨t,e⟩:=r1;subst e;exact .cons n t<|ih r2
section
variable{X:Cx}{e:aZ}{te:TE}{lo hi:Option aZ}{tl th:TO}{pos p2:Pos}
def T5:PO X Qn TV:=by intro a s b H Q I h;exact ak ⟨Qn,H,I,.none,h⟩
def UB(h:PE X e te):PO X (Qg e) (RO te):=by intro a s b H Q I c;refine oO (h a s b H _ I c) λu k ⟨x,d,f,g,j⟩=>?_;obtain⟨i,rfl,q⟩:=j;obtain⟨t,rfl⟩:=g;exact⟨Qg i,d,f,.int i t,q⟩
def uC(X:Cx)(r:V->Option Int->Option Int->Hp->VK->Prop):Prop:=
 ∀(Qc:List (af×Obj))(s:aj)(σ:St)(H:Hp)(x:V)(v vl vu:ae)(lo hi:Option Int)(sl:af)(Q:VK),Inv X Qc σ H s->RelV x v->s.heap.IsSliceOf sl vl vu .none->gf vl lo->gf vu hi->r x lo hi H Q->
  ∃T id,typeLookup (.type T) "__getitem__" = pure (Qg<|.builtin id)/\s.TypeIs v T/\am (aq X.prog X.w) X.A (getItem v<|.ref sl) (EP X Qc σ Q) X.xe s
def uC.or(h:uC X r)(h':uC X r'):uC X (λx lo hi H Q=>r x lo hi H Q\/r' x lo hi H Q):=by
 intro a s b H x v c d lo hi f Q I g i j k q;rcases q with q|q
 .exact h a s b H x v c d lo hi f Q I g i j k q
 .exact h' a s b H x v c d lo hi f Q I g i j k q
noncomputable def tSl(r:V->Option Int->Option Int->Hp->VK->Prop)(te:TE)(tl th:TO):TE:=λσ H Q=>te σ H λx H1=>tl σ H1 λl H2=>th σ H2 λu H3=>r x l u H3 Q
def MZ(j:uC X r)(k:PE X e te)(m:PO X lo tl)(n:PO X hi th):PE X (.Subscript e (.Slice lo hi Qn p2) pos) (tSl r te tl th):=by intro a s c H Q I h;refine Subscript_ (oO (k a s c H _ I h) λv o ⟨x,p,t,w,y⟩=>?_);refine wpAny_Slice (oO (m a o c p _ t y) λf A ⟨l,B,C,E,G⟩=>oO (n a A c B _ C G) λg d ⟨u,i,J,L,M⟩=>?_);refine ak ?_;have N:Inv X a c i { d with heap:=d.heap.push { cls:=.type "slice",data:=.fields #[f,g,.none] } }:=J.kept λb U q=>ai _ q;obtain⟨T,Y,O,P,S⟩:=j a { d with heap:=d.heap.push { cls:=.type "slice",data:=.fields #[f,g,.none] } } c i x v f g l u d.heap.objs.size Q N w (nr ..) E L M;exact tail_any P O S (by with_unfolding_all rfl)
def zY(xs:List V)(lo hi:Option Int):List V:=(xs.drop<|HT.sIx xs.length 0 lo).take<|HT.sIx xs.length xs.length hi-HT.sIx xs.length 0 lo
def OF(a:List V)(lo hi:Option Int):(zY a lo hi).length<=a.length:=by unfold zY;rw[bK,bR];lia
def QZ(K:ag):V->Option Int->Option Int->Hp->VK->Prop:=λx lo hi H Q=>∃a xs,x=.ref a/\qP K H a xs/\
 ¬ (HT.sIx xs.length 0 lo=0/\HT.sIx xs.length xs.length hi=xs.length)/\∀p,H p=Qn->Q (.ref p) (upd H p (.tup<|zY xs lo hi))
def Lk:uC X (QZ X.K):=by
 intro f s t H x v u w lo hi y Q I j k l m h;obtain⟨a,d,rfl,n,o,q⟩:=h;cases j;obtain⟨p,r,g,i⟩:=I.tuple n;have c:p.toArray.size=d.length:=by rw[aM];exact r.length.symm
 refine⟨"tuple",_,cq.lookup,g.typeIs,?_⟩;refine HT.getItem_tuple_cut g k l m (by rw[c];exact o) ?_ (by rw[c];exact i);rw[c];refine⟨.ref s.heap.objs.size,_,I.laid (λb A q=>ai _ q) (ay _) ?_,rfl,q _ (I.hok.fresh<|ay _)⟩;exact⟨aP (OF d lo hi) i,_,(r.drop<|HT.sIx d.length 0 lo).take<|HT.sIx d.length d.length hi-HT.sIx d.length 0 lo,nW.new _ _⟩
def Kz(K:ag):R2:=λx y H Q=>∃a b xs ys,x=.ref a/\y=.ref b/\qP K H a xs/\qP K H b ys/\xs≠[]/\xs.length+ys.length<=aK/\
 (ys=[]->Q (.ref a) H)/\(ys≠[]->∀p,H p=Qn->Q (.ref p) (upd H p (.tup<|xs++ys)))
def nz.nil_iff(r:nz xs us):us=[]↔xs=[]:=by
 cases r with
 |nil=>simp
 |cons _ _=>simp
def Ux:pY X (eU .Add) (Kz X.K):=by intro f s r H x y v u Q I i j h;obtain⟨a,b,t,A,rfl,rfl,k,l,m,g,n,o⟩:=h;cases i;cases j;obtain⟨B,d,p,_⟩:=I.tuple k;obtain⟨C,c,p2,_⟩:=I.tuple l;refine HT.cat_tup p p2 (λz=>m<|d.nil_iff.mp z) (λz=>⟨.ref a,H,I,rfl,n<|c.nil_iff.mp z⟩) (λz=>?_) (by rw[<- d.length,<- c.length];exact g);refine⟨.ref s.heap.objs.size,_,I.laid (λb E q=>ai _ q) (ay _) ?_,rfl,o (λw=>z<|c.nil_iff.mpr w) _ (I.hok.fresh<|ay _)⟩;exact⟨by rw[aI];exact g,_,d.append c,nW.new _ _⟩
end
noncomputable def yH(n:Nat)(i:Int):Option Nat:=if 0<=i then (if i<n then Qg i.toNat else Qn) else if -(n:Int)<=i then Qg (i+n).toNat else Qn
def atI{α:Type}(xs:List α)(i:Int):Option α:=(yH xs.length i).bind λj=>xs[j]?
def UE(h:yH n i=Qg j):seqIndex? i n=Qg j/\j<n/\-(n:Int)<=i/\i<n:=by
 unfold yH at h;by_cases b:0<=i
 .rw[Qs b] at h;by_cases a:i<n
  .rw[Qs a] at h;have e:=bL h;exact⟨by rw[seqIndex_of b a,e],by lia,by lia,a⟩
  .rw[Qu a] at h;cases h
 .rw[Qu b] at h;by_cases a:-(n:Int)<=i
  .rw[Qs a] at h;have e:=bL h;exact⟨by rw[seqIndex_neg 'd' a,e],by lia,a,by lia⟩
  .rw[Qu a] at h;cases h
def G7{α:Type}{a:List α}{i:Int}{v:α}(h:atI a i=Qg v):∃j,seqIndex? i a.length=Qg j/\a[j]?=Qg v/\j<a.length/\-(a.length:Int)<=i/\i<a.length:=by
 unfold atI at h;cases e:yH a.length i with
 |none=>rw[e] at h;cases h
 | some j=>
  rw[e] at h;obtain⟨b,c,d,f⟩:=UE e;exact⟨j,b,h,c,d,f⟩
def atI_nat{α:Type}{a:List α}{j:Nat}{v:α}(h:a[j]?=Qg v):atI a (j:Int)=Qg v:=by
 have b:=(al.mp h).1;have e:yH a.length (j:Int)=Qg j:=by
  unfold yH;rw[Qs 'd',Qs 'd'];simp
 unfold atI;rw[e];exact h
def MO(b:aZ):Prop:=∀o i,subscripted b Qp o i=operate [o,i] (getItem o i)
def yg(X:Cx)(r:R2):Prop:=
 ∀(value slice:aZ)(Qc:List (af×Obj))(s:aj)(σ:St)(H:Hp)(x y:V)(v u:ae)(Q:VK),Inv X Qc σ H s->RelV x v->RelV y u->r x y H Q->
  subscripted slice Qp v u=operate [v,u] (getItem v u)->am (aq X.prog X.w) X.A (subscriptTail value slice v u) (EP X Qc σ Q) X.xe s
def Dv(X:Cx)(id:String)(r:V->List V->Hp->VK->Prop):Prop:=
 ∀(Qc:List (af×Obj))(s:aj)(σ:St)(H:Hp)(x:V)(xs:List V)(v:ae)(us:List ae)(Q:VK),Inv X Qc σ H s->RelV x v->nz xs us->r x xs H Q->
  am (aq X.prog X.w) X.A (call (.builtin id)<|v::us) (EP X Qc σ Q) X.xe s
section
variable{X:Cx}{a b:aZ}
def yg.or(h:yg X r)(h':yg X r'):yg X (λx y H Q=>r x y H Q\/r' x y H Q):=by
 intro c d e s f H x y v u Q I g i q j;rcases q with q|q
 .exact h c d e s f H x y v u Q I g i q j
 .exact h' c d e s f H x y v u Q I g i q j
def RU(d:yg X r)(e:PE X a ta)(f:PE X b tb)(g:MO b):PE X (.Subscript a b pos) (B7 r ta tb):=by intro c s i H Q I h;exact Subscript_ (F2 e f I h λv u j x y k l m n q=>d a b c j i k x y v u Q l m n q<|g _ _)
def J_(K:ag):R2:=λx y H Q=>∃p xs i v,x=.ref p/\y=.int i/\pI K H p xs/\atI xs i=Qg v/\Q v H
def J5(K:ag):R2:=λx y H Q=>∃p xs i v,x=.ref p/\y=.int i/\qP K H p xs/\atI xs i=Qg v/\Q v H
def Kd:R2:=λx y H Q=>∃z i c,x=.str z/\y=.int i/\z.length<=aK/\atI z.cps.toList i=Qg c/\Q (.str ⟨#[c]⟩) H
def oF:yg X (J_ X.K):=by
 intro f g c s A H x y v u Q I B C h m;obtain⟨p,S,i,z,rfl,rfl,E,G,q⟩:=h;cases B;obtain⟨t,rfl⟩:=C;obtain⟨J,r,k,T⟩:=I.list E;obtain⟨j,e,L,U,M,N⟩:=G7 G;obtain⟨w,n,O⟩:=r.get L;have P:=r.length;have Y:=Gz;have d:EP X c A Q w s:=⟨z,H,I,O,q⟩;by_cases o:0<=i
 .have l:i.toNat=j:=by
   rw[seqIndex_of o N] at e;exact bL e
  exact item_listR k.isList o 'd' (by rw[l];simpa using n) d m
 .have l:(i+(J.toArray.size:Int)).toNat=j:=by
   rw[seqIndex_neg 'd' M] at e;rw[aM,<- P];exact bL e
  exact j6 k.isList.typeIs slot_list_getitem.lookup
   (wpAny_getItem_list_neg k.isList 'd' (by rw[aM]<;>lia) 'd' (by rw[l];simpa using n) ⟨rfl,d⟩) m
def oG:yg X (J5 X.K):=by
 intro d e c s k H x y v u Q I l m h n;obtain⟨p,L,i,z,rfl,rfl,o,A,q⟩:=h;cases l;obtain⟨t,rfl⟩:=m;obtain⟨M,r,g,N⟩:=I.tuple o;obtain⟨j,B,C,O,P,S⟩:=G7 A;obtain⟨w,E,G⟩:=r.get C;have J:=r.length;have T:=Gz;have f:EP X c k Q w s:=⟨z,H,I,G,q⟩;exact j6 g.typeIs cq.lookup
  (getItem_tuple g 'd' 'd' (by rw[aM,<- J];exact B) ⇑E ⟨rfl,f⟩) n
def Te:yg X Kd:=by
 intro d e f s C H x y v u Q I k l h m;obtain⟨z,i,c,rfl,rfl,E,n,q⟩:=h;obtain⟨t,rfl⟩:=k;obtain⟨G,rfl⟩:=l;obtain⟨j,g,o,J,p,r⟩:=G7 n;have w:z.cps.toList.length=z.length:=by simp[Str.length]
 rw[w] at g p r;have L:=Gz;exact tail_any (io s z t) slot_str_getitem.lookup (getItem_str (by
  have A:decide (i < -(2 ^ 63:Int))=Qp:=decide_eq_false 'd';have B:decide (i ≥ 2 ^ 63)=Qp:=decide_eq_false 'd';rw[A,B,Bool.or_false]) (by rw[g];simpa using o) ⟨.str ⟨#[c]⟩,H,I.tok _,⟨_,rfl⟩,q⟩) m
def PL(K:ag):R2:=λx y H Q=>J_ K x y H Q\/J5 K x y H Q\/Kd x y H Q
def Tp:yg X (PL X.K):=oF.or<|oG.or Te
def Inv.lst{c:List (af×Obj)}{g:St}{H:Hp}{s:aj}{p:af}{f:List V}(I:Inv X c g H s)(h:H p=Qg (.lst f)):
  ∃(d:List ae)(n:Nat),nz f d/\s.heap.get? p=Qg { cls:=.type "list",data:=.seq d.toArray n }/\f.length<=aK:=by obtain⟨z,d,n,r,e⟩:=I.hok p _ h;exact⟨d,n,r,e,z⟩
def Yg(c d:Option Int)(n:Nat):(sliceBounds c d Qn n).1=((HT.sIx n 0 c:Nat):Int)/\(sliceBounds c d Qn n).2.1=((HT.sIx n n d:Nat):Int)/\(sliceBounds c d Qn n).2.2=1:=by
 refine⟨?_,?_,rfl⟩
 .cases c with
  |none=>simp[sliceBounds,HT.sIx]
  | some i=>
   simp only[sliceBounds,HT.sIx,ml,show(1:Int)>0 by decide,if_true];by_cases h:i<0
   .simp only[h,if_true]<;>lia
   .simp only[h,if_false]<;>lia
 .cases d with
  |none=>simp[sliceBounds,HT.sIx]
  | some i=>
   simp only[sliceBounds,HT.sIx,ml,show(1:Int)>0 by decide,if_true];by_cases h:i<0
   .simp only[h,if_true]<;>lia
   .simp only[h,if_false]<;>lia
def YO(c:List ae)(d e:Option Int):slicePick c.toArray d e Qn=((c.drop<|HT.sIx c.length 0 d).take<|HT.sIx c.length c.length e-HT.sIx c.length 0 d).toArray:=by obtain⟨f,g,h⟩:=Yg d e c.toArray.size;unfold slicePick;rw[f,g,h];simp only[sliceRange_one,pick_run,aM]<;>rfl
def Q8(K:ag):V->Option Int->Option Int->Hp->VK->Prop:=λx lo hi H Q=>∃a xs,x=.ref a/\pI K H a xs/\∀p,H p=Qn->Q (.ref p) (upd H p (.lst<|zY xs lo hi))
def L3:uC X (Q8 X.K):=by intro f s p H x v t u e g w Q I j k l m h;obtain⟨a,c,rfl,n,q⟩:=h;cases j;obtain⟨y,r,i,o⟩:=I.list n;have d:=r.length;refine⟨"list",_,slot_list_getitem.lookup,i.isList.typeIs,?_⟩;refine wpAny_getItem_list_slice i.isList k l m .none 'k' ?_ (by rw[aM]<;>lia);rw[YO,<- d];refine⟨.ref s.heap.objs.size,_,I.laid (λb A q=>ai _ q) (ay _) ?_,rfl,q _ (I.hok.fresh<|ay _)⟩;exact⟨aP (OF c e g) o,_,0,(r.drop<|HT.sIx c.length 0 e).take<|HT.sIx c.length c.length g-HT.sIx c.length 0 e,aA _ rfl⟩
def nM.or{f:ae}{r e:List V->Hp->VK->Prop}(h:nM X f r)(h':nM X f e):nM X f (λd H Q=>r d H Q\/e d H Q):=by
 intro c s g H d i Q I j q;rcases q with q|q
 .exact h c s g H d i Q I j q
 .exact h' c s g H d i Q I j q
def Ze:nM X (.type "tuple") (λm H Q=>∃p c,m=[.ref p]/\((pI X.K H p c/\∀l,H l=Qn->Q (.ref l) (upd H l<|.tup c))\/(qP X.K H p c/\Q (.ref p) H))):=by
 intro d s w H m B Q I r h;obtain⟨p,c,rfl,h⟩:=h;obtain⟨u,rfl,x⟩:=sD r;cases x;rcases h with⟨f,q⟩|⟨f,q⟩
 .obtain⟨g,i,j,n⟩:=I.list f;have t:=i.length;refine call_tuple_list j.isList (λk y=>?_) (by simp<;>lia);have v:=I.kept y;have A:Inv X d w (upd H k.objs.size<|.tup c) { s with heap:=k.push { cls:=.type "tuple",data:=.seq g.toArray } }:=
   v.laid (λb o e=>ai _ e) (ay _) (⟨n,g,i,nW.new _ _⟩)
  exact⟨.ref k.objs.size,_,A,rfl,q _ (v.hok.fresh<|ay _)⟩
 .obtain⟨g,i,j,n⟩:=I.tuple f;exact call_tuple_same j ⟨.ref p,H,I,rfl,q⟩
def Pw(K:ag)(T:String)(x:V)(H:Hp):Prop:=match x with
 |.str _=>T = "str"
 |.int _=>T = "int"
 | .ref p=>(T = "list"/\∃xs,pI K H p xs)\/(T = "tuple"/\∃o,K.lookup p=Qg o/\o.cls=.type "tuple"/\o.dict=Qn) \/
   (T = "dict"/\((∃h_,H p=Qg (.dK h_)) \/ ∃h_,H p=Qg (.dT h_)))\/(T = "set"/\∃S n,H p=Qg (.set S n))
 |_=>False
def Tt(I:Inv X Qc σ H s)(r:RelV x v)(g:Pw X.K T x H):
  s.TypeIs v T/\∀a,v=.ref a->∃k,s.heap.get? a=Qg k/\k.dict=Qn:=by
 cases x with
 | str z=>
  obtain⟨t,rfl⟩:=r;cases (g);exact⟨io s z t,λ_ e=>nomatch e⟩
 | int i=>
  obtain⟨t,rfl⟩:=r;cases (g);exact⟨typeIs_int s i t,λ_ e=>nomatch e⟩
 | ref p=>
  cases r;rcases g with⟨rfl,w,m⟩|⟨rfl,o,d,q,h⟩|⟨rfl,d⟩|⟨rfl,S,n,d⟩
  .obtain⟨y,_,l,_⟩:=I.list m;refine⟨l.isList.typeIs,λa e=>?_⟩;cases e;obtain⟨o,n,e,c,h,_⟩:=l;exact⟨o,e,h⟩
  .refine⟨⟨o,I.kIn p o d,q⟩,λa e=>?_⟩;cases e;exact⟨o,I.kIn _ o d,h⟩
  .have z:∃o,s.heap.get? p=Qg o/\o.ExactDict:=by
    rcases d with⟨u,d⟩|⟨u,d⟩
    .obtain⟨_,_,_,_,o,_,_,e,f,_⟩:=I.hok p _ d;exact⟨o,e,f⟩
    .obtain⟨_,_,_,_,o,_,_,e,f,_⟩:=I.hok p _ d;exact⟨o,e,f⟩
   obtain⟨o,e,f⟩:=z;refine⟨⟨o,e,f.1⟩,λa j=>?_⟩;cases j;exact⟨o,e,f.2.1⟩
  .obtain⟨o,_,_,_,e,f,_⟩:=I.hok p _ d;refine⟨⟨o,e,f.1⟩,λa j=>?_⟩;cases j;exact⟨o,e,f.2.1⟩
 |_=>exact ah g
def tBM(K:ag)(T:String)(r:V->List V->Hp->VK->Prop)(to:TE)(t:TA):TE:=λσ H Q=>to σ H λx H1=>Pw K T x H1/\t σ H1 λxs H2=>r x xs H2 Q
variable{o e:aZ}{es:List aZ}{to:TE}{t:TA}{name:ao}{apos k_:Pos}{T id:String}{r:V->List V->Hp->VK->Prop}
def A_(k:PlainAttrs T)(d:Slot T name id)(l:typeOf (.builtin id)=pure (.type "method_descriptor"))(m:Dv X id r)(n:PE X o to)(p:PA X (e::es) t)
  (q:attributeBase o name X.env (eval o X.env)=eval o X.env:=by rfl)
  (u:((backTo k_<|au (e::es) X.env).all (λx=>!x.1)&&(backToKw k_<|keywordEach [] X.env).all (λx=>x.1.isSome)
   && decide ((e::es).length+([]:List dB).length+(if ([]:List dB).isEmpty then 0 else 1)<30))=Qo:=by rfl)
  (w:(apos.endLine==k_.line)=Qo:=by rfl) (y:au (e::es) X.env=(Qp,eval e X.env)::au es X.env:=by rfl) (A:(backTo k_<|au es X.env).any (·.1)=Qp:=by rfl):
  PE X (.Call (.Attribute o name apos) (e::es) [] k_) (tBM X.K T r to t):=by intro c s f H Q I h;refine j7 q u w rfl (oO (n c s f H _ I h) λv B ⟨x,C,g,i,E,G⟩=>?_);obtain⟨J,L⟩:=Tt g i E;refine⟨T,id,k,d,l,J,L,?_⟩;have j:=p k_ c B f C _ g G;rw[y] at j ⊢;refine j8 (by show(Qp||(backTo k_<|au es X.env).any (·.1))=Qp;rw[A]<;>rfl)<|gK ?_;exact oO j λM N ⟨O,P,S,U,Y⟩=>m c N f P x O v M Q S i U Y
end
def QR(X:Cx)(id:String)(r:V->List V->Hp->VK->Prop):Prop:=
 ∀(Qc:List (af×Obj))(s:aj)(σ:St)(H:Hp)(x:V)(xs:List V)(v:ae)(us:List ae)(Q:VK),Inv X Qc σ H s->RelV x v->nz xs us->r x xs H Q->
  am (aq X.prog X.w) X.A (call (.builtin id)<|v::us) (EP X Qc σ Q) X.xe s
def nz.one:∀{x:V}{us:List ae},nz [x] us->∃u,us=[u]/\RelV x u
 |_,_,.cons r .nil=>⟨_,rfl,r⟩
theorem nz.eraseIdx:∀{a:List V}{us:List ae}(i:Nat),nz a us->nz (a.eraseIdx i) (us.eraseIdx i)
 |_,_,_,.nil=>.nil
 |_,_,0,.cons _ t=>t
 |_,_,i+1,.cons r t=>.cons r<|nz.eraseIdx i t
def nz.reverse{a:List V}{us:List ae}(h:nz a us):nz a.reverse us.reverse:=by
 induction h with
 |nil=>exact .nil
 |cons r t ih=>rw[lS,lS];exact nz.append ih<|.cons r .nil
section
variable{X:Cx}{H:Hp}{s:aj}{l:af}
def Inv.lset{b a:List ae}{n:Nat}{f:Array ae->Array ae}{t':Nat}(I:Inv X Qc σ H s)(c:H l=Qg (.lst xs))
  (e:s.heap.get? l=Qg { cls:=.type "list",data:=.seq b.toArray n }) (d:f b.toArray=a.toArray) (g:nz ys a) (h:ys.length<=aK) (ht:0<t':=by first|exact cR _|exact Inv.tk ‹_›|assumption|lia):
  Inv X Qc σ (upd H l<|.lst ys) { s with heap:=s.heap.update l<|br f,toks:=t' }:=by have q:=PySem.IsL.update e f;rw[d] at q;refine I.write (by rw[c];exact trivial) (.inl rfl) (λk u i j=>(bg s.heap (br f)<|bO i).trans j) ⟨_,q⟩ ?_;exact⟨h,a,_,g,q⟩
def Inv.lnew(I:Inv X Qc σ H s)(a:nz ys f_)(b:ys.length<=aK)(ht:0<t':=by first|exact cR _|exact Inv.tk ‹_›|assumption|lia):
  Inv X Qc σ (upd H s.heap.objs.size<|.lst ys) { s with heap:=s.heap.push { cls:=.type "list",data:=.seq f_.toArray },toks:=t' }:=
 I.laid (λ_ _ q=>ai _ q) (ay _) ⟨b,f_,0,a,aA _ rfl⟩
def Inv.fresh(I:Inv X Qc σ H s):H s.heap.objs.size=Qn:=I.hok.fresh<|ay _
def Inv.lstM(I:Inv X Qc σ H s)(b:H l=Qg (.lst xs)):xs.length<=aK/\∃(a:List ae)(n:Nat),nz xs a/\xs.length=a.length/\s.heap.get? l=Qg { cls:=.type "list",data:=.seq a.toArray n }:=by obtain⟨z,a,n,r,e⟩:=I.hok l _ b;exact⟨z,a,n,r,r.length,e⟩
def Wn{n}(h:n<=aK):gg n=Qp:=by exact decide_eq_false 'd'
end
section
variable{X:Cx}
def Vd:V->List V->Hp->VK->Prop:=λx vs H Q=>∃l xs y,x=.ref l/\vs=[y]/\H l=Qg (.lst xs)/\xs.length<aK/\Q .non (upd H l (.lst<|xs++[y]))
def NY:QR X "list.append" Vd:=by intro a s i H x j v k Q I c d h;obtain⟨l,m,y,rfl,rfl,b,o,q⟩:=h;cases c;obtain⟨u,rfl,f⟩:=d.one;obtain⟨z,g,n,r,p,e⟩:=I.lstM b;refine ip kz ⟨_,e,rfl⟩ F.entry_list_append (F.args_list_append_2 _ _) (PySem.list_append l g.toArray n u (by rw[aM];lia)) ⟨e,?_⟩;refine⟨.non,_,I.lset b e 'k' (r.append<|.cons f .nil) ?_,rfl,q⟩;rw[aI,hO];lia
end
section
end
end L2
namespace Att
open PySem PySem.W PySem.Calls PyProof.Rows
def ZC:∀(c)(vs),WellAll P h vs (c.map mR)->ku vs c:=by
 intro c
 induction c with
 | nil=>
  intro vs w;cases w;exact .nil
 | cons n c ih=>
  intro vs w;cases w with
  | cons a b=>
   cases a;exact .cons _ _<|ih _ b
def Xf{l:jl}{n:Nat}(k:l.most=Qg n){P:f8}{h:aJ}{args:List WData}{b:List ae}
  (j:l.row.toRowW.claim.pre args=Qo) (m:WellAll P h b args):
  ∃a vs c,b=[bJ a]/\args=[WData.list<|c.map mR]/\h.get? a=Qg { cls:=.type "list",data:=.seq vs.toArray }/\ku vs c/\c.length<=n:=by
 have g:=(pre_splitW j).1;have o:l.pre.holds [] { args:=args } = Qo:=(pre_splitW j).2;obtain⟨d,r,rfl,p,s⟩:=hasAllW_cons g;obtain rfl:=hasAllW_nil s;obtain⟨u,rfl,t⟩:=hasW_list p;obtain⟨c,rfl⟩:=items_int t;have e:c.length<=n:=by
  have f:(WTm.not<|.lt (.lit<|.int (n:Int)) (.len<|.arg 0)).holds [] { args:=[.list<|c.map .int] } = Qo:=by
   have f:=(holds_andW o).1;rw[k] at f;exact f
  have i:=condW_of f (w_not<|w_lt w_lit (w_len_list<|w_arg rfl));refine Nat.le_of_not_lt λq=>?_
  first
   |(rw[decide_eq_true q'] at i;exact absurd i 'b')
   |(simp at i;lia)
 cases m with
 | cons w1 w2=>
  cases w2;cases w1 with
  |list ho tD=>exact⟨_,_,c,rfl,rfl,ho,ZC c _ tD,e⟩
def Xm(l:jl)(a:List WData):l.row.toRowW.claim.post a (.bool Qo) a=Qo:=
 postW_of
  (show WShape.has [] (.bool Qo) .bool=Qo by first|rfl|decide|simp[WShape.has,WShape.arms,WShape.armsAll])
  (w_eq_bool (w_res rfl) w_lit) rfl
theorem Oy:∀a:List Int,k8 (a.map PyData.int)=a.map mR
 |[]=>by simp[k8]
 |n::a=>by simp only[dr,k8,lF];rw[Oy a]
def attach_call{l:jl}{n:Nat}{q:aE}{loose:List ao}{XP:(ao->Option ae)->aJ->Prop}{t:aG->aJ->Prop}{d:DefRec}{α:Type}{Yf:aj->α}{Ya:aG->α}
  (I:l.most=Qg n) (J:d.params.defaults=[]) (M:∀w s,Yf s=Ya w->t w s.heap) (N:∀w h h',t w h->(∀b o,h.get? b=Qg o->h'.get? b=Qg o)->t w h')
  (j:∀(w:aG)(c e:aj)(u y:ao->Option ae)(k:af)(o:Obj)(A v g:ae)(a:af)(vs:List ae)(m:List Int),
   Ground q loose [] XP w c u y e.heap->t w e.heap->
   e.heap.get? k=Qg o->o.data=.func (docDef d.name d.params d.body d.scope A v g)->e.heap.CodeRec v d.name->u d.name=Qg (.ref k)->
   e.heap.get? a=Qg { cls:=.type "list",data:=.seq vs.toArray }->ku vs m->m.length<=n->e.gens = #[]->0<e.toks->
   codeAny (aq l.prog w) callerA (.call (.ref k) ⟨[.ref a],[]⟩) (λr x=>r=.ok (.ret<|.bool Qo)/\OldK e.heap x.heap/\x.os=e.os/\fw x.gens) e):
  my q loose XP (λs=>(Yf s,decide<|0<s.toks)) (λw=>(Ya w,Qo)) l.row.toRowW d [] (λf vs=>mD f vs):=by
 intro w c e u y G Y k o A v g O P Q S T B U Z C E as L xX H hrd Ja AJ;obtain rfl:O=.none:=Dflts.none B J;obtain rfl:P=.none:=Dflts.noKw B;have Y1:=congrArg Prod.fst Y;have Y2:=of_decide_eq_true<|congrArg Prod.snd Y;obtain⟨a,vs,m,rfl,rfl,zt,i,p⟩:=Xf I xX Ja;have L':Laid l.row.toRowW.records w c e [lF (me<|m.map PyData.int)] [.ref a] as:=by
  rw[lF,Oy];exact L
 have pB:=aV Y2<|PySem.W.X.script_toks L' rfl;refine enter_call (dG (j w c e u y k o A v g a vs m G (N _ _ _ (M w c Y1) L.keeps) Q (fd_plain S) T U zt i p Z pB) λr x hq=>?_);obtain⟨rfl,h2,h3,h4⟩:=hq;exact⟨.inl ⟨.bool Qo,.bool Qo,[],rfl,λ_=>rfl,.bool Qo,Xm l _,λ_=>⟨dZ,λ_ hm=>(nomatch hm)⟩⟩,h2,h3,h4⟩
section
end
end Att
namespace L2
open PySem PySem.Spec PyProof.Rows
theorem NO:∀{vs:List ae}{a:List Int},ku vs a->nz (a.map V.int) vs
 |_,_,.nil=>.nil
 |_,_,.cons n t h=>.cons ⟨t,rfl⟩ (NO h)
noncomputable def sG(s:cN):fc:=match s with
 |.FunctionDef _ a _ _ _ _ _ _ _ _=>a
 |_=>{ posonlyargs:=[],args:=[],vararg:=Qn,kwonlyargs:=[],kw_defaults:=[],kwarg:=Qn,defaults:=[] }
def qK(s:cN):List cN:=match s with
 |.FunctionDef _ _ b _ _ _ _ _ _ _=>b
 |_=>[]
def l_(s:cN):cC:=match s with
 |.FunctionDef _ _ _ _ _ _ sc _ _ _=>sc
 |_=>{ kind:=.function,names:=[],isGenerator:=Qp,isCoroutine:=Qp }
abbrev yS:uD:=λ_ _ _ _ _ _=>False
abbrev E0:XK:=λ_ _ _=>False
def K4:tX yS X E0:=λ_ _ _ _ _ _ _ h=>h.elim
structure Fun(K:ag)(x qual:ao)(st:cN)(f:af)(fd:cV):Prop where
 ex:∃(oc:ae)(od:Option af)(kV doc pm:ae)(an:Option af)(g_ ct:ae)(qx:Array (Option ae)),
  fd=a8 x qual (sG st) (qK st) (l_ st) .none kV doc pm an g_ ct/\K.lookup f=Qg ⟨oc,od,.func fd,qx⟩/\cg K g_ qual=Qo
 kp:bN K (.ref f)=Qo
section
variable{P:aE}{w:aG}{K:ag}{mg:ao->Option ae}{base:aJ}
def Fun.ok{x b:ao}{c:cN}{f:af}{fd:cV}{N ps:List ao}{k:Nat}{e:Sp}(F:Fun K x b c f fd)(S:oZ N ps (l_ c))(g:∀vs H Q E,e vs H Q E->vs.length=ps.length)
  (i:∀(d:ae)(A:aY)(a:List Env)(s:aj)(H:Hp)(vs:List V)(Q:VK)(E:XK),nB k (A.deeper<|envOfC b (l_ c) s.heap.objs.size f d)->e vs H Q E->
   ∃t,qH (vY yS P w K mg base N b (l_ c) f d A a s H E).nox (qK c) t/\t { nx:=λ_ j=>Q .non j,rt:=Q } (start N vs) H):nG P w K mg base yS (k+1) f fd ps e:=by obtain⟨r,u,v,l,y,B,d,C,G,rfl,m,n⟩:=F.ex;refine yp m n S g λA a s H vs Q E o p=>?_;obtain⟨t,h,q⟩:=i d A a s H vs Q E o p;exact⟨t,h.nox,q⟩
def Fun.binds{x a:ao}{c:cN}{f:af}{fd:cV}{ps:List ao}(F:Fun K x a c f fd)
  (h:∀(d b e:ae)(g:Option af)(i j:ae)(us:List ae),us.length=ps.length->bindArgs (a8 x a (sG c) (qK c) (l_ c) .none d b e g i j) ⟨us,[]⟩=pure (ps.zip us)):Binds K fd ps []:=by obtain⟨k,l,d,b,e,g,i,j,m,rfl,n,o⟩:=F.ex;exact .all<|h d b e g i j
def Bw{x a:ao}{b:cN}{f:af}{m:ae}{n g:Option af}{o:Array (Option ae)}{h d i e j:ae}(l:K.lookup f=Qg ⟨m,n,.func<|a8 x a (sG b) (qK b) (l_ b) .none h d i g e j,o⟩)
  (c:cg K e a=Qo) (k:bN K (.ref f)=Qo):Fun K x a b f (a8 x a (sG b) (qK b) (l_ b) .none h d i g e j):=⟨⟨m,n,h,d,i,g,e,j,o,rfl,l,c⟩,k⟩
end
section
def pv(i:Nat)(a:X.N[i]?=Qg x:=by rfl)(b:qu X.env.scope x:=by first|exact Or.inl rfl|exact Or.inr (Or.inl rfl)|exact Or.inr<|Or.inr rfl)(c:pL x:=by decide)
  (d:(x==("__classdict__":ao))=Qp:=by decide):PE X (.Name x pos) (A7 i):=Ad a b c d
end
def nF(H H':Hp):Prop:=∀b o,H b=Qg o->H' b=Qg o
def nF.refl(H:Hp):nF H H:=λ_ _ h=>h
def nF.trans(a:nF H H1)(b:nF H1 H2):nF H H2:=λc o h=>b c o<|a c o h
def nF.free{H a:Hp}(e:nF H a){l:af}(h:a l=iS):H l=iS:=by
 cases q:H l with
 |none=>rfl
 | some o=>
  rw[e l o q] at h;cases h
def nF.seq{K:ag}{H b:Hp}{a:af}{c:List V}(e:nF H b)(h:pI K H a c):pI K b a c:=by
 rcases h with(h|⟨o,h⟩)|h
 .exact .inl (.inl<|e _ _ h)
 .exact .inl<|.inr ⟨o,e _ _ h⟩
 .exact .inr h
section
variable{κ:Type}[DecidableEq κ]
def sU(h_:List (κ×V))(k:κ):Option V:=(h_.find? λkv=>decide<|kv.1=k).map (·.2)
noncomputable def yU(h_:List (κ×V))(k:κ)(v:V):List (κ×V):=
 if (h_.any λkv=>decide<|kv.1=k)=Qo then h_.map (λkv=>if kv.1=k then (kv.1,v) else kv) else h_++[(k,v)]
def xE(h_:List (κ×V))(k:κ):List (κ×V):=h_.filter λkv=>decide<|kv.1≠k
def BK{p:κ×V}{r:List (κ×V)}{k:κ}(e:p.1=k):sU (p::r) k=Qg p.2:=by simp[sU,dg,e]
def Ap{p:κ×V}{r:List (κ×V)}{k:κ}(e:¬ p.1=k):sU (p::r) k=sU r k:=by simp[sU,dg,e]
theorem NH(k:κ):∀a:List (κ×V),(a.any λb=>decide<|b.1=k)=(sU a k).isSome
 |[]=>rfl
 | p::r=>by
  rw[gT];by_cases e:p.1=k
  .simp only[BK e,decide_eq_true e,Bool.true_or,lG]
  .rw[Ap e,decide_eq_false e,mT];exact NH k r
def Ym(a:List (κ×V))(k:κ)(v):(yU a k v).length<=a.length+1:=by
 unfold yU;split
 .rw[aW];lia
 .rw[aI,a7,jQ];lia
def Wm{a:List (κ×V)}{k:κ}(v)(h:sU a k=Qn):yU a k v=a++[(k,v)]:=by unfold yU;rw[NH,h];exact Qu 'b'
def nR.isSome_eq(r:nR o u):o.isSome=u.isSome:=by
 cases o with
 | none=>cases u with
  |none=>rfl
  |some _=>exact(r).elim
 | some _=>cases u with
  |none=>exact(r).elim
  |some _=>rfl
def nR.getD(r:nR o u)(a:RelV d d'):RelV (o.getD d) (u.getD d'):=by
 cases o with
 | none=>cases u with
  |none=>exact a
  |some _=>exact(show False from r).elim
 | some _=>cases u with
  |none=>exact(show False from r).elim
  |some _=>exact r
def KV.val{c:List (κ×V)}{vs:List (κ×ae)}(r:KV c vs)(k:κ):nR (sU c k) (valueAt vs k):=by
 induction r with
 |nil=>exact dR
 | @cons p q ps qs h t ih=>
  obtain⟨d,f⟩:=h;by_cases e:p.1=k
  .have a:=d.symm.trans e;have b:valueAt (q::qs) k=Qg q.2:=by simp[valueAt,dg,a]
   rw[BK e,b];exact f
  .have a:¬ q.1=k:=λz=>e<|d.trans z;have b:valueAt (q::qs) k=valueAt qs k:=by simp[valueAt,dg,a]
   rw[Ap e,b];exact ih
def KV.any{b:List (κ×V)}{vs:List (κ×ae)}(r:KV b vs)(k:κ):(b.any λa=>decide<|a.1=k)=vs.any λa=>decide (a.1=k):=by
 induction r with
 |nil=>rfl
 |cons h t ih=>rw[gT,gT,ih,h.1]
def KV.repl(r:KV h_ vs)(k:κ)(c:RelV y u):
  KV (h_.map λa=>if a.1=k then (a.1,y) else a) (vs.map λa=>if a.1=k then (a.1,u) else a):=by
 induction r with
 |nil=>exact .nil
 | @cons p q ps qs h t ih=>
  rw[dr,dr];refine .cons ?_ ih;obtain⟨b,d⟩:=h;by_cases e:p.1=k
  .rw[Qs e,Qs<|b.symm.trans e];exact⟨b,c⟩
  .rw[Qu e,Qu (λz=>e<|b.trans z)];exact⟨b,d⟩
def KV.put(r:KV h_ vs)(k:κ)(a:RelV y u):KV (yU h_ k y) (stored vs k u):=by
 unfold yU stored;rw[r.any k];by_cases e:(vs.any λb=>decide<|b.1=k)=Qo
 .rw[Qs e,Qs e];exact r.repl k a
 .rw[Qu e,Qu e];exact Paired.snoc r ⟨rfl,a⟩
def KV.drop(r:KV h_ vs)(k:κ):KV (xE h_ k) (without vs k):=by
 unfold xE without
 induction r with
 |nil=>exact .nil
 | @cons p q ps qs h t ih=>
  obtain⟨c,d⟩:=h;rw[gW,gW];by_cases e:p.1=k
  .have a:¬ decide (p.1≠k)=Qo:=by simp[e]
   have b:¬ decide (q.1≠k)=Qo:=by simp[c.symm.trans e]
   rw[Qu a,Qu b];exact ih
  .have f:¬ q.1=k:=λz=>e<|c.trans z;have a:decide (p.1≠k)=Qo:=by simp[e]
   have b:decide (q.1≠k)=Qo:=by simp[f]
   rw[Qs a,Qs b];exact .cons ⟨c,d⟩ ih
def KV.length(r:KV h_ vs):h_.length=vs.length:=kZ r
def VC(a:List (κ×V))(k:κ):(xE a k).length<=a.length:=hU _ _
end
def Gn(r:RelV (kV k) u):(u9 P w).is k u=Qo:=by
 cases k with
 |inl i=>obtain⟨t,e⟩:=(r);subst e;exact Yw P w i t
 |inr x=>obtain⟨t,e⟩:=(r);subst e;exact X3 P w x t
abbrev KT(H:Hp):List (List Key×V)->List (List Key×af×ae)->Prop:=bP λp q=>p.1=q.1/\H q.2.1=Qg (.tup<|p.1.map kV)/\RelV p.2 q.2.2
def KT.val{H}{c:List (List Key×V)}{d:List (List Key×af×ae)}(r:KT H c d)(k):nR (sU c k) ((atKey d k).map (·.2)):=by
 induction r with
 |nil=>exact dR
 | @cons p q ps qs h t ih=>
  obtain⟨f,_,g⟩:=h;by_cases e:p.1=k
  .have a:=f.symm.trans e;have b:atKey (q::qs) k=Qg q.2:=by simp[atKey,dg,a]
   rw[BK e,b];exact g
  .have a:¬ q.1=k:=λz=>e<|f.trans z;have b:atKey (q::qs) k=atKey qs k:=by simp[atKey,dg,a]
   rw[Ap e,b];exact ih
section
def R9(ok:HOk P w H h)(e:Rd H a u):nN P w H h a u:=e.ok ok
def D9(ok:HOk P w H h)(e:Rd H a (.dK h_)):h_.length<=aK/\(a==sysModules)=Qp/\∃vs,KV h_ vs/\h.DictOf (u9 P w) a vs:=
 show nN P w H h a (.dK h_) from R9 ok e
def Gd(ok:HOk P w H h)(e:H a=Qg (.dK h_)):h_.length<=aK/\(a==sysModules)=Qp/\∃vs,KV h_ vs/\h.DictOf (u9 P w) a vs:=D9 ok<|.inl e
end
section
def Inv.big(I:Inv X Qc σ H s):sysModules<s.heap.objs.size:=by have h:=(I.mod.glob.keeps I.bk).lt;exact Nat.lt_trans 'b' h
def Ml(I:Inv X Qc σ H s)(d:Du (H a))(e:cn a s.heap h')(f:∃q,h'.get? a=Qg q)(c:nN X.prog X.w (upd H a ob) h' a ob)(ht:0<t':=by first|exact cR _|exact Inv.tk ‹_›|assumption|lia):
  Inv X Qc σ (upd H a ob) { s with heap:=h',toks:=t' }:=
 I.write d (.inl rfl) (λb q g z=>(e.2 b g).trans z) f c
def GL(z:h_.length<=aK)(c:(a==sysModules)=Qp)(b:KV h_ vs)(dd:h'.DictOf (u9 P w) a vs):
  nN P w H' h' a (.dK h_):=⟨z,c,vs,b,dd⟩
end
section
def W1(I:Inv X Qc σ H s)(e:H a=Qg (.dK h_))(g:RelV (kV k) u)(l:(sU h_ k).isSome=Qo)(h:∀d,Inv X Qc σ (upd H a (.dK<|xE h_ k)) d->Q () d):
  am (aq X.prog X.w) A (delItem (.ref a) u) Q E s:=by
 obtain⟨z,i,j,b,c⟩:=Gd I.hok e;refine wpAny_delItem_slot c.typeIs 'b' ju
  (call_meetsIn ju c.typeIs PySem.F.entry_dict_delitem (PySem.F.args_dict_delitem_2 _ _) (meets_dict_delitem_pairs (u9 X.prog X.w) a<|Gn g) ⟨j,c,by rw[<- b.length];exact z,by rw[<- (b.val k).isSome_eq];exact l,λm f n=>h _ ?_⟩)
 have o:∃q,m.get? a=Qg q:=let ⟨q,_,_,hq,_⟩:=f;⟨q,hq⟩;exact Ml I (by rw[e];exact dR) n o<|GL (aP (VC h_ k) z) i (b.drop k) f
end
def A8(i:aZ):Prop:=∀ov iv,subscripted i Qp ov iv=operate [ov,iv] (getItem ov iv)
def G2{prog}{w}{A}{E}{s}{env}{value slice}{pos}{T id}{Q}
  (f:typeLookup (.type T) "__getitem__" = pure (Qg<|.builtin id)) (g:A8 slice)
  (h:am (aq prog w) A (eval value env) (λo d=>am (aq prog w) A (eval slice env) (λi b=>b.TypeIs o T/\am (aq prog w) A (getItem o i) Q E b) E d) E s):
  am (aq prog w) A (eval (.Subscript value slice pos) env) Q E s:=by
 refine Subscript_ (bQ h (λo d j=>bQ j (λi b c=>?_) λ_ _ x=>x) λ_ _ x=>x);obtain⟨k,c⟩:=c;refine aa ?_;refine aa<|iq k f ?_;have a:am (aq prog w) A (subscripted slice Qp o i) (λr e=>am (aq prog w) A (letTemporaryGo value o r >>= λ_=>pure r) Q E e) E b:=by
  rw[g o i];exact wpAny_operating (bQ c (λr e l=>aa (wpAny_letTemporaryGo<|ak l)) λ_ _ x=>x)
 first
  |exact ak<|aa a
  |exact aa (ak<|aa a)
  |exact aa a
def R6(td ty:TE):TS:=λD σ H=>td σ H λx H1=>ty σ H1 λy H2=>∃a h_ k,x=.ref a/\H2 a=Qg (.dK h_)/\y=kV k/\(sU h_ k).isSome=Qo/\D.nx σ (upd H2 a (.dK<|xE h_ k))
section
def TM(d:PE X o td)(f:PE X i ty):PS X (.Delete [.Subscript o i tpos] pos) (R6 td ty):=by intro b s c H D I h;refine wpAny_Delete (wpAny_deleteEach_cons<|wpAny_delete_Subscript (oO (d b s c H _ I h) λu g ⟨x,j,m,n,p⟩=>oO (f b g c j _ m p) λB C ⟨y,E,q,r,a,G,k,t,e,v,l,w⟩=>?_));subst t v;obtain rfl:u=bJ a:=n;exact W1 q e r l λJ A=>wpAny_deleteEach_nil ⟨c,_,A,w⟩
end
def VM(h:aJ)(a:sysModules<h.objs.size):nN P w H (h.push { cls:=.type "dict",data:=.dict #[] }) h.objs.size (.dK []):=
 ⟨cH _,beq_eq_false_iff_ne.mpr (bO<|bb a),[],.nil,Heap.DictOf.new h⟩
def Uc:TE:=λ_ H Q=>∀p,H p=Qn->Q (.ref p) (upd H p<|.dK [])
section
def V7:PE X (.Dict [] [] pos) Uc:=λa s b H Q I h=>
 wpAny_Dict_empty ⟨.ref s.heap.objs.size,_,I.laid (λ_ _ q=>ai _ q) (ay _)<|VM s.heap I.big,rfl,h _ (I.hok.fresh<|ay _)⟩
end
structure M1(X:Cx)(o:aZ)(m:ao)(apos:Pos)(e:aZ)(k_:Pos):Prop where
 base:attributeBase o m X.env (eval o X.env)=eval o X.env
 few:((backTo k_<|au [e] X.env).all (λx=>!x.1)&&(backToKw k_<|keywordEach [] X.env).all (λx=>x.1.isSome)
  && decide (([e]:List aZ).length+([]:List dB).length+(if ([]:List dB).isEmpty then 0 else 1)<30))=Qo
 line:(apos.endLine==k_.line)=Qo
 trees:backTo k_ (au [e] X.env)=[(Qp,eval e X.env)]
structure M2(X:Cx)(o:aZ)(m:ao)(apos:Pos)(e f:aZ)(k_:Pos):Prop where
 base:attributeBase o m X.env (eval o X.env)=eval o X.env
 few:((backTo k_<|au [e,f] X.env).all (λx=>!x.1)&&(backToKw k_<|keywordEach [] X.env).all (λx=>x.1.isSome)
  && decide (([e,f]:List aZ).length+([]:List dB).length+(if ([]:List dB).isEmpty then 0 else 1)<30))=Qo
 line:(apos.endLine==k_.line)=Qo
 trees:backTo k_ (au [e,f] X.env)=[(Qp,eval e X.env),(Qp,eval f X.env)]
section
end
section
end
section
end
section
end
end L2
namespace DL
open PySem L2
def wT{X:Cx}{b:List (af×Obj)}{d:St}{H:Hp}{s:aj}{α:Type}{M:jt}{A:aY}{m:Sem α}{Q:α->aj->Prop}{E:ae->aj->Prop}(I:L2.Inv X b d H s)(h:am M A m (λa c=>0<c.toks->Q a c) (λe c=>0<c.toks->E e c) s):am M A m Q E s:=ig I.tk h
structure yf(K:ag)(C:af):Prop where
 ga:bu K (.ref C) "__getattribute__" = Qg (Qg<|.builtin "BaseException.__getattribute__")
 nh:bu K (.ref C) "__getattr__" = Qg Qn
 cl:∃cd,mU K C=Qg cd
 at_:bu K (.ref C) "__class__" = Qg (Qg<|.builtin "object.__class__")
 gt:gF K (.builtin "object.__class__") "__get__" = Qg (Qg<|.builtin "getset_descriptor.__get__")
 tk:jP K (.builtin "object.__class__")=Qg Qo
 ob:gR K C (.type "object")=Qg Qo
 bx:gR K C (.type "BaseException")=Qg Qo
 kit:∀c∈(["int", "bool", "str", "list", "tuple", "dict"]:List String),aH K (.ref C) (.type c)=Qg Qp
section
open PySem.W
def U6(X:K.In s.heap)(k:yf K C)(I:cA s.heap x ox C Qn)(a:Q () s):am M A (checkBuiltinCall "BaseException.__getattribute__" ⟨[.ref x,Cm],[]⟩) Q E s:=by
 have b:builtinKind "BaseException.__getattribute__" = Qg .slot:=by decide +kernel
 have c:splitId "BaseException.__getattribute__" = Qg ("BaseException", "__getattribute__"):=by decide +kernel
 have g:=F.args_bexc_ga (.ref x) Cm;have d:=I.type (M:=M);have e:=looks_mroIn (M:=M) X k.bx;have f:Looks M s.heap (isInstance (.ref x)<|.type "BaseException") Qo:=d.andThen e;simp only[checkBuiltinCall,b,c];refine aa<|f.at ?_
 repeat (first|wp_step|exact a)
def U5(X:K.In s.heap)(k:yf K C)(I:cA s.heap x ox C Qn)(h:Q (Qg<|.ref C) { s with toks:=s.toks+1 }):am (aq prog w) A (getAttr? (.ref x) "__class__") Q E s:=by
 obtain⟨i,c⟩:=k.cl;have d:findObj K C Qn "__class__" = Qg (.bind (.builtin "getset_descriptor.__get__")<|.builtin "object.__class__"):=by
  unfold findObj;rw[c,k.at_];simp only[Option.bind_some,k.gt,k.tk]
 have b:=I.type (M:=aq prog w);have e:=j4 (M:=aq prog w) X k.ga;have f:=j4 (M:=aq prog w) X k.nh;have g:=looks_find (M:=aq prog w) X I d;unfold getAttr? getAttrBy? getAttrBy;refine aa (wpAny_mkText<|aa (fR<|bD (aa<|b.at (aa<|e.at ?_))));have a:(onTheHeap (bJ C)&&e8 "BaseException.__getattribute__" == e8 "object.__getattribute__")=Qp:=by
  rw[show(e8 "BaseException.__getattribute__" == e8 "object.__getattribute__")=Qp from by decide +kernel];rfl
 show am _ _ (if (onTheHeap (bJ C)&&e8 "BaseException.__getattribute__" == e8 "object.__getattribute__")=Qo then _ else _) _ _ _;rw[Qu (by rw[a];decide)];unfold getAttrByItsOwn hookBefore;rw[Qs (by rfl)];refine aa (f.at<|aa (fR<|bD ?_));unfold callGetattribute boundAndCalled;rw[Qu 'b'];rw[lT.ga.bind<|.ref x];refine aa (ak<|gm ?_);refine codeAny_call_builtin lT.ga.plain F.entry_bexc_ga<|U6 X k I ?_;unfold dN.«object.__getattribute__»;refine aa<|ak (aa<|ak (aa<|b.at (aa<|g.at ?_)));show am _ _ (jv _ _ _ _) _ _ _;unfold jv;refine aa<|bD (gm<|class_get X I k.ob ?_);exact ak (ak<|ak h)
set_option tactic.hygienic true in
def LW(k:yf K C):KitX K (.ref x) (.ref C) (λh=>∃b,cA h x b C Qn) where
 ty:=λ_ _ _ ⟨b,I⟩=>I.type
 it:=λ_ _ X _=>by
  obtain⟨g,a⟩:=k.cl;unfold clsIn at a;split at a
  .rename_i i j c l d;intro p r s t m q;unfold isType loadHead;exact aa (wpAny_loadPart (m _ _<|X _ _ d)<|ak q)
  .cases a
 ne:=λh o u v n w X f=>by
  obtain⟨g,a⟩:=k.cl;refine Bool.eq_false_iff.mpr λq=>?_;have e:C=o:=Value.ref.inj<|beq_iff_eq.mp q;subst e;unfold clsIn at a;split at a
  .rename_i i j c l d;have z:=(X _ _ d).symm.trans f;cases z
  .cases a
 ca:=λX ⟨b,I⟩ q=>U5 X k I q
end
end DL
namespace DL
open PySem L2
inductive D where
 |non
 |bl (b:Bool)
 |int (i:Int)
 |str (cs:qB)
 |lst (xs:List D)
 |tup (xs:List D)
 |own (k:Nat)
 |dct
 |exn (C:Nat)
 |tab (P:Nat)
 |map (ks:List (Sum Int qB)) (ds:List D)
 |adr (a:Nat)
 |obj (C k:Nat)
 deriving Inhabited
abbrev Ow:=List<|List D
inductive R(α:Type) where
 |ok (a:α) (O:Ow)
 |exc (c:Nat) (O:Ow)
 |bad
 deriving Inhabited
def R.bnd{α β:Type}(r:R α)(k:α->Ow->R β):R β:=match r with
 |.ok a O=>k a O
 |.exc c O=>.exc c O
 |.bad=>.bad
abbrev Sg:=List<|Option D
abbrev DE:=Sg->Ow->R D
abbrev DT:=Sg->Ow->R Bool
abbrev DA:=Sg->Ow->R (List D)
section
variable(K:ag)(H:Hp)(Qb μ:List af)
def RB(K:ag)(a:af)(xs:List V):Prop:=∃(o:Obj)(f_:Array ae)(n:Nat),K.lookup a=Qg o/\o.cls=.type "list"/\o.dict=Qn/\o.data=.seq f_ n/\f_.size<=aK/\nz xs f_.toList
def RA(K:ag)(a:af)(xs:List V):Prop:=∃(o:Obj)(f_:Array ae)(n:Nat),K.lookup a=Qg o/\o.cls=.type "tuple"/\o.data=.seq f_ n/\f_.size<=aK/\nz xs f_.toList
def LstAt(a:af)(vs:List V):Prop:=(Rd H a (.lst vs)/\a∉Qb/\a∉μ)\/RB K a vs
def TupAt(a:af)(vs:List V):Prop:=(Rd H a (.tup vs)/\a∉Qb/\a∉μ)\/RA K a vs/\∃o,K.lookup a=Qg o/\o.dict=Qn
end
noncomputable def kD:Sum Int qB->Key
 |.inl i=>.inl i
 |.inr cs=>.inr ⟨cs.toArray⟩
def nJ(H:Hp)(P:af):Prop:=∃ps,H P=Qg (.tbl ps)/\TriplesOk ps.toList/\∀pos cv,codeAmong pos ps.toList=Qg cv->∃c φ,cv=.ref c/\H c=Qg (.ext φ)/\∀h:aJ,φ h->∃q,h.CodeRec (.ref c) q
def z6(o:HO):Prop:=∀ps,o ≠ .tbl ps
section
variable(K:ag)(H:Hp)(Qb μ:List af)
mutual
def Qe:D->V->Prop
 |.non,v=>v=.non
 |.bl b,v=>v=.bl b
 |.int i,v=>v=.int i
 |.str cs,v=>v=.str ⟨cs.toArray⟩
 |.lst ds,v=>∃a vs,v=.ref a/\LstAt K H Qb μ a vs/\nv ds vs
 |.tup ds,v=>∃a vs,v=.ref a/\TupAt K H Qb μ a vs/\nv ds vs
 |.own k,v=>∃a,v=.ref a/\μ[k]?=Qg a
 |.dct,v=>∃a,v=.ref a/\Rd H a (.dK [])/\a∉Qb/\a∉μ
 |.exn C,v=>∃a φ,v=.ref a/\(yf K C/\∀h:aJ,φ h->∃ox,cA h a ox C Qn)/\Rd H a (.ext φ)/\a∉Qb/\a∉μ
 |.tab P,v=>v=.bl Qp/\nJ H P
 |.map ks ds,v=>∃a vs,v=.ref a/\(∃o,H a=Qg (.frz o (.dK<|(ks.map kD).zip vs)))/\a∉Qb/\a∉μ/\ks.length=vs.length/\nv ds vs
 |.adr a,v=>v=.ref a
 |.obj C k,v=>∃a dx b,v=.ref a/\H a=Qg (.ins C dx [(("stands":ao),.ref b)])/\a∉Qb/\a∉μ/\μ[k]?=Qg b
def nv:List D->List V->Prop
 |[],vs=>vs=[]
 |d::ds,vs=>∃v r,vs=v::r/\Qe d v/\nv ds r
end
structure nu(O:Ow):Prop where
 len:μ.length=O.length
 nd:μ.Nodup
 nh:∀a∈μ,a∉Qb
 ht:∀a∈Qb,H a≠Qn
 at_:∀(k:Nat)a,μ[k]?=Qg a->∃ds vs,O[k]?=Qg ds/\H a=Qg (.lst vs)/\nv K H Qb μ ds vs
structure ny(σ:Sg)(a_:St):Prop where
 len:σ.length=a_.length
 at_:∀(i:Nat)d,σ[i]?=Qg (Qg d)->∃v,a_[i]?=Qg (Qg v)/\Qe K H Qb μ d v
end
structure Ext(H:Hp)(μ:List af)(H':Hp)(b_:List af):Prop where
 pre:∃ν,b_=μ++ν
 kept:∀b o,H b=Qg o->b∉μ->z6 o->H' b=Qg o
 fresh:∀b∈b_,b∈μ\/H b=Qn
 there:∀b,H b≠Qn->H' b≠Qn
 tab:∀P,nJ H P->nJ H' P
structure Mv(H:Hp)(Qb μ:List af)(H':Hp)(hid' b_:List af):Prop where
 pre:∃ν,b_=μ++ν
 kept:∀b o,H b=Qg o->b∉μ->b∉Qb->z6 o->H' b=Qg o
 fresh:∀b∈b_,b∈μ\/H b=Qn
 hids:∀b∈hid',b∈Qb\/H b=Qn
 there:∀b,H b≠Qn->H' b≠Qn
 tab:∀P,nJ H P->nJ H' P
section
def Ext.keep(e:Ext H μ H' b_)(b:af)(o:HO)(h:H b=Qg o)(n:b∉μ)(ht:z6 o:=by intro ps z;cases z):H' b=Qg o:=e.kept b o h n ht
def nJ.upd(t:nJ H P)(f:H p=Qn \/ ∃vs,H p=Qg (.lst vs)):nJ (L2.upd H p o) P:=by
 obtain⟨g,a,h,i⟩:=t;have j:P≠p:=by
  rintro rfl;rcases f with z|⟨vs,z⟩<;>(rw[z] at a;cases a)
 refine⟨g,by rw[oN j];exact a,h,λb k e=>?_⟩;obtain⟨c,l,rfl,d,m⟩:=i b k e;have n:c≠p:=by
  rintro rfl;rcases f with z|⟨vs,z⟩<;>(rw[z] at d;cases d)
 exact⟨c,l,rfl,by rw[oN n];exact d,m⟩
def Ext.refl:Ext H μ H μ:=⟨⟨[],by simp⟩,λ_ _ h _ _=>h,λ_ h=>.inl h,λ_ h=>h,λ_ t=>t⟩
def Ext.trans(a:Ext H μ H1 c_)(b:Ext H1 c_ H2 n_):Ext H μ H2 n_:=by
 refine⟨?_,λc o h n d=>?_,λc h=>?_,λc h=>b.there c<|a.there c h,λP t=>b.tab P<|a.tab P t⟩
 .obtain⟨x,rfl⟩:=a.pre;obtain⟨y,rfl⟩:=b.pre;exact⟨x++y,by simp⟩
 .refine b.kept c o (a.kept c o h n d) (λm=>?_) d;rcases a.fresh c m with z|z
  .exact n z
  .rw[z] at h;cases h
 .rcases b.fresh c h with z|z
  .exact a.fresh c z
  .by_cases f:c∈μ
   .exact .inl f
   .cases e:H c with
    |none=>exact .inr rfl
    |some o=>exact absurd z (a.there c (by rw[e];simp))
def Ext.mv(a:Ext H μ H' b_):Mv H Qb μ H' Qb b_:=⟨a.pre,λb o h n _ c=>a.kept b o h n c,a.fresh,λ_ h=>.inl h,a.there,a.tab⟩
def Mv.refl:Mv H Qb μ H Qb μ:=Ext.refl.mv
def Mv.trans(a:Mv H Qb μ H1 vL c_)(b:Mv H1 vL c_ H2 Jw n_):Mv H Qb μ H2 Jw n_:=by
 have d:∀c,H1 c=Qn->H c=Qn:=λc h=>by
  cases e:H c with
  |none=>rfl
  |some o=>exact absurd h (a.there c (by rw[e];simp))
 refine⟨?_,λc o h f g i=>?_,λc h=>?_,λc h=>?_,λc h=>b.there c<|a.there c h,λP t=>b.tab P<|a.tab P t⟩
 .obtain⟨x,rfl⟩:=a.pre;obtain⟨y,rfl⟩:=b.pre;exact⟨x++y,by simp⟩
 .refine b.kept c o (a.kept c o h f g i) (λm=>?_) (λm=>?_) i
  .rcases a.fresh c m with z|z
   .exact f z
   .rw[z] at h;cases h
  .rcases a.hids c m with z|z
   .exact g z
   .rw[z] at h;cases h
 .rcases b.fresh c h with z|z
  .exact a.fresh c z
  .exact .inr<|d c z
 .rcases b.hids c h with z|z
  .exact a.hids c z
  .exact .inr<|d c z
def Mv.hide(h:H b=Qn):Mv H Qb μ H (b::Qb) μ:=⟨⟨[],by simp⟩,λ_ _ h _ _ _=>h,λ_ m=>.inl m,λc m=>(av.mp m).elim (λe=>.inr (by rw[e];exact h)) .inl,λ_ h=>h,λ_ t=>t⟩
def Mv.unhide:Mv H (b::Qb) μ H Qb μ:=⟨⟨[],by simp⟩,λ_ _ h _ _ _=>h,λ_ m=>.inl m,λ_ m=>.inl<|ar _ m,λ_ h=>h,λ_ t=>t⟩
def Rd.mv(r:Rd H a u)(e:Mv H Qb μ H' hid' b_)(c:a∉Qb)(d:a∉μ)(ht:z6 u:=by intro ps z;cases z):Rd H' a u/\a∉hid'/\a∉b_:=by
 have b:∀o,H a=Qg o->a∉hid'/\a∉b_:=by
  intro o h;constructor
  .intro m;rcases e.hids a m with z|z
   .exact c z
   .rw[z] at h;cases h
  .intro m;rcases e.fresh a m with z|z
   .exact d z
   .rw[z] at h;cases h
 rcases r with r|⟨o,r⟩
 .exact⟨.inl<|e.kept _ _ r d c ht,b _ r⟩
 .exact⟨.inr ⟨o,e.kept _ _ r d c (by intro ps z;cases z)⟩,b _ r⟩
def LstAt.mv(h:LstAt K H Qb μ a vs)(e:Mv H Qb μ H' hid' b_):LstAt K H' hid' b_ a vs:=
 h.imp (λz=>Rd.mv z.1 e z.2.1 z.2.2) id
def TupAt.mv(h:TupAt K H Qb μ a vs)(e:Mv H Qb μ H' hid' b_):TupAt K H' hid' b_ a vs:=
 h.imp (λz=>Rd.mv z.1 e z.2.1 z.2.2) id
def LstAt.sq(h:LstAt K H Qb μ a vs):pI K H a vs:=h.elim (λz=>.inl z.1) .inr
def TupAt.sq(h:TupAt K H Qb μ a vs):qP K H a vs:=h.elim (λz=>.inl z.1) λz=>.inr z.1
mutual
theorem Qe.mv(e:Mv H Qb μ H' hid' b_):∀{d:D}{v:V},Qe K H Qb μ d v->Qe K H' hid' b_ d v
 |.non,_,h=>h
 |.bl _,_,h=>h
 |.int _,_,h=>h
 |.str _,_,h=>h
 | .lst ds,v,h=>by
  unfold Qe at h ⊢;obtain⟨a,i,r,l,q⟩:=h;exact⟨a,i,r,l.mv e,nv.mv e q⟩
 | .tup ds,v,h=>by
  unfold Qe at h ⊢;obtain⟨a,i,r,l,q⟩:=h;exact⟨a,i,r,l.mv e,nv.mv e q⟩
 | .own k,v,h=>by
  unfold Qe at h ⊢;obtain⟨a,r,q⟩:=h;obtain⟨x,rfl⟩:=e.pre;exact⟨a,r,by rw[aD (al.mp q).1];exact q⟩
 | .dct,v,h=>by
  unfold Qe at h ⊢;obtain⟨a,r,q,c,f⟩:=h;exact⟨a,r,Rd.mv q e c f⟩
 | .exn C,v,h=>by
  unfold Qe at h ⊢;obtain⟨a,p,r,g,q,c,f⟩:=h;exact⟨a,p,r,g,Rd.mv q e c f⟩
 | .tab P,v,h=>by
  unfold Qe at h ⊢;exact⟨h.1,e.tab _ h.2⟩
 | .map ks ds,v,h=>by
  unfold Qe at h ⊢;obtain⟨a,i,r,⟨o,q⟩,c,f,s,d⟩:=h;obtain⟨_,j,m⟩:=Rd.mv (.inr ⟨o,q⟩) e c f;exact⟨a,i,r,⟨o,e.kept a _ q f c (by intro t z;cases z)⟩,j,m,s,nv.mv e d⟩
 |.adr _,_,h=>h
 | .obj C k,v,h=>by
  unfold Qe at h ⊢;obtain⟨a,u,b,r,q,c,f,n⟩:=h;obtain⟨_,j,m⟩:=Rd.mv (.inl q) e c f;obtain⟨x,rfl⟩:=e.pre;exact⟨a,u,b,r,e.kept a _ q f c (by intro t z;cases z),j,m,by rw[aD (al.mp n).1];exact n⟩
theorem nv.mv(e:Mv H Qb μ H' hid' b_):∀{ds:List D}{vs:List V},nv K H Qb μ ds vs->nv K H' hid' b_ ds vs
 |[],_,h=>h
 | d::ds,vs,h=>by
  unfold nv at h ⊢;obtain⟨v,r,a,b,c⟩:=h;exact⟨v,r,a,Qe.mv e b,nv.mv e c⟩
end
def Qe.ext(e:Ext H μ H' b_)(h:Qe K H Qb μ d v):Qe K H' Qb b_ d v:=h.mv e.mv
def nv.ext(e:Ext H μ H' b_)(h:nv K H Qb μ ds vs):nv K H' Qb b_ ds vs:=h.mv e.mv
def ny.mv(h:ny K H Qb μ σ a_)(e:Mv H Qb μ H' hid' b_):ny K H' hid' b_ σ a_:=
 ⟨h.len,λi d q=>let ⟨v,a,b⟩:=h.at_ i d q;⟨v,a,b.mv e⟩⟩
def ny.ext(h:ny K H Qb μ σ a_)(e:Ext H μ H' b_):ny K H' Qb b_ σ a_:=h.mv e.mv
def ny.set(h:ny K H Qb μ σ a_)(q:Qe K H Qb μ d v)(i:Nat):ny K H Qb μ (σ.set i<|Qg d) (a_.set i<|Qg v):=by
 refine⟨by simp[h.len],λj x e=>?_⟩;by_cases c:i=j
 .subst c;have f:i<σ.length:=by have:=(al.mp e).1;simpa using this
  rw[aX f] at e;cases e;exact⟨v,by rw[aX (by rw[<- h.len];exact f)],q⟩
 .rw[aQ c] at e;obtain⟨w,a,b⟩:=h.at_ j x e;exact⟨w,by rw[aQ c];exact a,b⟩
theorem nv.length:∀{ds:List D}{vs:List V},nv K H Qb μ ds vs->ds.length=vs.length
 |[],_,h=>by unfold nv at h;subst h;rfl
 | d::ds,vs,h=>by
  obtain⟨v,r,rfl,_,a⟩:=h;simp[nv.length a]
def nv.nil:nv K H Qb μ [] []:=by unfold nv;rfl
def nv.cons(h:Qe K H Qb μ d v)(t:nv K H Qb μ ds vs):nv K H Qb μ (d::ds) (v::vs):=by unfold nv;exact⟨v,vs,rfl,h,t⟩
theorem nv.append:∀{ds a:List D}{vs b:List V},nv K H Qb μ ds vs->nv K H Qb μ a b->nv K H Qb μ (ds++a) (vs++b)
 |[],_,_,_,h,t=>by unfold nv at h;subst h;exact t
 | d::ds,a,vs,b,h,t=>by
  obtain⟨v,r,rfl,c,e⟩:=h;exact .cons c<|nv.append e t
theorem nv.get:∀{ds:List D}{vs:List V}{i:Nat}{d:D},nv K H Qb μ ds vs->ds[i]?=Qg d->∃v,vs[i]?=Qg v/\Qe K H Qb μ d v
 |[],_,_,_,_,e=>by simp at e
 | d::ds,vs,0,x,h,e=>by
  obtain⟨v,r,rfl,c,f⟩:=h;simp at e;subst e;exact⟨v,by simp,c⟩
 | d::ds,vs,i+1,x,h,e=>by
  obtain⟨v,r,rfl,c,f⟩:=h;obtain⟨z,a,b⟩:=nv.get f ⇑e;exact⟨z,by simpa using a,b⟩
theorem nv.take:∀{ds:List D}{vs:List V}(n:Nat),nv K H Qb μ ds vs->nv K H Qb μ (ds.take n) (vs.take n)
 |_,_,0,_=>by simpa using nv.nil
 |[],_,n+1,h=>by unfold nv at h;subst h;simpa using nv.nil
 | d::ds,vs,n+1,h=>by
  obtain⟨v,r,rfl,a,b⟩:=h;simpa using nv.cons a (nv.take n b)
theorem nv.drop:∀{ds:List D}{vs:List V}(n:Nat),nv K H Qb μ ds vs->nv K H Qb μ (ds.drop n) (vs.drop n)
 |_,_,0,h=>by simpa using h
 |[],_,n+1,h=>by unfold nv at h;subst h;simpa using nv.nil
 | d::ds,vs,n+1,h=>by
  obtain⟨v,r,rfl,b,a⟩:=h;simpa using nv.drop n a
theorem nv.set(q:Qe K H Qb μ d v):∀{ds:List D}{vs:List V}(i:Nat),nv K H Qb μ ds vs->nv K H Qb μ (ds.set i d) (vs.set i v)
 |[],_,i,h=>by unfold nv at h;subst h;simpa using nv.nil
 | x::ds,vs,0,h=>by
  obtain⟨w,r,rfl,b,a⟩:=h;simpa using nv.cons q a
 | x::ds,vs,i+1,h=>by
  obtain⟨w,r,rfl,b,a⟩:=h;simpa using nv.cons b (nv.set q i a)
theorem nv.rev:∀{ds:List D}{vs:List V},nv K H Qb μ ds vs->nv K H Qb μ ds.reverse vs.reverse
 |[],_,h=>by unfold nv at h;subst h;simpa using nv.nil
 | d::ds,vs,h=>by
  unfold nv at h;obtain⟨v,r,rfl,a,b⟩:=h;simpa using nv.append (nv.rev b) (.cons a .nil)
def vb(b)(h:H b≠Qn):upd H p o b≠Qn:=by
 by_cases e:b=p
 .subst e;rw[pK];simp
 .rw[oN e];exact h
def Ext.laid(h:H p=Qn):Ext H μ (upd H p o) μ:=
 ⟨⟨[],by simp⟩,λb u e _ _=>by rw[oN<|qS e h];exact e,λ_ m=>.inl m,vb,λ_ t=>t.upd<|.inl h⟩
def nu.laid(c:nu K H Qb μ O)(h:H p=Qn):nu K (upd H p o) Qb μ O:=by
 refine⟨c.len,c.nd,c.nh,λa m=>?_,λk a e=>?_⟩
 .by_cases q:a=p
  .subst q;rw[pK];simp
  .rw[oN q];exact c.ht a m
 .obtain⟨d,f,g,b,i⟩:=c.at_ k a e;exact⟨d,f,g,by rw[oN<|qS b h];exact b,i.ext<|.laid h⟩
def nu.not_in(c:nu K H Qb μ O)(h:H p=Qn):p∉Qb/\p∉μ:=by refine⟨λm=>c.ht p m h,λm=>?_⟩;obtain⟨k,b,e⟩:=dD.mp m;obtain⟨d,f,_,a,_⟩:=c.at_ k p (by rw[al];exact⟨b,e⟩);rw[h] at a;cases a
def Qe.newL(c:nu K H Qb μ O)(h:H p=Qn)(q:nv K H Qb μ ds vs):Qe K (upd H p<|.lst vs) Qb μ (.lst ds) (.ref p):=by exact⟨p,vs,rfl,.inl ⟨.inl pK,c.not_in h⟩,q.ext<|.laid h⟩
def Qe.newT(c:nu K H Qb μ O)(h:H p=Qn)(q:nv K H Qb μ ds vs):Qe K (upd H p<|.tup vs) Qb μ (.tup ds) (.ref p):=by exact⟨p,vs,rfl,.inl ⟨.inl pK,c.not_in h⟩,q.ext<|.laid h⟩
def Ext.cell(h:H p=Qn):Ext H μ (upd H p o) (μ++[p]):=
 ⟨⟨[p],rfl⟩,λb u e _ _=>by rw[oN<|qS e h];exact e,λb m=>by
  rcases aO.mp m with m|m
  .exact .inl m
  .have:b=p:=⇑m
   subst this;exact .inr h,vb,λ_ t=>t.upd<|.inl h⟩
def nu.cell(c:nu K H Qb μ O)(h:H p=Qn)(q:nv K H Qb μ ds vs):nu K (upd H p<|.lst vs) Qb (μ++[p]) (O++[ds]):=by
 have d:=c.not_in h;refine⟨by simp[c.len],?_,λa m=>?_,λa m=>?_,λk a e=>?_⟩
 .rw[fq];refine⟨c.nd,by simp,λa i b j=>?_⟩;have:b=p:=⇑j
  subst this;rintro rfl;exact d.2 i
 .rcases aO.mp m with m|m
  .exact c.nh a m
  .have:a=p:=⇑m
   subst this;exact d.1
 .by_cases q:a=p
  .subst q;rw[pK];simp
  .rw[oN q];exact c.ht a m
 .by_cases f:k<μ.length
  .rw[aD f] at e;obtain⟨l,n,o,g,r⟩:=c.at_ k a e;exact⟨l,n,by rw[aD (by rw[<- c.len];exact f)];exact o,by rw[oN<|qS g h];exact g,r.ext<|.cell h⟩
  .rw[bh 'd'] at e;have s:k-μ.length=0:=by
    have:=(al.mp e).1;simp at this;lia
   rw[s] at e;simp at e;subst e;refine⟨ds,vs,?_,pK,q.ext<|.cell h⟩;have:k=O.length:=by have:=c.len;lia
   subst this;simp
def Ext.put(h:p∈μ)(a:∃vs,H p=Qg (.lst vs)):Ext H μ (upd H p o) μ:=
 ⟨⟨[],by simp⟩,λb u e n _=>by rw[oN (by rintro rfl;exact n h)];exact e,λ_ m=>.inl m,vb,λ_ t=>t.upd<|.inr a⟩
def nu.put(c:nu K H Qb μ O)(b:μ[k]?=Qg p)(q:nv K H Qb μ ds vs):nu K (upd H p<|.lst vs) Qb μ (O.set k ds):=by
 have g:=aR b;have h:∃vs,H p=Qg (.lst vs):=let ⟨_,vs,_,d,_⟩:=c.at_ k p b;⟨vs,d⟩;refine⟨by simp[c.len],c.nd,c.nh,λa m=>?_,λj a e=>?_⟩
 .by_cases q:a=p
  .subst q;rw[pK];simp
  .rw[oN q];exact c.ht a m
 .by_cases f:j=k
  .subst f;rw[b] at e;cases e;refine⟨ds,vs,?_,pK,q.ext<|.put g h⟩;rw[aX (by rw[<- c.len];exact(al.mp b).1)]
  .have l:a≠p:=by
    rintro rfl;obtain⟨i,n⟩:=al.mp e;obtain⟨d,o⟩:=al.mp b;exact f ((jA c.nd).mp<|n.trans o.symm)
   obtain⟨r,s,i,d,t⟩:=c.at_ j a e;exact⟨r,s,by rw[aQ<|bO f];exact i,by rw[oN l];exact d,t.ext<|.put g h⟩
end
section
variable(Ex:Nat->Hp->Prop)(K:ag)
def post{α β:Type}(rel:Hp->List af->α->β->Prop)(H:Hp)(Qb μ:List af)(r:R α)(Q:β->Hp->Prop):Prop:=match r with
 |.ok d O'=>∀v H' b_,Ext H μ H' b_->nu K H' Qb b_ O'->rel H' b_ d v->Q v H'
 |.exc c O'=>∀H' b_,Ext H μ H' b_->nu K H' Qb b_ O'->Ex c H'
 |.bad=>False
abbrev pf(H:Hp)(Qb μ:List af)(r:R D)(Q:VK):Prop:=post Ex K (λH' b_ d v=>Qe K H' Qb b_ d v) H Qb μ r Q
abbrev u6(H:Hp)(Qb μ:List af)(r:R Bool)(Q:Bool->Hp->Prop):Prop:=post Ex K (λ_ _ d v=>d=v) H Qb μ r Q
abbrev Gg(H:Hp)(Qb μ:List af)(r:R (List D))(Q:List V->Hp->Prop):Prop:=post Ex K (λH' b_ d v=>nv K H' Qb b_ d v) H Qb μ r Q
def rd(t:DE):TE:=λa_ H Q=>∃Qb μ σ O,ny K H Qb μ σ a_/\nu K H Qb μ O/\pf Ex K H Qb μ (t σ O) Q
def uP(t:DT):TT:=λa_ H Q=>∃Qb μ σ O,ny K H Qb μ σ a_/\nu K H Qb μ O/\u6 Ex K H Qb μ (t σ O) Q
def r9(t:DA):TA:=λa_ H Q=>∃Qb μ σ O,ny K H Qb μ σ a_/\nu K H Qb μ O/\Gg Ex K H Qb μ (t σ O) Q
end
section
def post.ext{α β:Type}{a:Hp->List af->α->β->Prop}{r:R α}{Q:β->Hp->Prop}(h:post Ex K a H Qb μ r Q)(e:Ext H μ H1 c_):post Ex K a H1 Qb c_ r Q:=by
 cases r with
 |ok d O'=>exact λv b f g c q=>h v b f (e.trans g) c q
 |exc c O'=>exact λb f g c=>h b f (e.trans g) c
 |bad=>exact h
def post.bnd{α β g i:Type}{a:Hp->List af->α->β->Prop}{j:Hp->List af->g->i->Prop}{r:R α}{k:α->Ow->R g}{Q:i->Hp->Prop}{Q1:β->Hp->Prop}
  (h:post Ex K j H Qb μ (r.bnd k) Q)
  (l:∀d O1 v b f,Ext H μ b f->nu K b Qb f O1->a b f d v->post Ex K j b Qb f (k d O1) Q->Q1 v b):post Ex K a H Qb μ r Q1:=by
 cases r with
 |ok d O'=>exact λv m n e c q=>l d O' v m n e c q<|post.ext (h) e
 |exc c O'=>exact h
 |bad=>exact h
def post.ok{α β:Type}{a:Hp->List af->α->β->Prop}{d:α}{O:Ow}{Q:β->Hp->Prop}{v:β}(h:post Ex K a H Qb μ (.ok d O) Q){b:Hp}{f:List af}(e:Ext H μ b f)(c:nu K b Qb f O)(q:a b f d v):Q v b:=h v b f e c q
def post.here{α β:Type}{a:Hp->List af->α->β->Prop}{d:α}{O:Ow}{Q:β->Hp->Prop}{v:β}(h:post Ex K a H Qb μ (.ok d O) Q)(c:nu K H Qb μ O)(q:a H μ d v):Q v H:=h v H μ .refl c q
end
structure PD(X:Cx)(Ex:Nat->Hp->Prop)(e:aZ)(t:DE):Prop where
 out:PE X e (rd Ex X.K t)
structure pO(X:Cx)(Ex:Nat->Hp->Prop)(e:aZ)(t:DT):Prop where
 out:PT X e (uP Ex X.K t)
structure qW(X:Cx)(Ex:Nat->Hp->Prop)(es:List aZ)(t:DA):Prop where
 out:PA X es (r9 Ex X.K t)
def PE.imp(h:PE X e t)(f:∀a H Q,t' a H Q->t a H Q):PE X e t':=λb s a H Q I q=>h b s a H Q I<|f a H Q q
def PT.imp(h:PT X e t)(f:∀a H Q,t' a H Q->t a H Q):PT X e t':=λb s a H Q I q=>h b s a H Q I<|f a H Q q
def PA.imp(h:PA X e t)(f:∀a H Q,t' a H Q->t a H Q):PA X e t':=λc b s a H Q I q=>h c b s a H Q I<|f a H Q q
def PW.imp(h:PW X e t)(f:∀a H Q,t' a H Q->t a H Q):PW X e t':=λw b s a H Q I q=>h w b s a H Q I<|f a H Q q
def ql(i:Nat):DE:=λσ O=>match σ[i]? with
 |some (Qg d)=>.ok d O
 |_=>.bad
def dC(d:D):DE:=λ_ O=>.ok d O
section
variable{X:Cx}{Ex:Nat->Hp->Prop}{pos:Pos}{a b c:aZ}{ta tb tc:DE}
def qd{e}{t}{t'}(h:PE X e t)(f:∀Qb μ d O g H Q,ny X.K H Qb μ d g->nu X.K H Qb μ O->pf Ex X.K H Qb μ (t' d O) Q->t g H Q):PD X Ex e t':=
 ⟨PE.imp h λg H Q ⟨Qb,μ,d,O,i,j,q⟩=>f Qb μ d O g H Q i j q⟩
def Ah{e}{t}{t'}(h:PT X e t)(f:∀Qb μ d O g H Q,ny X.K H Qb μ d g->nu X.K H Qb μ O->u6 Ex X.K H Qb μ (t' d O) Q->t g H Q):pO X Ex e t':=
 ⟨PT.imp h λg H Q ⟨Qb,μ,d,O,i,j,q⟩=>f Qb μ d O g H Q i j q⟩
def Lp(h:PA X e t)(f:∀Qb μ d O g H Q,ny X.K H Qb μ d g->nu X.K H Qb μ O->Gg Ex X.K H Qb μ (t' d O) Q->t g H Q):qW X Ex e t':=
 ⟨PA.imp h λg H Q ⟨Qb,μ,d,O,i,j,q⟩=>f Qb μ d O g H Q i j q⟩
def rd.go{h i:Type}{j:Hp->List af->h->i->Prop}{t}{Qb μ}{σ}{O}{a_}{H}{Q1}{k:D->Ow->R h}{Q:i->Hp->Prop}(l:ny X.K H Qb μ σ a_)(m:nu X.K H Qb μ O)
  (q:post Ex X.K j H Qb μ ((t σ O).bnd k) Q)
  (f:∀d O1 v e g,ny X.K e Qb g σ a_->Ext H μ e g->nu X.K e Qb g O1->Qe X.K e Qb g d v->post Ex X.K j e Qb g (k d O1) Q->Q1 v e):rd Ex X.K t a_ H Q1:=
 ⟨Qb,μ,σ,O,l,m,post.bnd q λd O1 v e g x c r p=>f d O1 v e g (l.ext x) x c r p⟩
def uP.go{h i:Type}{j:Hp->List af->h->i->Prop}{t}{Qb μ}{σ}{O}{a_}{H}{Q1}{k:Bool->Ow->R h}{Q:i->Hp->Prop}(l:ny X.K H Qb μ σ a_)(m:nu X.K H Qb μ O)
  (q:post Ex X.K j H Qb μ ((t σ O).bnd k) Q)
  (f:∀v O1 e g,ny X.K e Qb g σ a_->Ext H μ e g->nu X.K e Qb g O1->post Ex X.K j e Qb g (k v O1) Q->Q1 v e):uP Ex X.K t a_ H Q1:=
 ⟨Qb,μ,σ,O,l,m,post.bnd q λd O1 v e g x c r p=>by
  subst r;exact f d O1 e g (l.ext x) x c p⟩
def r9.go{h i:Type}{j:Hp->List af->h->i->Prop}{t}{Qb μ}{σ}{O}{a_}{H}{Q1:List V->Hp->Prop}{k:List D->Ow->R h}{Q:i->Hp->Prop}(l:ny X.K H Qb μ σ a_)(m:nu X.K H Qb μ O)
  (q:post Ex X.K j H Qb μ ((t σ O).bnd k) Q)
  (f:∀d O1 v e g,ny X.K e Qb g σ a_->Ext H μ e g->nu X.K e Qb g O1->nv X.K e Qb g d v->post Ex X.K j e Qb g (k d O1) Q->Q1 v e):r9 Ex X.K t a_ H Q1:=
 ⟨Qb,μ,σ,O,l,m,post.bnd q λd O1 v e g x c r p=>f d O1 v e g (l.ext x) x c r p⟩
set_option tactic.hygienic true in
def LQ(f:X.N[i]?=Qg x)(g:qu X.env.scope x)(e:pL x:=by decide)(h:(x==("__classdict__":ao))=Qp:=by decide):PD X Ex (.Name x pos) (ql i):=
 qd (Ad f g e h) λj o p O r H Q k l q=>by
  unfold ql at q;split at q
  .rename_i d e;obtain⟨v,m,n⟩:=k.at_ i d e;exact⟨v,m,post.here q l n⟩
  .exact ah q
def Lw:PD X Ex (.Constant (.int i) j pos) (dC<|.int i):=qd Gx λd f g O h H Q k e q=>post.here q e (by unfold Qe;rfl)
def Kx:PD X Ex (.Constant (.bool i) j pos) (dC<|.bl i):=qd R1 λd f g O h H Q k e q=>post.here q e (by unfold Qe;rfl)
def Lf:PD X Ex (.Constant .none j pos) (dC .non):=qd LV λd f g O h H Q i e q=>post.here q e (by unfold Qe;rfl)
def LB(cs)(h:x=⟨cs.toArray⟩):PD X Ex (.Constant (.str x) j pos) (dC<|.str cs):=qd SN λd f g O i H Q k e q=>post.here q e (by unfold Qe;rw[h])
def VS(cs)(d:Gl X x)(e:X.mg x=Qg (.str y t))(h:y=⟨cs.toArray⟩)(f:pL x:=by decide):PD X Ex (.Name x pos) (dC<|.str cs):=
 qd (Am (v:=.str y) d e ⟨t,rfl⟩ f) λg j k O l H Q m i q=>post.here q i (by unfold Qe;rw[h])
def oK(f:Ow->D->D->R D)(ta tb:DE):DE:=λσ O=>(ta σ O).bnd λx O1=>(tb σ O1).bnd λy O2=>f O2 x y
def sj(X:Cx)(Ex:Nat->Hp->Prop)(r:R2)(f:Ow->D->D->R D):Prop:=∀(H)(Qb μ)(O)(x y)(v w)(Q),nu X.K H Qb μ O->Qe X.K H Qb μ x v->Qe X.K H Qb μ y w->pf Ex X.K H Qb μ (f O x y) Q->r v w H Q
def Es{r:R2}{f:Ow->D->D->R D}(h:sj X Ex r f)(Qb μ)(σ)(O)(a_)(H)(Q:VK)(d:ny X.K H Qb μ σ a_)(e:nu X.K H Qb μ O)(q:pf Ex X.K H Qb μ (oK f ta tb σ O) Q):
  B7 r (rd Ex X.K ta) (rd Ex X.K tb) a_ H Q:=
 rd.go d e q λx u v A B g C i j k=>rd.go g i k λy l w m n E o p s t=>h m Qb n l x y v w Q p (j.ext o) s t
def z_(d:pY X (eU op) r)(h:sj X Ex r f)(e:PD X Ex a ta)(g:PD X Ex b tb):PD X Ex (.BinOp a op b pos) (oK f ta tb):=
 qd (RQ d e.out g.out) (Es h)
def yz(d:pY X (cK op) r)(h:sj X Ex r f)(e:PD X Ex a ta)(g:PD X Ex b tb)(i:behindInMarks op b=Qp):PD X Ex (.Compare a [op] [b] pos) (oK f ta tb):=
 qd (UH d e.out g.out i) (Es h)
def p_(t:DE):DT:=λσ O=>(t σ O).bnd λx O1=>match x with
 |.bl k=>.ok k O1
 |_=>.bad
def Nl(f:∀Qb μ e O g H Q,ny X.K H Qb μ e g->nu X.K H Qb μ O->pf Ex X.K H Qb μ (td e O) Q->t g H Q)(Qb μ)(e)(O)(g)(H)(Q:Bool->Hp->Prop)
  (h:ny X.K H Qb μ e g) (i:nu X.K H Qb μ O) (q:u6 Ex X.K H Qb μ (p_ td e O) Q):KZ t g H Q:=by
 refine f Qb μ e O g H _ h i (post.bnd q λd j v l m x c r p=>?_);cases d with
 | bl k=>
  exact⟨k,r,post.here p c rfl⟩
 |_=>exact ah p
def Ak(d:pY X (cK op) r)(h:sj X Ex r f)(e:PD X Ex a ta)(g:PD X Ex b tb)(i:behindInMarks op b=Qp):pO X Ex (.Compare a [op] [b] pos) (p_<|oK f ta tb):=
 Ah (U7 d e.out g.out i) (Nl<|Es h)
noncomputable def Q4(O:Ow):D->R Bool
 |.non=>.ok Qp O
 |.bl b=>.ok b O
 |.int i=>.ok (i !=0) O
 |.str cs=>if cs.length<=4000000 then .ok (!cs.isEmpty) O else .bad
 |.lst ds=>.ok (!ds.isEmpty) O
 |.tup ds=>.ok (!ds.isEmpty) O
 | .own k=>match O[k]? with
  |some ds=>.ok (!ds.isEmpty) O
  |none=>.bad
 |.dct=>.bad
 |.exn _=>.bad
 |.tab _=>.bad
 |.map _ _=>.bad
 |.adr _=>.bad
 |.obj _ _=>.bad
def rX(t:DE):DT:=λσ O=>(t σ O).bnd λx O1=>Q4 O1 x
def uM{n}(h:n<=4000000):n<=aK:=aP h 'b'
def Ie{K}{H}{Qb μ}{ds}{vs}(h:nv K H Qb μ ds vs):(!ds.isEmpty) = !vs.isEmpty:=by have e:=h.length;cases ds<;>cases vs<;>simp_all
def Ms(u:PD X Ex a ta)(w:∀f,isTrue a X.env f=(do let v <- f;standAt a.pos;holding [v] (truthy v))):pO X Ex a (rX ta):=
 Ah (Wu u.out w) λg I J O L H Q y A q=>rd.go y A q λd i v j m M x c r p=>by
  cases d with
  |non=>unfold Qe at r;subst r;exact⟨_,rfl,post.here p c rfl⟩
  |bl b=>unfold Qe at r;subst r;exact⟨_,rfl,post.here p c rfl⟩
  |int b=>unfold Qe at r;subst r;exact⟨_,rfl,post.here p c rfl⟩
  | str cs=>
   unfold Qe at r;subst r;by_cases s:cs.length<=4000000
   .have t:u6 Ex X.K j g m (.ok (!cs.isEmpty) i) Q:=by
     have h:u6 Ex X.K j g m (if cs.length<=4000000 then .ok (!cs.isEmpty) i else .bad) Q:=p;rw[Qs s] at h;exact h
    refine⟨_,⟨?_,rfl⟩,?_⟩
    .show cs.toArray.size<=_;rw[aM];exact uM s
    .have e:(((⟨cs.toArray⟩:ao).length:Int) !=0) = !cs.isEmpty:=by
      show((cs.toArray.size:Int) !=0)=_;cases cs<;>simp[bne];lia
     rw[e];exact post.here t c rfl
   .have h:u6 Ex X.K j g m (if cs.length<=4000000 then .ok (!cs.isEmpty) i else .bad) Q:=p;rw[Qu s] at h;exact ah h
  | lst n=>
   obtain⟨a,o,rfl,l,q⟩:=r;exact⟨_,.inl ⟨o,l.sq,rfl⟩,by rw[<- Ie q];exact post.here p c rfl⟩
  | tup n=>
   obtain⟨a,o,rfl,l,q⟩:=r;exact⟨_,.inr<|.inl ⟨o,l.sq,rfl⟩,by rw[<- Ie q];exact post.here p c rfl⟩
  | own k=>
   obtain⟨a,rfl,B⟩:=r;obtain⟨n,o,C,E,G⟩:=c.at_ k a B;have t:u6 Ex X.K j g m (.ok (!n.isEmpty) i) Q:=by
    have h:u6 Ex X.K j g m (match i[k]? with|some n=>.ok (!n.isEmpty) i|none=>.bad) Q:=p;rw[C] at h;exact h
   exact⟨_,.inl ⟨o,.of E,rfl⟩,by rw[<- Ie G];exact post.here t c rfl⟩
  |dct=>exact ah p
  |exn _=>exact ah p
  |tab _=>exact ah p
  |map _ _=>exact ah p
  |adr _=>exact ah p
  |obj _ _=>exact ah p
noncomputable def fI(g:Int->Int->Option D):Ow->D->D->R D:=λO x y=>match x,y with
 | .int i,.int j=>match g i j with
  |some d=>.ok d O
  |none=>.bad
 |_,_=>.bad
set_option tactic.hygienic true in
def Mn(h:∀i j d,g i j=Qg d->C i j/\∀K H Qb μ,Qe K H Qb μ d<|gv i j):sj X Ex (rI C gv) (fI g):=by
 intro H Qb μ O x y v w Q c e f q;unfold fI at q;split at q
 .rename_i i j;subst e;subst f;split at q
  .rename_i d k;obtain⟨l,m⟩:=h i j d k;exact⟨i,j,rfl,rfl,l,post.here q c<|m _ _ _ _⟩
  .exact ah q
 .exact ah q
set_option tactic.hygienic true in
def MU(h:∀i j d,g i j=Qg d->∀K H Qb μ,Qe K H Qb μ d<|gv i j):sj X Ex (yD gv) (fI g):=by
 intro H Qb μ O x y v w Q c e f q;unfold fI at q;split at q
 .rename_i i j;subst e;subst f;split at q
  .rename_i d k;exact⟨i,j,rfl,rfl,post.here q c<|h i j d k _ _ _ _⟩
  .exact ah q
 .exact ah q
def rK:Qe K H Qb μ (.int i) (.int i):=by unfold Qe;rfl
def s_{K H Qb μ}{i}:Qe K H Qb μ (.bl i) (.bl i):=by unfold Qe;rfl
def xg:Qe K H Qb μ .non .non:=by unfold Qe;rfl
def EA:Qe K H Qb μ (.str cs) (.str ⟨cs.toArray⟩):=by unfold Qe;rfl
def gB(p:Int->Int->Bool):Int->Int->Option D:=λi j=>Qg (.bl<|p i j)
def gI(p:Int->Int->Int):Int->Int->Option D:=λi j=>Qg (.int<|p i j)
def A3:Int->Int->Option D:=gI λi j=>i-j
noncomputable def DY:Int->Int->Option D:=λi j=>if (-1000000000000000<i/\i<1000000000000000)\/(-1000000000000000<j/\j<1000000000000000) then Qg (.int<|i*j) else Qn
def yi:Int->Int->Option D:=λi j=>if 0<j then Qg (.int<|i%j) else Qn
def TK:sj X Ex (yD λi j=>.int<|i-j) (fI A3):=MU λi j d h _ _ _ _=>by cases h;exact rK
set_option tactic.hygienic true in
def Vk:sj X Ex (rI oz λi j=>.int<|i*j) (fI DY):=Mn λi j d h=>by
 unfold DY at h;split at h
 .rename_i e;cases h;exact⟨e.imp (λz=>⟨by lia,by lia⟩) λz=>⟨by lia,by lia⟩,λ_ _ _ _=>rK⟩
 .cases h
set_option tactic.hygienic true in
def MP:sj X Ex (rI (λ_ j=>0<j) λi j=>.int<|i%j) (fI yi):=Mn λi j d h=>by
 unfold yi at h;split at h
 .rename_i e;cases h;exact⟨e,λ_ _ _ _=>rK⟩
 .cases h
def Dg:Ow->D->D->R D:=fI (gB λi j=>decide<|i<=j)
def Lg:sj X Ex (yD λi j=>.bl (decide<|i<=j)) Dg:=MU λi j d h _ _ _ _=>by cases h;exact s_
def KH:D->Bool
 |.non=>Qo
 |_=>Qp
def Ga:Ow->D->D->R D:=λO x y=>match y with
 |.non=>.ok (.bl<|KH x) O
 |_=>.bad
def T4(h:Qe K H Qb μ x v):decide (v=.non)=KH x:=by
 cases x with
 |non=>unfold Qe at h;subst h;rfl
 |bl _=>unfold Qe at h;subst h;rfl
 |int _=>unfold Qe at h;subst h;rfl
 |str _=>unfold Qe at h;subst h;rfl
 |lst _=>unfold Qe at h;obtain⟨_,_,rfl,_⟩:=h;rfl
 |tup _=>unfold Qe at h;obtain⟨_,_,rfl,_⟩:=h;rfl
 |own _=>unfold Qe at h;obtain⟨_,rfl,_⟩:=h;rfl
 |dct=>unfold Qe at h;obtain⟨_,rfl,_⟩:=h;rfl
 |exn _=>unfold Qe at h;obtain⟨_,_,rfl,_⟩:=h;rfl
 |tab _=>unfold Qe at h;obtain⟨rfl,_⟩:=h;rfl
 |map _ _=>unfold Qe at h;obtain⟨_,_,rfl,_⟩:=h;rfl
 |adr _=>unfold Qe at h;subst h;rfl
 |obj _ _=>unfold Qe at h;obtain⟨_,_,_,rfl,_⟩:=h;rfl
def TR:sj X Ex (λx y H Q=>y=.non/\Q (.bl (decide<|x=.non)) H) Ga:=by
 intro H e g O x y v w Q c f d q;cases y with
 | non=>
  unfold Qe at d;subst d;refine⟨rfl,?_⟩;rw[T4 f];exact post.here (q) c s_
 |_=>exact ah q
def zU(t u:DE):DE:=λσ O=>(t σ O).bnd λx O1=>match x with
 |.bl Qo=>u σ O1
 |.bl Qp=>.ok (.bl Qp) O1
 |_=>.bad
def FK(t u:DE):DE:=λσ O=>(t σ O).bnd λx O1=>match x with
 |.bl Qo=>.ok (.bl Qo) O1
 |.bl Qp=>u σ O1
 |_=>.bad
def A1(t:DE):DE:=λσ O=>(t σ O).bnd λx O1=>match x with
 |.bl b=>.ok (.bl<|!b) O1
 |_=>.bad
def A9(t u:DT):DT:=λσ O=>(t σ O).bnd λx O1=>if x=Qo then u σ O1 else .ok Qp O1
def zT(t u:DT):DT:=λσ O=>(t σ O).bnd λx O1=>if x=Qo then .ok Qo O1 else u σ O1
def vm(t:DT):DT:=λσ O=>(t σ O).bnd λx O1=>.ok (!x) O1
def zL(t:DT)(u v:DE):DE:=λσ O=>(t σ O).bnd λx O1=>if x=Qo then u σ O1 else v σ O1
def K6(d:PD X Ex a ta):PD X Ex (.BoolOp op [a] pos) ta:=⟨Tj d.out⟩
def K9{e:List aZ}(g:PD X Ex a ta)(h:PD X Ex (.BoolOp .And (b::e) pos) tb):PD X Ex (.BoolOp .And (a::b::e) pos) (zU ta tb):=
 qd (Tw g.out h.out) λf s i O t H Q j l q=>rd.go j l q λd m v u n o x c r p=>by
  cases d with
  | bl k=>
   unfold Qe at r;subst r;refine⟨k,rfl,?_⟩;cases k with
   |true=>rw[Qs rfl];exact⟨f,n,i,m,o,c,p⟩
   |false=>rw[Qu bo];exact post.here p c s_
  |_=>exact ah p
def K1{e:List aZ}(g:PD X Ex a ta)(h:PD X Ex (.BoolOp .Or (b::e) pos) tb):PD X Ex (.BoolOp .Or (a::b::e) pos) (FK ta tb):=
 qd (RP g.out h.out) λf s i O t H Q j l q=>rd.go j l q λd m v u n o x c r p=>by
  cases d with
  | bl k=>
   unfold Qe at r;subst r;refine⟨k,rfl,?_⟩;cases k with
   |true=>rw[Qs rfl];exact post.here p c s_
   |false=>rw[Qu bo];exact⟨f,n,i,m,o,c,p⟩
  |_=>exact ah p
def Ll(e:PD X Ex a ta):PD X Ex (.UnaryOp .Not a pos) (A1 ta):=
 qd (SQ e.out) λf i j O l H Q g h q=>rd.go g h q λd m v n o s x c r p=>by
  cases d with
  |bl k=>unfold Qe at r;subst r;exact⟨k,rfl,post.here p c s_⟩
  |_=>exact ah p
structure sT(X:Cx)(Ex:Nat->Hp->Prop)(e:aZ)(t:DT):Prop where
 out:PW X e (uP Ex X.K t)
def sT.pt(h:sT X Ex e t):pO X Ex e t:=⟨L2.PW.pt h.out⟩
def Lb{e}{t}{t'}(h:PW X e t)(f:∀Qb μ d O g H Q,ny X.K H Qb μ d g->nu X.K H Qb μ O->u6 Ex X.K H Qb μ (t' d O) Q->t g H Q):sT X Ex e t':=
 ⟨PW.imp h λg H Q ⟨Qb,μ,d,O,i,j,q⟩=>f Qb μ d O g H Q i j q⟩
def MC{rest}{e f:DT}(g:pO X Ex a e)(h:sT X Ex (.BoolOp .And (b::rest) pos) f):sT X Ex (.BoolOp .And (a::b::rest) pos) (A9 e f):=
 Lb (R_ g.out h.out) λd r i O s H Q j l q=>uP.go j l q λk m t n o x c p=>by
  cases k with
  |true=>rw[Qs rfl];exact⟨d,n,i,m,o,c,p⟩
  |false=>rw[Qu bo];exact post.here p c rfl
def Ld{rest}{e f:DT}(g:pO X Ex a e)(h:sT X Ex (.BoolOp .Or (b::rest) pos) f):sT X Ex (.BoolOp .Or (a::b::rest) pos) (zT e f):=
 Lb (R4 g.out h.out) λd r i O s H Q j l q=>uP.go j l q λk m t n o x c p=>by
  cases k with
  |true=>rw[Qs rfl];exact post.here p c rfl
  |false=>rw[Qu bo];exact⟨d,n,i,m,o,c,p⟩
def Nh(d:pO X Ex a tA):sT X Ex (.BoolOp .And [a] pos) tA:=⟨T2 d.out⟩
def LX(d:pO X Ex a tA):sT X Ex (.BoolOp .Or [a] pos) tA:=⟨S9 d.out⟩
def Ma{d:DT}(e:pO X Ex a d):pO X Ex (.UnaryOp .Not a pos) (vm d):=
 Ah (Tf e.out) λf i j O l H Q g h q=>uP.go g h q λk m n o r x c p=>post.here p c rfl
def ND{e:DT}(j:pO X Ex c e)(l:PD X Ex a ta)(m:PD X Ex b tb):PD X Ex (.IfExp c a b pos) (zL e ta tb):=
 qd (VN j.out l.out m.out) λd r f O s H Q n o q=>uP.go n o q λk g t h i x c p=>by
  cases k with
  |true=>rw[Qs rfl];exact⟨d,h,f,g,i,c,p⟩
  |false=>rw[Qu bo];exact⟨d,h,f,g,i,c,p⟩
noncomputable def GB(f g:Ow->D->D->R D)(ta tb tc:DE):DE:=λσ O=>(ta σ O).bnd λx O1=>(tb σ O1).bnd λy O2=>(f O2 x y).bnd λz O3=>match z with
 |.bl Qo=>(tc σ O3).bnd λw O4=>g O4 y w
 |.bl Qp=>.ok (.bl Qp) O3
 |_=>.bad
def VB{op AD}{r e:R2}{f g:Ow->D->D->R D}(n:pY X (cK op) r)(h:sj X Ex r f)(o:pY X (cK AD) e)(h':sj X Ex e g)(s:PD X Ex a ta)(t:PD X Ex b tb)(A:PD X Ex c tc)
  (B:lastMarks [op,AD] [b,c]=Qp:=by with_unfolding_all rfl):PD X Ex (.Compare a [op,AD] [b,c] pos) (GB f g ta tb tc):=
 qd (VU n o s.out t.out A.out B) λd μ σ O a_ H Q C E q=>rd.go C E q λx O1 v H1 c_ G x2 I J L=>rd.go G I L λy M w N P S T U i Y=>
  h N d P M x y v w _ U (J.ext T) i (post.bnd Y λz O3 u H3 yh j l m p=>by
   cases z with
   | bl k=>
    unfold Qe at m;subst m;refine⟨k,rfl,?_⟩;cases k with
    |true=>rw[Qs rfl];exact rd.go (S.ext j) l p λZ O4 v4 H4 QY e5 x5 c5 d5 q5=>h' H4 d QY O4 y Z w v4 Q c5 ((i.ext j).ext x5) d5 q5
    |false=>rw[Qu bo];exact post.here p l s_
   |_=>exact ah p)
def i_:DA:=λ_ O=>.ok [] O
def e_(t:DE)(u:DA):DA:=λσ O=>(t σ O).bnd λx O1=>(u σ O1).bnd λxs O2=>.ok (x::xs) O2
def MI:qW X Ex [] i_:=Lp yr λd f g O h H Q i e q=>post.here q e .nil
def M9{d:List aZ}{t:DA}(e:PD X Ex a ta)(f:qW X Ex d t)(g:au (a::d) X.env=(Qp,eval a X.env)::au d X.env:=by rfl):qW X Ex (a::d) (e_ ta t):=
 Lp (u_ e.out f.out g) λh u A O B H Q i j q=>rd.go i j q λx C v E G k I l m n=>r9.go k l n λy J w L M N o p r s=>post.here s p<|.cons (m.ext o) r
def v9(t:DA):DE:=λσ O=>(t σ O).bnd λxs O1=>if xs.length<=4000000 then .ok (.tup xs) O1 else .bad
def qR(t:DA):DE:=λσ O=>(t σ O).bnd λxs O1=>if xs.length<=4000000 then .ok (.lst xs) O1 else .bad
def Gh(t:DA):DE:=λσ O=>(t σ O).bnd λxs O1=>if xs.length<=4000000 then .ok (.own O1.length) (O1++[xs]) else .bad
def post.iteN{α β:Type}{K}{H}{Qb μ}{d:Hp->List af->α->β->Prop}{Q:β->Hp->Prop}{b}{r:R α}(h:post Ex K d H Qb μ (if b=Qo then .bad else r) Q):b=Qp/\post Ex K d H Qb μ r Q:=by
 cases b with
 |true=>exact ah h
 |false=>exact⟨rfl,h⟩
def post.ite{α β:Type}{K}{H}{Qb μ}{d:Hp->List af->α->β->Prop}{Q:β->Hp->Prop}{c:Prop}[Decidable c]{r:R α}(h:post Ex K d H Qb μ (if c then r else .bad) Q):c/\post Ex K d H Qb μ r Q:=by
 by_cases e:c
 .rw[Qs e] at h;exact⟨e,h⟩
 .rw[Qu e] at h;exact ah h
def LK(h:qW X Ex es t):PD X Ex (.Tuple es x1 pos) (v9 t):=
 qd (Ln h.out) λi m n O o H Q j k q=>r9.go j k q λr s u v w x y f g d=>by
  obtain⟨l,d⟩:=post.ite d;exact⟨by rw[<- g.length];exact uM l,λp e=>post.ok d (.laid e) (f.laid e)<|Qe.newT f e g⟩
def Lr(h:qW X Ex es t):PD X Ex (.List es pos) (qR t):=
 qd (GA h.out) λi m n O o H Q j k q=>r9.go j k q λr s u v w x y f g d=>by
  obtain⟨l,d⟩:=post.ite d;exact⟨by rw[<- g.length];exact uM l,λp e=>post.ok d (.laid e) (f.laid e)<|Qe.newL f e g⟩
def EW(h:μ.length=n):Qe K H Qb (μ++[p]) (.own n) (.ref p):=by exact⟨p,rfl,by rw[<- h];simp⟩
def Us(h:qW X Ex es t):PD X Ex (.List es pos) (Gh t):=
 qd (GA h.out) λi m n O o H Q j k q=>r9.go j k q λr s u v w x y e f d=>by
  obtain⟨l,d⟩:=post.ite d;exact⟨by rw[<- f.length];exact uM l,λp g=>post.ok d (.cell g) (e.cell g f)<|EW e.len⟩
end
inductive Src where
 |val (ds:List D)
 |own (k:Nat)
 |zip (a b:Src)
 deriving Inhabited
noncomputable def Src.get:Src->Ow->Nat->Option D
 |.val ds,_,i=>ds[i]?
 | .own k,O,i=>match O[k]? with
  |some ds=>ds[i]?
  |none=>Qn
 | .zip a b,O,i=>match a.get O i,b.get O i with
  |some x,Qg y=>Qg<|.tup [x,y]
  |_,_=>Qn
noncomputable def Src.size:Src->Ow->Nat
 |.val ds,_=>ds.length
 | .own k,O=>match O[k]? with
  |some ds=>ds.length
  |none=>0
 |.zip a b,O=>min (a.size O)<|b.size O
abbrev DI:=Sg->Ow->R Src
def nH(K:ag)(J:It)(src:Src)(H:Hp)(Qb μ:List af):Prop:=∀hid' H' b_ O',Mv H Qb μ H' hid' b_->nu K H' hid' b_ O'->∀i,
 match src.get O' i with
 |some d=>J.go i H'/\∀x rO,J.yld i H' x rO->Ext H' b_ rO b_/\nu K rO hid' b_ O'/\Qe K rO hid' b_ d x
 |none=>J.stop i H'
noncomputable def rdI(Ex:Nat->Hp->Prop)(K:ag)(t:DI):TI:=λa_ H Rr=>∃Qb μ σ O,ny K H Qb μ σ a_/\nu K H Qb μ O/\post Ex K (λH' b_ s J=>nH K J s H' Qb b_) H Qb μ (t σ O) Rr
structure rn(X:Cx)(Ex:Nat->Hp->Prop)(tg iter:aZ)(t:DI):Prop where
 out:PI X tg iter (rdI Ex X.K t)
def nH.mv(h:nH K J src H Qb μ)(e:Mv H Qb μ H1 vL c_):nH K J src H1 vL c_:=
 λa b d f m c=>h a b d f (e.trans m) c
def nH.val(l:LstAt K H Qb μ a vs)(q:nv K H Qb μ ds vs):nH K (JZ K a) (.val ds) H Qb μ:=by
 intro f k n o m c i;have b:=(l.mv m).sq;have h:=q.mv m;show match ds[i]? with|some d=>_|none=>_
 cases e:ds[i]? with
 | some d=>
  obtain⟨v,g,j⟩:=h.get e;refine⟨⟨vs,v,b,g⟩,λx p y=>?_⟩;obtain⟨rfl,y⟩:=y;have:=y vs b;rw[g] at this;cases this;exact⟨.refl,c,j⟩
 | none=>
  refine⟨vs,b,?_⟩;have:=ba.mp e;rw[<- q.length];exact this
def nH.tup(l:TupAt K H Qb μ a vs)(q:nv K H Qb μ ds vs):nH K (JY K a) (.val ds) H Qb μ:=by
 intro f k n o m c i;have b:=(l.mv m).sq;have h:=q.mv m;show match ds[i]? with|some d=>_|none=>_
 cases e:ds[i]? with
 | some d=>
  obtain⟨v,g,j⟩:=h.get e;refine⟨⟨vs,v,b,g⟩,λx p y=>?_⟩;obtain⟨rfl,y⟩:=y;have:=y vs b;rw[g] at this;cases this;exact⟨.refl,c,j⟩
 | none=>
  refine⟨vs,b,?_⟩;have:=ba.mp e;rw[<- q.length];exact this
def nH.own(h:μ[k]?=Qg a):nH K (JZ K a) (.own k) H Qb μ:=by
 intro j o w p m c i;obtain⟨q,rfl⟩:=m.pre;have r:(μ++q)[k]?=Qg a:=by rw[aD (al.mp h).1];exact h
 obtain⟨b,f,s,t,l⟩:=c.at_ k a r;have g:pI K o a f:=.of t;show match (match p[k]? with|some b=>b[i]?|none=>Qn) with|some d=>_|none=>_
 rw[s];show match b[i]? with|some d=>_|none=>_
 cases e:b[i]? with
 | some d=>
  obtain⟨v,n,u⟩:=l.get e;refine⟨⟨f,v,g,n⟩,λx A y=>?_⟩;obtain⟨rfl,y⟩:=y;have:=y f g;rw[n] at this;cases this;exact⟨.refl,c,u⟩
 | none=>
  refine⟨f,g,?_⟩;have:=ba.mp e;rw[<- l.length];exact this
def FP(x:ao):It:=⟨λi _=>i<x.cps.size,λi H v H'=>H'=H/\∃c,x.cps[i]?=Qg c/\v=.str ⟨#[c]⟩,λi _=>x.cps.size<=i⟩
def nH.str{K:ag}{H:Hp}{Qb μ:List af}{a:qB}:nH K (FP ⟨a.toArray⟩) (.val (a.map λc=>.str [c])) H Qb μ:=by
 intro b j k l m c i;show match (a.map λc=>D.str [c])[i]? with|some d=>_|none=>_
 rw[bE];cases e:a[i]? with
 | some d=>
  have g:=(al.mp e).1;refine⟨by show i<a.toArray.size;simpa using g,λx n y=>?_⟩;obtain⟨rfl,z,h,rfl⟩:=y;have f:=h;rw[kA,e] at f;cases f;refine⟨.refl,c,?_⟩;rfl
 | none=>
  have:=ba.mp e;show a.toArray.size<=i;simpa using this
def nH.rng:nH K (FQ lo n) (.val ((de n).map λi=>.int<|lo+(i:Nat))) H Qb μ:=by
 intro b e f g m c i;show match ((de n).map λi=>D.int<|lo+(i:Nat))[i]? with|some d=>_|none=>_
 rw[bE];by_cases a:i<n
 .rw[List.getElem?_range a];refine⟨a,λx h y=>?_⟩;obtain⟨rfl,rfl⟩:=y;exact⟨.refl,c,rK⟩
 .rw[ba.mpr ⇑a];exact kQ.mp a
set_option tactic.hygienic true in
def Wx(x)(t)(it):vi P w K tg (FP x) [it] it (λi h=>h.IsStrIter it (strIterType x) x t i) where
 mem:=by simp
 obj:=λi h a b j=>by
  have e:b=it:=⇑j
  subst e;obtain⟨o,e,c,d⟩:=a;exact⟨o,e,λv z=>by rw[d] at z;cases z⟩
 keep:=λi h f a k=>by
  obtain⟨o,e,c,d⟩:=a;exact⟨o,k it 'k' o e,c,d⟩
 item:=by
  intro X U Y Z L i g s M H E I p a N;subst U Y Z;obtain⟨q,r,f2,B,C,G⟩:=p it 'k';obtain⟨ch,l⟩:∃c,x.cps[i]?=Qg c:=⟨_,aS<|N⟩;have O:∀(J:String),(["enumerate", "zip", "dict_itemiterator", "dict_reverseitemiterator", "odict_iterator", "itertools.zip_longest", "itertools.pairwise"].contains J=Qp)->strIterType x=J->∀f,f.IsStrIter it J x t (i+1)->cn it s.heap f->
    ∃u,Qg (lr ⟨#[ch]⟩ s.toks)=Qg u/\am (aq X.prog X.w) X.A (letOwnedTupleGo tg (.ref it) u) (λ_ s2=>∃y Q,Inv X g M Q s2/\RelV y u/\(FP x).yld i H y Q/\s2.heap.IsStrIter it (strIterType x) x t (i+1)/\∀b∈[it],Q b=Qn) E { s with heap:=f,toks:=s.toks+1 }:=by
   intro J hn et f m n;have I1:Inv X g M H { s with heap:=f,toks:=s.toks+1 }:=I.turned (λb o j e=>(n.2 b j).trans e) q r B C G;obtain⟨o,e,c,d⟩:=id m;refine⟨_,rfl,Bg e c d hn ⟨.str ⟨#[ch]⟩,H,I1,⟨_,rfl⟩,⟨rfl,_,l,rfl⟩,?_,λb j=>(p b j).1⟩⟩;rw[et];exact m
  unfold strIterType at a O ⊢;split at a
  .rename_i S;exact wpAny_pyNext_ascii_item a l λf m n=>O "str_ascii_iterator" 'b' (by rw[Qs S]) f m n
  .rename_i S;exact wpAny_pyNext_wide_item a l λf m n=>O "str_iterator" 'b' (by rw[Qu S]) f m n
 done:=by
  intro X U Y Z L i g s M H E I p a N;obtain⟨q,r,f2,B,C,G⟩:=p it 'k';have l:x.cps[i]?=Qn:=by
   have:x.cps.size<=i:=N;simp[this]
  unfold strIterType at a;split at a
  .exact wpAny_pyNext_ascii_end (I.ok.hd L) a l λf T=>⟨rfl,I.turned (λb o j e=>T b o j e) q r B C G⟩
  .exact wpAny_pyNext_wide_end (I.ok.hd L) a l λf T=>⟨rfl,I.turned (λb o j e=>T b o j e) q r B C G⟩
 self:=λ_ _ s _ _ a h=>by
  unfold strIterType at a;split at a
  .exact wpAny_pyIter_striter_ascii a h
  .exact wpAny_pyIter_striter_wide a h
section
variable{X:Cx}{Ex:Nat->Hp->Prop}{pos:Pos}{a b c:aZ}
noncomputable def Kw(O:Ow):D->R Src
 |.lst ds=>.ok (.val ds) O
 |.tup ds=>.ok (.val ds) O
 |.str cs=>.ok (.val (cs.map λc=>.str [c])) O
 |.own k=>.ok (.own k) O
 |_=>.bad
def qA(t:DE):DI:=λσ O=>(t σ O).bnd λx O1=>Kw O1 x
def Mr(N:PD X Ex a ta):rn X Ex tg a (qA ta):=by
 refine⟨?_⟩;rintro m s P H Q I ⟨f,μ,σ,O,S,T,q⟩;refine oO (N.out m s P H _ I (rd.go S T q (Q1:=λv g=>∃f n w d,nu X.K g f n w/\Qe X.K g f n d v/\post Ex X.K (λU Y s J=>nH X.K J s U f Y) g f n (Kw w d) Q)
  λd w v g n e2 x c r p=>⟨f,n,w,d,c,r,p⟩)) λu h ⟨v,g,i,A,f,n,w,d,c,r,p⟩=>?_
 have j:∀(b:af),b∈[h.heap.objs.size]->qV X m g b:=λb Z=>by
  have e:b=h.heap.objs.size:=⇑Z
  subst e;exact i.fpOk (ay _) (i.hok.fresh<|ay _)
 cases d with
 | lst B=>
  obtain⟨a,C,rfl,l,q⟩:=r;cases A;obtain⟨E,G,y,L⟩:=i.list l.sq;refine ft y.isList ?_;exact⟨h.heap.objs.size,[h.heap.objs.size],_,_,g,rfl,i.kept λb o e=>ai _ e,N0 a _,⟨_,aA _ rfl,rfl,rfl⟩,j,post.here p c<|.val l q⟩
 | tup B=>
  obtain⟨a,C,rfl,l,q⟩:=r;cases A;obtain⟨E,G,y,L⟩:=i.tuple l.sq;refine gh (y) ?_;exact⟨h.heap.objs.size,[h.heap.objs.size],_,_,g,rfl,i.kept λb o e=>ai _ e,Xx a _,⟨_,aA _ rfl,rfl,rfl⟩,j,post.here p c<|.tup l q⟩
 | str cs=>
  subst r;obtain⟨t,rfl⟩:=A;refine wpAny_pyIter_strU ?_;exact⟨h.heap.objs.size,[h.heap.objs.size],_,_,g,rfl,i.kept λb o e=>ai _ e,Wx ⟨cs.toArray⟩ t _,⟨_,aA _ rfl,rfl,rfl⟩,j,post.here p c .str⟩
 | own k=>
  obtain⟨a,rfl,M⟩:=r;cases A;obtain⟨B,C,h1,h2,h3⟩:=c.at_ k a M;obtain⟨E,G,y,L⟩:=i.list<|.of h2;refine ft y.isList ?_;exact⟨h.heap.objs.size,[h.heap.objs.size],_,_,g,rfl,i.kept λb o e=>ai _ e,N0 a _,⟨_,aA _ rfl,rfl,rfl⟩,j,post.here p c<|.own M⟩
 |_=>exact ah p
noncomputable def S7(lo hi:Int):Src:=.val ((de (hi-lo).toNat).map λi=>.int<|lo+(i:Nat))
def yV(t:DA):DI:=λσ O=>(t σ O).bnd λxs O1=>match xs with
 |[.int j]=>if -1000000<=j/\j<=1000000 then .ok (S7 0 j) O1 else .bad
 |_=>.bad
def PI.imp(h:PI X tg iter t)(f:∀d H Q,t' d H Q->t d H Q):PI X tg iter t':=λe s d H Q I q=>h e s d H Q I<|f d H Q q
def rQ(h:nv K H Qb μ [d] vs):∃v,vs=[v]/\Qe K H Qb μ d v:=by obtain⟨v,r,rfl,e,f⟩:=h;subst f;exact⟨v,rfl,e⟩
def Kv(h:nv K H Qb μ [d,e] vs):∃v w,vs=[v,w]/\Qe K H Qb μ d v/\Qe K H Qb μ e w:=by obtain⟨v,r,rfl,f,g⟩:=h;obtain⟨w,rfl,i⟩:=rQ g;exact⟨v,w,rfl,f,i⟩
set_option tactic.hygienic true in
def Ox(f:Gl X "range")(g:X.mg "range" = Qn)(h:qW X Ex [a] t)(i:au [a] X.env=[(Qp,eval a X.env)]:=by rfl):rn X Ex tg (.Call (.Name "range" p) [a] [] pos) (yV t):=
 rn.mk <| PI.imp (Wz f g h.out i) λn H Q ⟨k,o,s,O,l,m,q⟩=>r9.go l m q λd u w y A B x c r p=>by
  split at p
  .rename_i j;obtain⟨⟨C,E⟩,p⟩:=post.ite p;obtain⟨v,rfl,e⟩:=rQ r;unfold Qe at e;subst e;refine⟨j,rfl,by lia,by lia,?_⟩;have:=post.here p c<|nH.rng;simpa using this
  .exact ah p
end
inductive RS where
 |nx (σ:Sg) (O:Ow)
 |rt (d:D) (O:Ow)
 |bk (σ:Sg) (O:Ow)
 |ct (σ:Sg) (O:Ow)
 |exc (c:Nat) (O:Ow)
 |bad
 deriving Inhabited
abbrev DS:=Sg->Ow->RS
def R.bnS{α:Type}(r:R α)(k:α->Ow->RS):RS:=match r with
 |.ok a O=>k a O
 |.exc c O=>.exc c O
 |.bad=>.bad
section
variable(Ex:Nat->Hp->Prop)(K:ag)
def nE(H:Hp)(Qb μ:List af)(r:RS)(E:v7):Prop:=match r with
 |.nx σ O=>∀a_ H' b_,Ext H μ H' b_->ny K H' Qb b_ σ a_->nu K H' Qb b_ O->E.nx a_ H'
 |.rt d O=>∀v H' b_,Ext H μ H' b_->nu K H' Qb b_ O->Qe K H' Qb b_ d v->E.rt v H'
 |.bk σ O=>∀a_ H' b_,Ext H μ H' b_->ny K H' Qb b_ σ a_->nu K H' Qb b_ O->E.bk a_ H'
 |.ct σ O=>∀a_ H' b_,Ext H μ H' b_->ny K H' Qb b_ σ a_->nu K H' Qb b_ O->E.ct a_ H'
 |.exc c O=>∀H' b_,Ext H μ H' b_->nu K H' Qb b_ O->Ex c H'
 |.bad=>False
def Fh(t:DS):TS:=λE a_ H=>∃Qb μ σ O,ny K H Qb μ σ a_/\nu K H Qb μ O/\nE Ex K H Qb μ (t σ O) E
end
structure qE(X:Cx)(Ex:Nat->Hp->Prop)(st:cN)(t:DS):Prop where
 out:PS X st (Fh Ex X.K t)
structure qv(X:Cx)(Ex:Nat->Hp->Prop)(st:List cN)(t:DS):Prop where
 out:qH X st (Fh Ex X.K t)
def PS.imp(h:PS X st t)(f:∀E a H,t' E a H->t E a H):PS X st t':=λb s a H D I q=>h b s a H D I<|f D a H q
def qH.imp(h:qH X st t)(f:∀E a H,t' E a H->t E a H):qH X st t':=λb s a H D I q=>h b s a H D I<|f D a H q
section
variable{Ex:Nat->Hp->Prop}{K:ag}{H H1:Hp}{Qb μ c_:List af}
def nE.ext{r:RS}{E:v7}(h:nE Ex K H Qb μ r E)(e:Ext H μ H1 c_):nE Ex K H1 Qb c_ r E:=by
 cases r with
 |nx σ O=>exact λj f g i a b=>h j f g (e.trans i) a b
 |bk σ O=>exact λj f g i a b=>h j f g (e.trans i) a b
 |ct σ O=>exact λj f g i a b=>h j f g (e.trans i) a b
 |rt d O=>exact λv f g i a b=>h v f g (e.trans i) a b
 |exc c O=>exact λf g i a=>h f g (e.trans i) a
 |bad=>exact h
def nE.bnS{α β:Type}{a:Hp->List af->α->β->Prop}{r:R α}{k:α->Ow->RS}{E:v7}{Q1:β->Hp->Prop}(h:nE Ex K H Qb μ (r.bnS k) E)
  (b:∀d O1 v H1 c_,Ext H μ H1 c_->nu K H1 Qb c_ O1->a H1 c_ d v->nE Ex K H1 Qb c_ (k d O1) E->Q1 v H1):post Ex K a H Qb μ r Q1:=by
 cases r with
 |ok d O'=>exact λv f g e c q=>b d O' v f g e c q<|nE.ext (h) e
 |exc c O'=>exact h
 |bad=>exact h
end
section
variable{X:Cx}{Ex:Nat->Hp->Prop}{pos:Pos}{b c:aZ}{tc:DE}
def yt{e:cN}{t:TS}{t':DS}(h:PS X e t)(f:∀Qb μ a O E d H,ny X.K H Qb μ a d->nu X.K H Qb μ O->nE Ex X.K H Qb μ (t' a O) E->t E d H):qE X Ex e t':=
 ⟨PS.imp h λE d H ⟨Qb,μ,a,O,g,i,q⟩=>f Qb μ a O E d H g i q⟩
def GW(h:qH X st t)(f:∀Qb μ a O E d H,ny X.K H Qb μ a d->nu X.K H Qb μ O->nE Ex X.K H Qb μ (t' a O) E->t E d H):qv X Ex st t':=
 ⟨qH.imp h λE d H ⟨Qb,μ,a,O,e,g,q⟩=>f Qb μ a O E d H e g q⟩
def rd.goS{t:DE}{Qb μ:List af}{g:Sg}{O:Ow}{h:St}{H:Hp}{Q1:VK}{k:D->Ow->RS}{E:v7}(i:ny X.K H Qb μ g h)(j:nu X.K H Qb μ O)
  (q:nE Ex X.K H Qb μ ((t g O).bnS k) E)
  (f:∀d O1 v a e,ny X.K a Qb e g h->Ext H μ a e->nu X.K a Qb e O1->Qe X.K a Qb e d v->nE Ex X.K a Qb e (k d O1) E->Q1 v a):rd Ex X.K t h H Q1:=
 ⟨Qb,μ,g,O,i,j,nE.bnS q λd O1 v a e x c r p=>f d O1 v a e (i.ext x) x c r p⟩
def uP.goS{t:DT}{Qb μ:List af}{g:Sg}{O:Ow}{h:St}{H:Hp}{Q1:Bool->Hp->Prop}{k:Bool->Ow->RS}{E:v7}(i:ny X.K H Qb μ g h)(j:nu X.K H Qb μ O)
  (q:nE Ex X.K H Qb μ ((t g O).bnS k) E)
  (f:∀v O1 a e,ny X.K a Qb e g h->Ext H μ a e->nu X.K a Qb e O1->nE Ex X.K a Qb e (k v O1) E->Q1 v a):uP Ex X.K t h H Q1:=
 ⟨Qb,μ,g,O,i,j,nE.bnS q λd O1 v a e x c r p=>by
  subst r;exact f d O1 a e (i.ext x) x c p⟩
def qw:DS:=λσ O=>.nx σ O
def o3(t u:DS):DS:=λσ O=>match t σ O with
 |.nx σ' O'=>u σ' O'
 |r=>r
def Nq:qv X Ex [] qw:=GW L_ λa d h O E e H f g q=>q e H d .refl f g
def pH{h:cN}{e:List cN}{t u:DS}(j:qE X Ex h t)(k:qv X Ex e u):qv X Ex (h::e) (o3 t u):=
 GW (Aw j.out k.out) λg l i O E r H m n q=>by
  refine⟨g,l,i,O,m,n,?_⟩;unfold o3 at q;cases f:t i O with
  | nx σ' O'=>
   rw[f] at q;exact λs v o p a b=>⟨g,o,σ',O',a,b,q.ext p⟩
  |rt d O'=>rw[f] at q;exact q
  |bk σ' O'=>rw[f] at q;exact q
  |ct σ' O'=>rw[f] at q;exact q
  |exc c O'=>rw[f] at q;exact q
  |bad=>rw[f] at q;exact q
def pG(a:qE X Ex st t):qv X Ex [st] t:=⟨GY a.out⟩
def o9(t:DE):DS:=λσ O=>(t σ O).bnS λd O1=>.rt d O1
def Mp(a:PD X Ex e te):qE X Ex (.Return (Qg e) pos) (o9 te):=
 yt (Su a.out) λf k l O E m H g h q=>rd.goS g h q λd n v i j o x c r p=>p v i j .refl c r
def qT(c:DT)(t u:DS):DS:=λσ O=>(c σ O).bnS λb O1=>if b=Qo then t σ O1 else u σ O1
def Lc{c:aZ}{x y:List cN}{tc:DT}{t u:DS}(h:pO X Ex c tc)(i:qv X Ex x t)(j:qv X Ex y u):qE X Ex (.If c x y pos) (qT tc t u):=
 yt (R0 h.out i.out j.out) λa n d O E o H l m q=>uP.goS l m q λk e r f g x c p=>by
  cases k with
  |true=>rw[Qs rfl];exact⟨a,f,d,e,g,c,p⟩
  |false=>rw[Qu bo];exact⟨a,f,d,e,g,c,p⟩
def xu:DS:=λ_ _=>.bad
def Ao:qv X Ex st xu:=GW WI λa d e O E f H g h q=>q
def v_(t:DE):DS:=λσ O=>(t σ O).bnS λ_ O1=>.nx σ O1
def NB(a:PD X Ex e te)(f:swapsWith e Qn pos.line X.env=pure Qp:=by rfl):qE X Ex (.Expr e pos) (v_ te):=
 yt (MK a.out f) λg n o O E h H i j q=>rd.goS i j q λd s v k l m x c r p=>p h k l .refl m c
def pX(i:Nat)(t:DE):DS:=λσ O=>(t σ O).bnS λd O1=>.nx (σ.set i<|Qg d) O1
def EC(a:X.N.Nodup)(f:X.N[i]?=Qg x)(g:Loc X.env.scope x)(h:PD X Ex e te)(j:swapsWith e (Qg<|.Name x pos') pos.line X.env=pure Qp:=by rfl)
  (k:X.fn x=Qo\/X.env.scope.names.lookup x=Qg .local:=by first|exact .inl rfl|exact .inr rfl):qE X Ex (.Assign [.Name x pos'] e pos) (pX i te):=
 yt (GI a f g h.out j k) λl w y O E m H n o q=>rd.goS n o q λd A v s t u x c r p=>p (m.set i<|Qg v) s t .refl (u.set r i) c
inductive Tg where
 |one (i:Nat)
 |two (i j:Nat)
noncomputable def Tg.put:Tg->D->Sg->Option Sg
 |.one i,d,σ=>Qg (σ.set i<|Qg d)
 | .two i j,d,σ=>match d with
  |.tup [x,y]=>Qg ((σ.set i<|Qg x).set j<|Qg y)
  |_=>Qn
def Tg.rd(K:ag):Tg->TG
 |.one i=>xD i
 |.two i j=>Ko K 2 (Gk (xD i)<|Gk (xD j) Kn)
def Tg.slots:Tg->qB
 |.one i=>[i]
 |.two i j=>[i,j]
set_option tactic.hygienic true in
def Tg.ok2(g:Tg)(n:ny K H Qb μ σ a_)(q:Qe K H Qb μ d v)(h:g.put d σ=Qg σ')
  (k:∀f,ny K H Qb μ σ' f->(∀i,i∉g.slots->f[i]?=a_[i]?)->Q f H):g.rd K v a_ H Q:=by
 cases g with
 | one i=>
  cases h;exact k _ (n.set q i) λj p=>aQ (λe=>p (by simp[Tg.slots,e]))
 | two i j=>
  unfold Tg.put at h;dsimp only at h;split at h
  .rename_i x y;cases h;obtain⟨a,t,rfl,l,q⟩:=q;obtain⟨u,w,rfl,r,s⟩:=Kv q;refine⟨a,[u,w],rfl,l.sq,rfl,u,[w],rfl,w,[],rfl,rfl,k _ ((n.set r i).set s j) λm o=>?_⟩;rw[aQ (λe=>o (by simp[Tg.slots,e])),aQ (λe=>o (by simp[Tg.slots,e]))]
  .cases h
set_option tactic.hygienic true in
def Tg.ok{K}{H}{Qb μ}{σ σ'}{a_}{d}{v}{Q:St->Hp->Prop}(g:Tg)(e:ny K H Qb μ σ a_)(q:Qe K H Qb μ d v)(h:g.put d σ=Qg σ')(k:∀f,ny K H Qb μ σ' f->Q f H):g.rd K v a_ H Q:=by
 cases g with
 |one i=>cases h;exact k _<|e.set q i
 | two i j=>
  unfold Tg.put at h;dsimp only at h;split at h
  .rename_i x y;cases h;obtain⟨a,o,rfl,l,q⟩:=q;obtain⟨u,w,rfl,m,n⟩:=Kv q;exact⟨a,[u,w],rfl,l.sq,rfl,u,[w],rfl,w,[],rfl,rfl,k _<|(e.set m i).set n j⟩
  .cases h
def LU(a:X.N.Nodup)(d:X.N[i]?=Qg x)(e:Loc X.env.scope x)(f:X.fn x=Qo\/X.env.scope.names.lookup x=Qg .local:=by first|exact .inl rfl|exact .inr rfl|assumption):PG X (.Name x pos) ((Tg.one i).rd X.K):=EH a d e f
noncomputable def uK(src:Src)(step:D->Sg->Ow->RS):Nat->Nat->Sg->Ow->RS
 | 0,i,σ,O=>match src.get O i with
  |none=>.nx σ O
  |some _=>.bad
 | f+1,i,σ,O=>match src.get O i with
  |none=>.nx σ O
  | some d=>match step d σ O with
   |.nx σ' O'=>uK src step f (i+1) σ' O'
   |.ct σ' O'=>uK src step f (i+1) σ' O'
   |.bk σ' O'=>.nx σ' O'
   |r=>r
def xr(it:DI)(g:Tg)(body:DS):DS:=λσ O=>(it σ O).bnS λsrc O1=>uK src (λd σ O=>match g.put d σ with|some σ'=>body σ' O|none=>.bad) (src.size O1) 0 σ O1
def MG{t:aZ}{body:List cN}{it:DI}{g:Tg}{M:DS}(hp:iW (aq X.prog X.w) X.A X.env X.xe)(hc:X.calm=Qo)(hi:rn X Ex tg t it)(hg:PG X tg (g.rd X.K))(hb:qv X Ex body M)
  (hs:∀x,bw t X.env x=pure x:=by intro _;rfl):qE X Ex (.For tg t body [] pos) (xr it g M):=
 yt (Lx hp hc hi.out hg hb.out hs) λj μ T O E a_ H e1 c1 q=>by
  refine⟨j,μ,T,O,e1,c1,nE.bnS q λn O1 J H1 Y x1 c2 sa p=>?_⟩;generalize rA:(λ(d:D)(T:Sg)(O:Ow)=>match g.put d T with|some e=>M e O|none=>RS.bad)=l at p;refine⟨λi m N s=>∃o e u,Ext H1 Y s o/\ny X.K s j o e N/\nu X.K s j o u/\nE Ex X.K s j o (uK n l m i e u) E,⟨_,Y,T,O1,.refl,e1.ext x1,c2,p⟩,?_⟩;rintro i m uE P ⟨G,Q,B,x2,Z,c3,C⟩;have U:=sa j P G B x2.mv c3 i;cases I:n.get B i with
  | none=>
   rw[I] at U;refine .inl ⟨U,?_⟩;cases m with
   | zero=>
    have k:nE Ex X.K P j G (match n.get B i with|none=>.nx Q B|some _=>.bad) E:=C;rw[I] at k;exact k uE P G .refl Z c3
   | succ f=>
    unfold uK at C;rw[I] at C;exact C uE P G .refl Z c3
  | some d=>
   rw[I] at U;obtain⟨go,yl⟩:=U;cases m with
   | zero=>
    have k:nE Ex X.K P j G (match n.get B i with|none=>.nx Q B|some _=>.bad) E:=C;rw[I] at k;exact ah k
   | succ f=>
    refine .inr ⟨go,λN s=>∃o e u,Ext H1 Y s o/\ny X.K s j o e N/\nu X.K s j o u/\nE Ex X.K s j o (uK n l f (i+1) e u) E,λe s h=>⟨f,cj f,h⟩,λv H3 y=>?_⟩;obtain⟨x3,c4,r⟩:=yl v H3 y;unfold uK at C;rw[I] at C;have k:nE Ex X.K H3 j G (match l d Q B with
     |.nx e u=>uK n l f (i+1) e u
     |.ct e u=>uK n l f (i+1) e u
     |.bk e u=>.nx e u
     |r=>r) E:=nE.ext C x3
    cases t_:g.put d Q with
    | none=>
     rw[<- rA] at k;simp only[t_] at k;exact ah k
    | some qI=>
     refine Tg.ok g (Z.ext x3) r t_ λQX e3=>⟨j,G,qI,B,e3,c4,?_⟩;have Ft:l d Q B=M qI B:=by rw[<- rA];simp only[t_]
     rw[Ft] at k;have x4:=x2.trans x3;cases L:M qI B with
     |nx Dx O4=>rw[L] at k;exact λN s o S a b=>⟨o,Dx,O4,x4.trans S,a,b,k.ext S⟩
     |ct Dx O4=>rw[L] at k;exact λN s o S a b=>⟨o,Dx,O4,x4.trans S,a,b,k.ext S⟩
     |bk Dx O4=>rw[L] at k;exact k
     |rt d4 O4=>rw[L] at k;exact k
     |exc c4 O4=>rw[L] at k;exact k
     |bad=>rw[L] at k;exact k
end
structure Cl where
 it:DI
 g:Tg
 ifs:List DT
def pj:List Cl->qB
 |[]=>[]
 |c::cs=>c.g.slots++pj cs
def qe{α:Type}(σ:List (Option α)):qB->List (Option α)
 |[]=>σ
 |i::r=>qe (σ.set i Qn) r
def tV:List DT->DT
 |[]=>λ_ O=>.ok Qo O
 |c::cs=>λσ O=>(c σ O).bnd λb O1=>if b=Qo then tV cs σ O1 else .ok Qp O1
noncomputable def qm(src:Src)(step:D->Ow->List D->R (List D)):Nat->Nat->Ow->List D->R (List D)
 | 0,i,O,Qm=>match src.get O i with
  |none=>.ok Qm O
  |some _=>.bad
 | f+1,i,O,Qm=>match src.get O i with
  |none=>.ok Qm O
  |some d=>(step d O Qm).bnd λqg O'=>qm src step f (i+1) O' qg
def vk:List Cl->DE->Sg->Ow->List D->R (List D)
 |[],elt,σ,O,Qm=>(elt σ O).bnd λv O1=>if Qm.length<4000000 then .ok (Qm++[v]) O1 else .bad
 | c::cs,elt,σ,O,Qm=>(c.it σ O).bnd λsrc O1=>qm src (λd O2 Qm=>match c.g.put d (qe σ (pj<|c::cs)) with
   |some pJ=>(tV c.ifs pJ O2).bnd λb O3=>if b=Qo then vk cs elt pJ O3 Qm else .ok Qm O3
   |none=>.bad) (src.size O1) 0 O1 Qm
def yW(c:Cl)(cs:List Cl)(elt:DE)(σ:Sg):D->Ow->List D->R (List D):=λd O2 Qm=>match c.g.put d (qe σ (pj<|c::cs)) with
   |some pJ=>(tV c.ifs pJ O2).bnd λb O3=>if b=Qo then vk cs elt pJ O3 Qm else .ok Qm O3
   |none=>.bad
abbrev Em:=Sg->Ow->List D->R (List D)
def yd(te:DE):Em:=λσ O Qm=>(te σ O).bnd λv O1=>if Qm.length<4000000 then .ok (Qm++[v]) O1 else .bad
def sE:List Cl->Em->Sg->Ow->List D->R (List D)
 |[],em,σ,O,Qm=>em σ O Qm
 | c::cs,em,σ,O,Qm=>(c.it σ O).bnd λsrc O1=>qm src (λd O2 Qm=>match c.g.put d (qe σ (pj<|c::cs)) with
   |some pJ=>(tV c.ifs pJ O2).bnd λb O3=>if b=Qo then sE cs em pJ O3 Qm else .ok Qm O3
   |none=>.bad) (src.size O1) 0 O1 Qm
def sZ(c:Cl)(cs:List Cl)(em:Em)(σ:Sg):D->Ow->List D->R (List D):=λd O2 Qm=>match c.g.put d (qe σ (pj<|c::cs)) with
   |some pJ=>(tV c.ifs pJ O2).bnd λb O3=>if b=Qo then sE cs em pJ O3 Qm else .ok Qm O3
   |none=>.bad
theorem MQ(b:DE):∀a:List Cl,sE a (yd b)=vk a b
 |[]=>by funext σ O Qm;unfold sE vk yd;rfl
 |c::cs=>by funext σ O Qm;unfold sE vk;rw[MQ b cs]
def Vf(c)(cs)(a:DE):sZ c cs (yd a)=yW c cs a:=by funext σ d O Qm;unfold sZ yW;rw[MQ a cs]
theorem BA{α:Type}:∀(l)(σ:List (Option α)),(qe σ l).length=σ.length
 |[],_=>rfl
 |i::r,σ=>by unfold qe;rw[BA r];simp
theorem G5{α:Type}:∀(l)(σ:List (Option α))(i),i∉l->(qe σ l)[i]?=σ[i]?
 |[],σ,i,h=>rfl
 | j::r,σ,i,h=>by
  unfold qe;rw[G5 r _ i λz=>h<|ar _ z,aQ λz=>h (by simp[z])]
theorem ED{α:Type}:∀(l)(σ:List (Option α))(i)(d:α),(qe σ l)[i]?=Qg (Qg d)->σ[i]?=Qg (Qg d)/\i∉l
 |[],σ,i,d,h=>⟨h,by simp⟩
 | j::r,σ,i,d,h=>by
  obtain⟨a,b⟩:=ED r _ i d h;by_cases e:j=i
  .subst e;by_cases c:j<σ.length
   .rw[aX c] at a;cases a
   .rw[ba.mpr (by simp;lia)] at a;cases a
  .rw[aQ e] at a;exact⟨a,by simp[b];exact λz=>e z.symm⟩
structure Ea(A:af)(H:Hp)(μ:List af)(H':Hp)(b_:List af):Prop where
 pre:∃ν,b_=μ++ν
 kept:∀b o,H b=Qg o->b∉μ->b≠A->z6 o->H' b=Qg o
 fresh:∀b∈b_,b∈μ\/H b=Qn
 there:∀b,H b≠Qn->H' b≠Qn
 tab:∀P,nJ H P->nJ H' P
section
variable{K:ag}{A:af}{H H' H1 H2:Hp}{Qb μ b_ c_ n_:List af}
def Ext.ea(e:Ext H μ H' b_):Ea A H μ H' b_:=⟨e.pre,λb o h n _ a=>e.kept b o h n a,e.fresh,e.there,e.tab⟩
def Ea.refl:Ea A H μ H μ:=Ext.refl.ea
def Ea.trans(a:Ea A H μ H1 c_)(b:Ea A H1 c_ H2 n_):Ea A H μ H2 n_:=by
 have i:∀c,H1 c=Qn->H c=Qn:=λc h=>by
  cases e:H c with
  |none=>rfl
  |some o=>exact absurd h (a.there c (by rw[e];simp))
 refine⟨?_,λc o h d f g=>?_,λc h=>?_,λc h=>b.there c<|a.there c h,λP t=>b.tab P<|a.tab P t⟩
 .obtain⟨x,rfl⟩:=a.pre;obtain⟨y,rfl⟩:=b.pre;exact⟨x++y,by simp⟩
 .refine b.kept c o (a.kept c o h d f g) (λm=>?_) f g;rcases a.fresh c m with z|z
  .exact d z
  .rw[z] at h;cases h
 .rcases b.fresh c h with z|z
  .exact a.fresh c z
  .exact .inr<|i c z
def Ea.mv(e:Ea A H μ H' b_):Mv H (A::Qb) μ H' (A::Qb) b_:=⟨e.pre,λb o h a c d=>e.kept b o h a (λz=>c (by simp[z])) d,e.fresh,λ_ m=>.inl m,e.there,e.tab⟩
def Ea.putX(ht:∀P,nJ H P->nJ (upd H A o) P):Ea A H μ (upd H A o) μ:=⟨⟨[],by simp⟩,λb u h _ n _=>by rw[oN n];exact h,λ_ m=>.inl m,vb,ht⟩
def nu.putX(c:nu K H (A::Qb) μ O)(ht:∀P,nJ H P->nJ (upd H A o) P):nu K (upd H A o) (A::Qb) μ O:=by refine⟨c.len,c.nd,c.nh,λa m=>vb a<|c.ht a m,λk a e=>?_⟩;obtain⟨b,d,f,g,h⟩:=c.at_ k a e;have i:a≠A:=λz=>c.nh a (aR e) (by simp[z]);exact⟨b,d,f,by rw[oN i];exact g,h.mv (Ea.putX ht).mv⟩
def Ea.put{o}(a:∃vs,H A=Qg (.lst vs)):Ea A H μ (upd H A o) μ:=.putX λ_ t=>t.upd<|.inr a
def nu.putA{o}{O}(c:nu K H (A::Qb) μ O)(a:∃vs,H A=Qg (.lst vs)):nu K (upd H A o) (A::Qb) μ O:=c.putX λ_ t=>t.upd<|.inr a
def nu.unhide(c:nu K H (A::Qb) μ O):nu K H Qb μ O:=
 ⟨c.len,c.nd,λa m z=>c.nh a m<|ar _ z,λa m=>c.ht a<|ar _ m,λk a e=>
  let ⟨ds,vs,h1,h2,h3⟩:=c.at_ k a e
  ⟨ds,vs,h1,h2,h3.mv .unhide⟩⟩
end
abbrev pe:Nat->Hp->Prop:=λ_ _=>False
inductive nQ(X:Cx):List cD->List Cl->Prop where
 |nil:nQ X [] []
 | cons {tg iter} {ifs} {gs} {c} {cs} (hi:rn X pe tg iter c.it) (hs:∀x,bw iter X.env x=pure x) (hg:PG X tg (c.g.rd X.K))
   (hf:bP (λe t=>pO X pe e t) ifs c.ifs) (r:nQ X gs cs):nQ X (⟨tg,iter,ifs,0⟩::gs) (c::cs)
section
variable{X:Cx}
def xM{α:Type}{M}{A}{t:Sem α}{Q c:α->aj->Prop}{E}{s}(d:X.xe=λ_ _=>False)(h:am M A t Q X.xe s)(k:∀a b,Q a b->c a b):am M A t c E s:=
 bQ h k λe b z=>by rw[d] at z;exact z.elim
theorem OR{env}{M}{A}{E}{s}{Q}(h:Q Qp s):∀(a:List aZ),am M A (forIn a Qp λc r=>if r=Qo then do let ok <- isTrue c env (eval c env);pure (fe ok) else pure (fe r)) Q E s
 |[]=>ak h
 | c::cs=>by
  simp;exact aa (ak<|OR h cs)
theorem NG{E}{Qb}(j:X.xe=λ_ _=>False):∀{ifs}{ts},bP (λe t=>pO X pe e t) ifs ts->∀(Qc)(s)(a_:St)(H)(μ)(σ)(O)(Q:Bool->aj->Prop),
  L2.Inv X Qc a_ H s->ny X.K H Qb μ σ a_->nu X.K H Qb μ O->
  u6 pe X.K H Qb μ (tV ts σ O) (λb h=>∀g,L2.Inv X Qc a_ h g->Q b g)->
  am (aq X.prog X.w) X.A (forIn ifs Qo λc r=>if r=Qo then do let ok <- isTrue c X.env (eval c X.env);pure (fe ok) else pure (fe r)) Q E s
 |_,_,.nil,Qc,s,a_,H,μ,σ,O,Q,I,e1,c1,q=>ak<|post.here q c1 rfl s I
 | _::ifs,_::ts,.cons hc hr,Qc,s,a_,H,μ,σ,O,Q,I,e1,c1,q=>by
  simp only[jR,if_true];refine aa (aa (xM j (hc.out Qc s a_ H _ I (uP.go e1 c1 q (Q1:=λb f=>∃a d,ny X.K f Qb a σ a_/\nu X.K f Qb a d/\u6 pe X.K f Qb a (if b=Qo then tV ts σ d else .ok Qp d) (λb h=>∀g,L2.Inv X Qc a_ h g->Q b g))
   λb d f a i x c p=>⟨a,d,i,c,p⟩)) λb k ⟨f,l,a,d,i,m,p⟩=>ak ?_))
  cases b with
  |true=>rw[Qs rfl] at p;exact NG j hr Qc k a_ f a σ d Q l i m p
  |false=>rw[Qu bo] at p;exact OR (post.here p m rfl k l) ifs
structure uI where
 ex:List cD->cC->Pos->aZ
 emit:ae->Env->Sem Unit
 new:Sem ae
 ho:aE->aG->af->HO
 G:ag->aE->aG->af->List af->Hp->List af->List D->Prop
structure Bs(X:Cx)(C:uI)(A:af)(Qb:List af)(Qc:List (af×Obj))(s:aj)(a_:St)(H:Hp)(μ:List af)(σ:Sg)(O:Ow)(Qm:List D):Prop where
 inv:L2.Inv X Qc a_ H s
 env:ny X.K H (A::Qb) μ σ a_
 cells:nu X.K H (A::Qb) μ O
 grown:C.G X.K X.prog X.w A Qb H μ Qm
def KY(X:Cx)(C:uI)(A:af)(Qb:List af)(Qc:List (af×Obj))(a_:St)(H:Hp)(μ:List af)(sl:qB)(Qm:List D)(O:Ow)(Q:aj->Prop):Prop:=
 ∀s' oW H' b_,L2.Inv X Qc oW H' s'->Ea A H μ H' b_->nu X.K H' (A::Qb) b_ O->C.G X.K X.prog X.w A Qb H' b_ Qm->oW.length=a_.length->(∀i,i∉sl->oW[i]?=a_[i]?)->Q s'
def vo(X:Cx)(C:uI)(A:af)(Qb:List af)(Qc:List (af×Obj))(a_:St)(H:Hp)(μ:List af)(sl:qB)(r:R (List D))(Q:aj->Prop):Prop:=match r with
 |.ok Qm O=>KY X C A Qb Qc a_ H μ sl Qm O Q
 |_=>False
noncomputable def xC(e:aZ)(em:ae->Env->Sem Unit)(gens:List cD)(k:Nat)(Qm:ae)(env:Env):Sem Unit:=match gens[k]? with
 | some g'=>do
  let x <- eval g'.iter env
  standAt g'.iter.pos
  let x <- if g'.is_async !=0 then foldedIterable g'.iter x else bw g'.iter env x
  let _ <- runOwn (.compStart e k (<- holding [x] (if g'.is_async !=0 then asyncIter x else pyIter x)) Qm env) env
 |none=>em Qm env
def SG(C:uI):Prop:=∀(gens)(scope)(pos)(k)(it Qm:ae)(env){tg iter}{ifs},gens[k]?=Qg ⟨tg,iter,ifs,0⟩->
  (gens[k+1]?=Qn \/ ∃yC qY tj,gens[k+1]?=Qg ⟨yC,qY,tj,0⟩)->
  compTurn (C.ex gens scope pos) k it Qm env=(do
   standAt iter.pos
   match <- pyNext it with
   |none=>pure<|.done .next
   | some v=>
    letOwnedTupleGo tg it v
    assign tg env v
    let mut ok:=Qo
    for c in ifs do
     if ok then ok <- isTrue c env (eval c env)
    if ok then xC (C.ex gens scope pos) C.emit gens (k+1) Qm env
    again (.compLoop (C.ex gens scope pos) k it Qm env))
structure yv(C:uI):Prop where
 cl:∀gens scope pos,clausesOf (C.ex gens scope pos)=gens
 turn:SG C
 keep:∀{K P w A Qb H μ Qm H' b_},C.G K P w A Qb H μ Qm->A∉μ->Ext H μ H' b_->C.G K P w A Qb H' b_ Qm
 new:∀{P}{w}{A:aY}{E}{Q}{s},(∀o:Obj,o.isFreed=Qp->(∀(H)(h)(a),sysModules<a->h.get? a=Qg o->nN P w (upd H a<|C.ho P w a) h a (C.ho P w a))->Q (.ref s.heap.objs.size) { s with heap:=s.heap.push o })->am (aq P w) A C.new Q E s
 g0:∀{K P w a Qb H μ},C.G K P w a Qb (upd H a<|C.ho P w a) μ []
 q1:∀gens scope pos k it Qm env,(k9 (C.ex gens scope pos) k it Qm env).quiet=Qo
 u1:∀(A:aY)gens scope pos k it Qm env,A.under (k9 (C.ex gens scope pos) k it Qm env)=A
 d1:∀P w gens scope pos k it Qm env,(aq P w).den (k9 (C.ex gens scope pos) k it Qm env)=(compTurn (C.ex gens scope pos) k it Qm env).onRaise (λx=>do noteFrame x env;theTreesLotGoes x)
 u2:∀(A:aY)gens scope pos k it Qm env,A.under (mI (C.ex gens scope pos) k it Qm env)=A
 d2:∀P w gens scope pos k it Qm env,(aq P w).den (mI (C.ex gens scope pos) k it Qm env)=(compStart (C.ex gens scope pos) k it Qm env).onRaise (λx=>do noteFrame x env;standAt theWindowsPlace)
noncomputable def yZ(elt:aZ):uI where
 ex:=λgens scope pos=>.ListComp elt gens scope pos
 emit:=λQm env=>do let _ <- call (.builtin "list.append") [Qm,<- eval elt env]
 new:=newList []
 ho:=λ_ _ _=>.lst []
 G:=λK _ _ A Qb H μ Qm=>∃vs,H A=Qg (.lst vs)/\nv K H (A::Qb) μ Qm vs
def He(c:aZ):yv (yZ c) where
 cl:=λ_ _ _=>rfl
 turn:=λd b g k n i j t l o m f=>by
  show compTurn (.ListComp c d b g) k n i j=_;unfold compTurn xC;rcases f with f|⟨u,v,w,f⟩
  .simp only[m,f];rfl
  .simp only[m,f,bne_self_eq_false,cU,if_false,bind_assoc,pure_bind]
   first|rfl|congr 1
 keep:=λ⟨p,q,r⟩ s x=>⟨p,x.keep _ _ q s,r.ext x⟩
 new:=λh=>cb (h _ rfl λH h a _ e=>⟨cH _,[],0,.nil,e⟩)
 g0:=⟨[],pK,.nil⟩
 q1:=λ_ _ _ _ _ _ _=>rfl
 u1:=λ_ _ _ _ _ _ _ _=>rfl
 d1:=λ_ _ _ _ _ _ _ _ _=>rfl
 u2:=λ_ _ _ _ _ _ _ _=>rfl
 d2:=λ_ _ _ _ _ _ _ _ _=>rfl
def PJ(Z:St->Hp->List af->Prop)(K:ag)(Qb:List af)(t:DE):TE:=λa_ H Q=>∃μ σ O,Z a_ H μ/\ny K H Qb μ σ a_/\nu K H Qb μ O/\pf pe K H Qb μ (t σ O) Q
def PD.z{X}{Z:St->Hp->List af->Prop}{Qb}{e}{t:DE}(h:PD X pe e t):PE X e (PJ Z X.K Qb t):=λa s b H Q I ⟨c,d,O,_,f,g,q⟩=>h.out a s b H Q I ⟨Qb,c,d,O,f,g,q⟩
section
variable{C:uI}{Z:St->Hp->List af->Prop}{A:af}{Qb:List af}{elt:aZ}{gens:List cD}{scope:cC}{pos:Pos}{te:DE}{em:Em}
def xb(X:Cx)(Z:St->Hp->List af->Prop)(C:uI)(A:af)(Qb:List af)(e:aZ)(gens:List cD)(em:Em)(k:Nat)(cls:List Cl):Prop:=∀(Qc)(s)(a_)(H:Hp)(μ)(σ)(O:Ow)(Qm)(Q)(E:ae->aj->Prop),
 Z a_ H μ->Bs X C A Qb Qc s a_ H μ σ O Qm->vo X C A Qb Qc a_ H μ (pj cls) (sE cls em σ O Qm) Q->am (aq X.prog X.w) X.A (xC e C.emit gens k (.ref A) X.env) (λ_ s'=>Q s') E s
def Vx{k}{e:aZ}(p:X.xe=λ_ _=>False)(I:PE X elt (PJ Z X.K (A::Qb) te))(J:gens[k]?=Qn):xb X Z (yZ elt) A Qb e gens (yd te) k []:=by
 intro a s h H i t O b Q E z B q;unfold xC;rw[J];obtain⟨w,L,M⟩:=B.grown;cases j:te t O with
 | ok d O1=>
  have l:vo X (yZ elt) A Qb a h H i (pj []) (if b.length<4000000 then .ok (b++[d]) O1 else .bad) Q:=by
   have:=q;unfold sE yd at this;rw[j] at this;exact this
  by_cases o:b.length<4000000
  .rw[Qs o] at l;refine aa (xM p (I a s h H (λv f=>∃g,Ext H i f g/\nu X.K f (A::Qb) g O1/\Qe X.K f (A::Qb) g d v) B.inv ⟨i,t,O,z,B.env,B.cells,by rw[j];exact λv H' N x c r=>⟨N,x,c,r⟩⟩)
    λu P ⟨v,f,S,T,g,x,c,r⟩=>?_)
   have U:A∉i:=λm=>B.cells.nh A m 'k';have n:=x.keep A _ L U;have y:=M.ext x;refine aa (xM p (NY a P h f (.ref A) [v] (.ref A) [u] (λ_ G=>G=upd f A (.lst<|w++[v])) S rfl (.cons T .nil)
    ⟨A,w,v,rfl,rfl,n,aV (by rw[<- y.length];exact o) 'b',rfl⟩) λu2 Y ⟨v2,G,I2,r2,e2⟩=>?_)
   subst e2;refine ak (l Y h _ g I2 (x.ea.trans<|.put ⟨_,n⟩) (c.putA ⟨_,n⟩) ⟨_,pK,?_⟩ rfl λ_ _=>rfl);exact(y.append<|.cons r .nil).mv (Ea.put ⟨_,n⟩).mv
  .rw[Qu o] at l;exact l.elim
 | exc c O1=>
  unfold sE yd at q;rw[j] at q;exact q.elim
 | bad=>
  unfold sE yd at q;rw[j] at q;exact q.elim
set_option tactic.hygienic true in
def Mc(co:yv C){k:Nat}{tg iter:aZ}{ifs:List aZ}{c:Cl}{a:List Cl}(hx:X.xe=λ_ _=>False)(m_:X.calm=Qo)(hk:gens[k]?=Qg ⟨tg,iter,ifs,0⟩)(hg:PG X tg (c.g.rd X.K))(hf:bP (λe t=>pO X pe e t) ifs c.ifs)
  (hZ:∀(pJ qQ:St)U L H2 n_,Z pJ U L->(∀j,j∉pj (c::a)->qQ[j]?=pJ[j]?)->Ea A U L H2 n_->Z qQ H2 n_) (x:xb X Z C A Qb (C.ex gens scope pos) gens em (k+1) a) (hn:gens[k+1]?=Qn \/ ∃yC qY tj,gens[k+1]?=Qg ⟨yC,qY,tj,0⟩) {it:af} {fp} {tn} {J} {src} (T:vi X.prog X.w X.K tg J fp it tn)
  (Qc) (s) (a_) (H) (μ) (σ) (O:Ow) (Qm) (n:Nat) (Q) (st:tn 0 s.heap) (vO:∀b∈fp,qV X Qc H b) (sa:nH X.K J src H (A::Qb) μ)
  (z0:Z a_ H μ) (B:Bs X C A Qb Qc s a_ H μ σ O Qm) (q:vo X C A Qb Qc a_ H μ (pj<|c::a) (qm src (sZ c a em σ) n 0 O Qm) Q):
  codeAny (aq X.prog X.w) X.A (.compLoop (C.ex gens scope pos) k (.ref it) (.ref A) X.env) (λr Y=>∃f,r=.ok f/\Q Y) s:=by
 have t5:∀{h:Hp},(∀b∈fp,h b=Qn)->∀b∈fp,qV X Qc h b:=λhn b x=>⟨hn b x,(vO b x).2⟩;let P:Nat->aj->Prop:=λm Y=>∃i M h N l y,L2.Inv X Qc M h Y/\tn i Y.heap/\(∀b∈fp,h b=Qn)/\Ea A H μ h N/\nu X.K h (A::Qb) N l/\C.G X.K X.prog X.w A Qb h N y/\
  M.length=a_.length/\(∀i,i∉pj (c::a)->M[i]?=a_[i]?)/\vo X C A Qb Qc a_ H μ (pj<|c::a) (qm src (sZ c a em σ) m i l y) Q
 refine codeAny_loop (co.q1 _ _ _ _ _ _ _) P (λm s1 hP=>?_) n ⟨0,a_,H,μ,O,Qm,B.inv,st,λb x=>(vO b x).1,.refl,B.cells,B.grown,rfl,λ_ _=>rfl,q⟩;rw[co.u1,co.d1];refine wpAny_noted ?_;rw[co.turn _ _ _ _ _ _ _ hk hn];obtain⟨i,uF,U,L,O1,S,I1,pP,QC,x1,c1,g1,l1,k1,I⟩:=hP;have Fg:=sa (A::Qb) U L O1 x1.mv c1 i
 -- the names that Pz
 have JP:ny X.K U (A::Qb) L (qe σ (pj<|c::a)) uF:=by
  refine⟨by rw[BA,B.env.len,l1],λj d hj=>?_⟩;obtain⟨h1,h2⟩:=ED _ _ _ _ hj;obtain⟨v,h3,h4⟩:=B.env.at_ j d h1;exact⟨v,by rw[k1 j h2];exact h3,h4.mv x1.mv⟩
 cases pk:src.get O1 i with
 | none=>
  rw[pk] at Fg;have p:KY X C A Qb Qc a_ H μ (pj<|c::a) S O1 Q:=by
   cases m with
   |zero=>unfold qm at I;rw[pk] at I;exact I
   |succ f=>unfold qm at I;rw[pk] at I;exact I
  refine aa (eH<|aa (oO (T.done X rfl rfl rfl m_ i Qc s1 uF U _ I1 (t5 QC) pP Fg) λr s2 ⟨hr,I2⟩=>?_));subst hr;exact ak ⟨_,rfl,p s2 uF U L I2 x1 c1 g1 l1 k1⟩
 | some d=>
  rw[pk] at Fg;obtain⟨go,yl⟩:=Fg;cases m with
  | zero=>
   unfold qm at I;rw[pk] at I;exact I.elim
  | succ f=>
   have p:vo X C A Qb Qc a_ H μ (pj<|c::a) ((sZ c a em σ d O1 S).bnd λy l=>qm src (sZ c a em σ) f (i+1) l y) Q:=by
    have:=I;unfold qm at this;rw[pk] at this;exact this
   refine aa (eH<|aa (oO (T.item X rfl rfl rfl m_ i Qc s1 uF U _ I1 (t5 QC) pP go) λr s2 ⟨u,hr,h2⟩=>?_));subst hr;refine aa (oO h2 λ_ s3 ⟨v,H3,I3,r3,y3,o5,FH⟩=>?_);obtain⟨x3,c3,d3⟩:=yl v H3 y3;have I3':=I3.pinned (t5 FH)<|T.obj _ _ o5;cases t_:c.g.put d (qe σ (pj<|c::a)) with
   | none=>
    unfold sZ at p;rw[t_] at p;exact p.elim
   | some qI=>
    have CB:sZ c a em σ d O1 S=((tV c.ifs qI O1).bnd λb O3=>if b=Qo then sE a em qI O3 S else .ok S O3):=by
     unfold sZ;rw[t_]
    rw[CB] at p;refine aa (xM hx (hg _ s3 uF H3 v u (λsX H4=>H4=H3/\ny X.K H3 (A::Qb) L qI sX/\∀j,j∉c.g.slots->sX[j]?=uF[j]?) I3' r3 (Tg.ok2 c.g (JP.ext x3) d3 t_ λsX e4 k4=>⟨rfl,e4,k4⟩)) λ_ s4 ⟨sX,H4,I4,e4,Di,k4⟩=>?_);subst e4;have l4:sX.length=a_.length:=by rw[I4.len,<- I3.len,l1]
    have IV:∀j,j∉pj (c::a)->sX[j]?=a_[j]?:=λj hj=>by
     rw[k4 j λz=>hj<|cr _ z];exact k1 j hj
    have nA:A∉L:=λm=>c1.nh A m 'k';have Z7:=x1.trans x3.ea;have g3:=co.keep g1 nA x3
    -- behind the step: the next turn
    have E:∀{Y}{M}{h:Hp}{N}{l:Ow}{y:List D},L2.Inv X (Qc++Bo fp s3.heap) M h Y->Ea A H μ h N->nu X.K h (A::Qb) N l->C.G X.K X.prog X.w A Qb h N y->M.length=a_.length->
      (∀i,i∉pj (c::a)->M[i]?=a_[i]?)->vo X C A Qb Qc a_ H μ (pj<|c::a) (qm src (sZ c a em σ) f (i+1) l y) Q->∃m,m<f+1/\P m Y:=by
     intro Y M h N l y I' x' c' g' l' k' p';refine⟨f,cj f,i+1,M,h,N,l,y,I'.unpinned,T.keep _ _ _ o5 λb x o e=>(I'.pin (b,o)<|ax _ (ax _<|EU x e)).1,λb x=>?_,x',c',g',l',k',p'⟩;obtain⟨o,e,d⟩:=T.obj _ _ o5 b x;exact(I'.pin (b,o)<|ax _ (ax _<|EU x e)).2.1
    cases tD:tV c.ifs qI O1 with
    |exc c' l=>rw[tD] at p;exact p.elim
    |bad=>rw[tD] at p;exact p.elim
    | ok b O3=>
     rw[tD] at p;have q3:vo X C A Qb Qc a_ H μ (pj<|c::a) ((if b=Qo then sE a em qI O3 S else .ok S O3).bnd λy l=>qm src (sZ c a em σ) f (i+1) l y) Q:=p;refine aa<|NG hx hf _ s4 sX H4 L qI O1 _ I4 Di c3 ?_;rw[tD];intro b' H5 xq x5 c5 eb s5 I5;subst eb;have g5:=co.keep g3 nA x5;have Iy:=Z7.trans x5.ea;cases b with
     | false=>
      exact ak ⟨rfl,E I5 Iy c5 g5 l4 IV q3⟩
     | true=>
      refine aa<|x _ s5 sX H5 xq qI O3 S _ _ (hZ _ _ _ _ _ _ z0 IV Iy) ⟨I5,Di.ext x5,c5,g5⟩ ?_;cases o6:sE a em qI O3 S with
      |exc c' l=>rw[o6] at q3;exact q3.elim
      |bad=>rw[o6] at q3;exact q3.elim
      | ok acc6 O6=>
       rw[o6] at q3;intro s6 QW H6 Dy I6 x6 c6 g6 l6 k6;refine ak ⟨rfl,E I6 (Iy.trans x6) c6 g6 (l6.trans l4) (λj hj=>?_) q3⟩;rw[k6 j λz=>hj<|ax _ z];exact IV j hj
end
end
end DL
namespace DL
open PySem L2
section
variable{X:Cx}{C:uI}{A:af}{gens:List cD}{scope:cC}{pos:Pos}
def Nc(a:yv C)(b:gens[k]?=Qg ⟨tg,iter,ifs,0⟩)(T:vi X.prog X.w X.K tg J fp it tn)(i)(c:tn i s.heap)
  (h:codeAny (aq X.prog X.w) X.A (.compLoop (C.ex gens scope pos) k (.ref it) Qm env) P s):
  codeAny (aq X.prog X.w) X.A (.compStart (C.ex gens scope pos) k (.ref it) Qm env) P s:=by
 refine jS ?_;rw[a.u2,a.d2];refine wpAny_notedAt ?_;unfold compStart;have d:clausesOf (C.ex gens scope pos)=gens:=a.cl _ _ _;simp only[d,b,Option.elim,bne_self_eq_false,cU,if_false];refine aa (ef<|wpAny_ite ?_);split
 .exact ak<|eB (a.q1 _ _ _ _ _ _ _) h
 .refine aa<|dh ?_;exact aa<|eH (aa<|T.self _ i s _ _ c (ak<|eB (a.q1 _ _ _ _ _ _ _) h))
theorem Mo(p:yv C)(t:X.xe=λ_ _=>False)(Y:X.calm=Qo){sl:qB}(L:∀(u w)d b i l,Z u d b->(∀j,j∉sl->w[j]?=u[j]?)->Ea A d b i l->Z w i l)(he:∀k,gens[k]?=Qn->xb X Z C A Qb (C.ex gens scope pos) gens em k []):∀{rest}{cls},nQ X rest cls->(∀j∈pj cls,j∈sl)->∀k,gens.drop k=rest->xb X Z C A Qb (C.ex gens scope pos) gens em k cls
 | _,_,.nil,_,k,hd=>he k (by
   have:=congrArg j5 hd;simp at this;exact ba.mpr 'd')
 | ⟨tg,iter,ifs,_⟩::gs,c::cs,.cons hi hs hg hf r,Fs,k,hd=>by
  have M:gens[k]?=Qg ⟨tg,iter,ifs,0⟩:=by
   have:(gens.drop k)[0]?=Qg ⟨tg,iter,ifs,0⟩:=by rw[hd];rfl
   simpa using this
  have AO:gens.drop (k+1)=gs:=by
   have:=congrArg (List.drop 1) hd;simpa [dO,Nat.add_comm] using this
  have hb:=Mo p t Y L he r (λj m=>Fs j<|ax _ m) (k+1) AO;have hn:gens[k+1]?=Qn \/ ∃yC qY tj,gens[k+1]?=Qg ⟨yC,qY,tj,0⟩:=by
   have e:gens[k+1]?=gs[0]?:=by rw[<- AO];simp
   cases r with
   |nil=>exact .inl (by rw[e];rfl)
   |cons _ _ _ _ _=>exact .inr ⟨_,_,_,by rw[e];rfl⟩
  intro a s N H y o O h Q E z B q;unfold xC;rw[M];simp only[bne_self_eq_false,cU,if_false];cases g:c.it o O with
  |exc P O'=>unfold sE at q;rw[g] at q;exact q.elim
  |bad=>unfold sE at q;rw[g] at q;exact q.elim
  | ok src O1=>
   have n:vo X C A Qb a N H y (pj<|c::cs) (qm src (sZ c cs em o) (src.size O1) 0 O1 h) Q:=by
    have:=q;unfold sE at this;rw[g] at this;exact this
   refine aa (xM t (hi.out a s N H (λJ d=>∃b,Ext H y d b/\nu X.K d (A::Qb) b O1/\nH X.K J src d (A::Qb) b) B.inv ⟨A::Qb,y,o,O,B.env,B.cells,by rw[g];exact λJ d b x c S=>⟨b,x,c,S⟩⟩) λv s1 h1=>?_);refine aa<|eH ?_;refine aa<|j9 (hs v) ?_;refine aa<|bD (xM t h1 λCz s2 h2=>?_);obtain⟨it,fp,tn,J,i,e,I2,T,pC,f2,l,G,c2,S⟩:=h2;subst e;refine aa<|wpAny_runOwn ?_;show codeAny _ X.A _ _ _;have nA:A∉y:=λm=>B.cells.nh A m 'k';refine Nc p M T 0 pC ?_;refine dG (Mc p t Y M hg hf (λu w d b i l z1 k1 x1=>L u w d b i l z1 (λj hj=>k1 j λm=>hj<|Fs j m) x1) hb hn T a s2 N i l o O1 h (src.size O1) (λI=>Q I) pC f2 S (L _ _ _ _ _ _ z (λ_ _=>rfl) G.ea) ⟨I2,B.env.ext G,c2,p.keep B.grown nA G⟩ ?_) λr I hr=>?_
   .cases U:qm src (sZ c cs em o) (src.size O1) 0 O1 h with
    |exc P O'=>rw[U] at n;exact n.elim
    |bad=>rw[U] at n;exact n.elim
    | ok qg O'=>
     rw[U] at n;exact λI oW H' b_ I' x' P g' l' k'=>n I oW H' b_ I' (G.ea.trans x') P g' l' k'
   .obtain⟨f,rfl,hq⟩:=hr;exact ak hq
end
noncomputable def ph(X:Cx)(N':List ao)(scope:cC)(cells:List (ao×af))(C:af)(s:aj)(H:Hp)(fp:List af):Cx:=
 { X with
  N:=N',s₀:=s,H₀:=H
  env:={ scope:=relabel scope X.env,locals:=C,globals:=X.env.globals,cells:=cells,qual:=X.env.qual,func:=Qn,code:=X.env.code,frame:=X.env.frame,builtins:=X.env.builtins }
  outer:=X.stack,ex:=fp,fn:=λx=>scope.names.lookup x==Qg .cell,pn:=[],xe:=λ_ _=>False }
structure ui(sc scope:cC)(N':List ao)(sl:qB):Prop where
 kind:scope.kind=.function
 nd:(scope.names.map (·.1)).Nodup
 frees:∀y∈scope.names,y.2=.free->sc.names.lookup y.1=Qg .cell\/sc.names.lookup y.1=Qg .free
 own:∀(i)x,N'[i]?=Qg x->(x,NameKind.local)∈scope.names\/(x,cW)∈scope.names->i∈sl
theorem vt{β:Type}:∀{l:List (ao×β)}{x}{b:β},(l.map (·.1)).Nodup->(x,b)∈l->l.lookup x=Qg b
 |[],_,_,_,h=>by cases h
 | (y,c)::r,x,b,nd,h=>by
  obtain⟨a,d⟩:=cL.mp nd;rcases av.mp h with e|h
  .cases e;simp[dM]
  .have f:x≠y:=λe=>a<|bz.mpr ⟨(x,b),h,e⟩;rw[dM];have:(x==y)=Qp:=⇑f
   rw[this];exact vt d h
set_option tactic.hygienic true in
theorem Io(a:Env)(x):∀(names:List (ao×fK)),(names.map λ(n,k)=>if (k==cQ&&a.scope.kind == .function&&a.kindOf n==Qg .cell) then (n,cW) else (n,k)).lookup x =
  (names.lookup x).map λk=>if (k==cQ&&a.scope.kind == .function&&a.kindOf x==Qg .cell) then cW else k
 |[]=>rfl
 | (n,k)::r=>by
  show eu x ((if (k==cQ&&a.scope.kind == .function&&a.kindOf n==Qg .cell)=Qo then (n,cW) else (n,k))::_)=_;cases b:x==n with
  | true=>
   have e:x=n:=⇑b
   subst e;simp;split
   .rename_i h;simp[dM,h]
   .rename_i h;simp[dM,h]
  | false=>
   have c:=Io a x r;simp only[dM,b];rw[<- c];split<;>simp only[dM,b]
def OI(h:qu (relabel scope env) x):(x,NameKind.local)∈scope.names\/(x,cW)∈scope.names\/(x,cQ)∈scope.names:=by
 unfold qu relabel at h;simp only[Io] at h;cases e:scope.names.lookup x with
 |none=>rw[e] at h;simp at h
 | some k=>
  have m:=be e;cases k with
  | «local»=>exact .inl m
  |cell=>exact .inr<|.inl m
  |free=>exact .inr<|.inr m
  |_=>rw[e] at h;simp at h
noncomputable def qo(cells:List (ao×af)):List (ao×fK)->List (ao×af)->List (ao×af)
 |[],Qm=>Qm
 |(n,k)::r,Qm=>if k == .free then qo cells r ((n,(cells.lookup n).getD 0)::Qm) else qo cells r Qm
def Ib(h:∀y∈scope.names,y.2=.free->∃c,env.cells.lookup y.1=Qg c):closureFor scope env=pure (qo env.cells scope.names []):=by
 have f:∀(b)(d),(∀y∈b,y.2=.free->∃c,env.cells.lookup y.1=Qg c)->
   (forIn b d λ(x:ao×fK)(e:List (ao×af))=>(if x.2 == .free then (do let a <- cellOf env x.1;pure (fe<|(x.1,a)::e)) else pure (fe e):Sem _))=pure (qo env.cells b d):=by
  intro b
  induction b with
  |nil=>intro d _;rfl
  | cons y r ih=>
   intro d g;obtain⟨n,k⟩:=y;rw[jR];unfold qo;by_cases i:(k==cQ)=Qo
   .obtain⟨c,l⟩:=g (n,k) aL ⇑i;have o:cellOf env n=pure c:=by unfold cellOf;rw[l]
    simp only[i,if_true,o,pure_bind,l,Option.getD_some];exact ih _ λy j=>g y<|ar _ j
   .simp only[i,if_false,pure_bind,cU];exact ih _ λy j=>g y<|ar _ j
 have:=f scope.names [] h;refine Eq.trans ?_<|congrArg (λm=>m >>= λe=>pure e) this;congr 1
theorem BN:∀(names)(Qm:List (ao×af)),(x,c)∈qo cells names Qm->(x,c)∈Qm\/((x,cQ)∈names/\c=(cells.lookup x).getD 0)
 |[],Qm,h=>.inl h
 | (n,k)::r,Qm,h=>by
  unfold qo at h;by_cases a:(k==cQ)=Qo
  .rw[Qs a] at h;rcases BN r _ h with m|⟨m,e⟩
   .rcases av.mp m with m|m
    .cases m;have:k=.free:=⇑a
     subst this;exact .inr ⟨aL,rfl⟩
    .exact .inl m
   .exact .inr ⟨ar _ m,e⟩
  .rw[Qu a] at h;rcases BN r _ h with m|⟨m,e⟩
   .exact .inl m
   .exact .inr ⟨ar _ m,e⟩
theorem HF:∀(names)(Qm:List (ao×af)),p∈Qm->p∈qo cells names Qm
 |[],Qm,h=>h
 | (n,k)::r,Qm,h=>by
  unfold qo;split
  .exact HF r _<|ar _ h
  .exact HF r _ h
theorem BO:∀(names)(Qm:List (ao×af)),(x,cQ)∈names->(x,(cells.lookup x).getD 0)∈qo cells names Qm
 | (n,k)::r,Qm,h=>by
  unfold qo;rcases av.mp h with e|h
  .cases e;exact HF r _ aL
  .split
   .exact BO r _ h
   .exact BO r _ h
theorem Gv:∀(names)(n)(Qm),(x,c)∈bX n names Qm->(x,c)∈Qm\/((x,cW)∈names/\n<=c)
 |[],n,Qm,h=>.inl h
 | (y,k)::r,n,Qm,h=>by
  unfold bX at h;by_cases a:(k==cW)=Qo
  .rw[Qs a] at h;rcases Gv r _ _ h with m|⟨m,e⟩
   .rcases av.mp m with m|m
    .cases m;have:k=.cell:=⇑a
     subst this;exact .inr ⟨aL,ay _⟩
    .exact .inl m
   .exact .inr ⟨ar _ m,lU e⟩
  .rw[Qu a] at h;rcases Gv r _ _ h with m|⟨m,e⟩
   .exact .inl m
   .exact .inr ⟨ar _ m,e⟩
theorem GH:∀(names)(n)(Qm),p∈Qm->p∈bX n names Qm
 |[],_,_,h=>h
 | (y,k)::r,n,Qm,h=>by
  unfold bX;split
  .exact GH r _ _<|ar _ h
  .exact GH r _ _ h
theorem Hj:∀(names)(n:Nat)(Qm:List (ao×af)),(Qm.Pairwise λx y=>x.2≠y.2)->(∀p∈Qm,p.2<n)->(bX n names Qm).Pairwise λx y=>x.2≠y.2
 |[],_,_,h,_=>h
 | (y,k)::r,n,Qm,h,hl=>by
  unfold bX;split
  .refine Hj r (n+1) _ (bG.mpr ⟨λp hp=>?_,h⟩) λp hp=>?_
   .exact λe=>absurd (hl p hp) (by show ¬ p.2<n;rw[<- e];exact bV _)
   .rcases av.mp hp with rfl|hp
    .exact cj _
    .exact c8<|hl p hp
  .exact Hj r n Qm h hl
theorem Hd:∀(names)(n)(Qm),((names.map (·.1)).Nodup)->(Qm.map (·.1)).Nodup->(∀p∈Qm,∀k,(p.1,k)∈names->k≠cW)->((bX n names Qm).map (·.1)).Nodup
 |[],_,_,_,h,_=>h
 | (y,k)::r,n,Qm,nd,h,hl=>by
  obtain⟨f,d⟩:=cL.mp nd;unfold bX;by_cases c:(k==cW)=Qo
  .rw[Qs c];have g:k=.cell:=⇑c
   refine Hd r (n+1) _ d (cL.mpr ⟨λm=>?_,h⟩) λp hp a b=>?_
   .obtain⟨p,hp,e⟩:=bz.mp m;exact hl p hp k (by rw[e];exact aL) g
   .rcases av.mp hp with rfl|hp
    .exact absurd (bz.mpr ⟨(y,a),b,rfl⟩) f
    .exact hl p hp a<|ar _ b
  .rw[Qu c];exact Hd r n Qm d h λp hp a b=>hl p hp a<|ar _ b
theorem BM:∀(names)(Qm:List (ao×af)),((names.map (·.1)).Nodup)->(Qm.map (·.1)).Nodup->(∀p∈Qm,p.1∉names.map (·.1))->((qo cells names Qm).map (·.1)).Nodup
 |[],_,_,h,_=>h
 | (y,k)::r,Qm,nd,h,hl=>by
  obtain⟨b,a⟩:=cL.mp nd;unfold qo;split
  .refine BM r _ a (cL.mpr ⟨λm=>?_,h⟩) λp hp=>?_
   .obtain⟨p,hp,e⟩:=bz.mp m;exact hl p hp (by rw[e];simp)
   .rcases av.mp hp with rfl|hp
    .exact b
    .exact λm=>hl p hp<|ar _ m
  .exact BM r Qm a h λp hp m=>hl p hp<|ar _ m
theorem GZ:∀(names)(h)(Qm),(x,c)∈bX h.objs.size names Qm->(x,c)∈Qm\/(lH h names).IsCell c Qn
 |[],_,_,m=>.inl m
 | (y,k)::r,h,Qm,m=>by
  unfold bX at m;unfold lH;by_cases a:(k==cW)=Qo
  .rw[Qs a] at m ⊢;have e:h.objs.size+1=(h.push { cls:=.type "cell",data:=.cell Qn }).objs.size:=(cB ..).symm;rw[e] at m;rcases GZ r _ _ m with m|m
   .rcases av.mp m with m|m
    .cases m;exact .inr ⟨_,ir _ _ _ _<|aA _ rfl,rfl⟩
    .exact .inl m
   .exact .inr m
  .rw[Qu a] at m ⊢;exact GZ r _ _ m
def YS{l:List (ao×af)}(f:(l.map (·.1)).Nodup)(c:∀p∈l,∀q∈l,p.2=q.2->p.1=q.1):l.Pairwise λx y=>x.2≠y.2:=by
 induction l with
 |nil=>exact .nil
 | cons p r ih=>
  obtain⟨g,h⟩:=cL.mp f;refine bG.mpr ⟨λq d e=>g ?_,ih h λa i b j=>c a (ar _ i) b<|ar _ j⟩;exact bz.mpr ⟨q,d,(c p aL q (ar _ d) e).symm⟩
abbrev Bp:Obj:={ cls:=.type "dict",data:=.dict #[] }
section
abbrev D4(ob:Obj)(h:aJ)(names:List (ao×fK)):aJ:=lH ((h.push ob).push Bp) names
def OO(ob)(h)(names)(b)(o)(e:h.get? b=Qg o):(D4 ob h names).get? b=Qg o:=ir _ _ _ _ (ai _<|ai _ e)
def RH(ob)(h:aJ):((h.push ob).push Bp).objs.size=h.objs.size+2:=by rw[cB,cB]
set_option tactic.hygienic true in
def WU{scope}{ext}{sl}{G:List af}(I:L2.Inv X Qc a_ H s)(B:∀b∈G,qV X Qc H b)(S:∀b∈G,b<s.heap.objs.size)(g:ui X.env.scope scope (X.N++ext) sl){ob}{u:HO}(tP:ob.isFreed=Qp)(rg:∀h:aJ,h.get? s.heap.objs.size=Qg ob->nN X.prog X.w (upd H s.heap.objs.size u) h s.heap.objs.size u):
  L2.Inv (ph X (X.N++ext) scope (bX (s.heap.objs.size+2) scope.names<|qo X.env.cells scope.names []) (s.heap.objs.size+1) s H G) [] (qe (a_++aN ext.length Qn) sl)
   (upd H s.heap.objs.size u) { s with heap:=D4 ob s.heap scope.names }:=by
 have T:∀x c,X.env.cells.lookup x=Qg c->c<s.heap.objs.size:=λx c e=>by
  obtain⟨v,z⟩:=I.cell x c e;exact z.lt
 -- a free name of the block has f_ cell around
 have U:∀x,(x,cQ)∈scope.names->∃c,X.env.cells.lookup x=Qg c:=λx f=>I.ok.has x<|g.frees _ f rfl;have t:∀x c,(x,c)∈qo X.env.cells scope.names []->(x,cQ)∈scope.names/\X.env.cells.lookup x=Qg c:=λx c hm=>by
  rcases BN _ _ hm with m|⟨m,e⟩
  .cases m
  .obtain⟨c',Y⟩:=U x m;rw[Y] at e;exact⟨m,by rw[e];exact Y⟩
 have J:∀x,(x,cQ)∈scope.names->∀c,X.env.cells.lookup x=Qg c->(x,c)∈qo X.env.cells scope.names []:=λx f c e=>by
  have:=BO (cells:=X.env.cells) scope.names [] f;rw[e] at this;exact this
 have Z:((qo X.env.cells scope.names []).map (·.1)).Nodup:=BM _ _ g.nd 'k' (by intro p l;cases l);have L:((bX (s.heap.objs.size+2) scope.names<|qo X.env.cells scope.names []).map (·.1)).Nodup:=Hd _ _ _ g.nd Z λp l k hk e=>by
  subst e;have j:=(t p.1 p.2 l).1;have:=vt g.nd j;rw[vt g.nd hk] at this;cases this
 have r:(bX (s.heap.objs.size+2) scope.names<|qo X.env.cells scope.names []).Pairwise λx y=>x.2≠y.2:=by
  refine Hj _ _ _ (YS Z λp l q hq e=>?_) λp l=>aV (T _ _ (t p.1 p.2 l).2)<|fL _ _;refine I.ok.inj p.1 q.1 p.2 (t p.1 p.2 l).2 ?_;rw[e];exact(t q.1 q.2 hq).2
 have M:∀x c,(bX (s.heap.objs.size+2) scope.names<|qo X.env.cells scope.names []).lookup x=Qg c->((x,cQ)∈scope.names/\X.env.cells.lookup x=Qg c)\/((x,cW)∈scope.names/\s.heap.objs.size+2<=c):=λx c e=>by
  rcases Gv _ _ _ (be e) with m|m
  .exact .inl<|t x c m
  .exact .inr m
 have d:∀a,s.heap.objs.size<=a->H a=Qn:=λa ha=>I.hok.fresh ha;have C:=OO ob s.heap scope.names;have Cc:∀x,(x,cQ)∈scope.names->∀c,X.env.cells.lookup x=Qg c->(bX (s.heap.objs.size+2) scope.names<|qo X.env.cells scope.names []).lookup x=Qg c:=λx f c e=>
  vt L (GH _ _ _<|J x f c e)
 refine⟨⟨I.ok.mod,g.kind,I.ok.glob,I.ok.blt,dH _,λx y c j O=>name_of_addr r (be j)<|be O,λx f=>?_,λx c f h=>?_,I.ok.hd,I.ok.frames,.inl rfl,λb n=>⟨?_,λx c e=>?_⟩,I.bs,?_,λb o e n=>?_,λb n z=>?_,I.stack,I.stkFree⟩,
  rfl,I.bare,Un.laid C (ay _) (d _<|ay _),?_,λx c e=>?_,?_,λx c e=>?_,λp l=>absurd (show p∈([]:List (af×Obj)) from l) 'k',I.hok.laid C (ay _) ?_,?_,I.tk⟩
 ·-- has
  have f:qu (relabel scope X.env) x:=.inr f;rcases OI f with m|m|m
  .exfalso;have e:=vt g.nd m;have e2:(relabel scope X.env).names.lookup x=Qg .local:=lookup_relabel_local e;rcases (show(relabel scope X.env).names.lookup x=Qg .cell\/(relabel scope X.env).names.lookup x=Qg .free by rename_i P;exact P) with q|q
   .rw[e2] at q;cases q
   .rw[e2] at q;cases q
  .exact gd.mp<|fk scope.names _ _ (.inl<|vt g.nd m)
  .obtain⟨c,Q⟩:=U x m;exact⟨c,Cc x m c Q⟩
 ·-- cab
  have f:(scope.names.lookup x==Qg .cell)=Qo:=f;rcases M x c h with⟨m,_⟩|⟨_,m⟩
  .rw[vt g.nd m] at f;cases f
  .exact aP (fL _ _) m
 .exact bb (c8<|S b n)
 .rcases M x c e with⟨_,m⟩|⟨_,m⟩
  .exact(B b n).2.2.2.2.1 x c m
  .have P:=S b n;exact λz=>by
    rw[z] at m;exact absurd (aV P<|aP (fL _ 2) m)<|bV _
 .exact aP I.ok.bsz I.sz
 .rcases (B b n).2.2.2.1 with z|z
  .exact I.ok.noex b o e z
  .exact absurd (aV (aC e)<|aP I.ok.bsz z)<|bV _
 .rcases av.mp (I.stkSub b z) with q|q
  .exact(B b n).2.1 q
  .exact(B b n).2.2.1 q
 ·-- loc
  refine⟨λ_=>Qn,?_,λi x v j O h3=>?_⟩
  .have z:=(Heap.Ns.new (s.heap.push ob)<|.type "dict").keeps<|ir scope.names _;rw[cB] at z;exact z
  .obtain⟨A,g2⟩:=ED _ _ _ _ O;have E:i<a_.length:=by
    by_cases E:i<a_.length
    .exact E
    .rw[bh 'd',d7] at A;split at A<;>cases A
   rw[aD E] at A;have xR:X.N[i]?=Qg x:=by
    have j:(X.N++ext)[i]?=Qg x:=j;rw[aD (by rw[<- I.len];exact E)] at j;exact j
   rcases OI h3 with m|m|m
   .exact absurd (g.own i x j<|.inl m) g2
   .exact absurd (g.own i x j<|.inr m) g2
   .obtain⟨m0,hn,hl⟩:=I.loc;have kx:=g.frees _ m rfl;obtain⟨u,ru,lk⟩:=hl i x v xR A<|.inr kx;refine⟨u,ru,?_⟩;rcases lk with⟨q,_⟩|⟨q,c,Q,z⟩
    .exfalso;have q:X.env.scope.names.lookup x=Qg .local:=q;rcases kx with k|k<;>(rw[q] at k;cases k)
    .refine .inr ⟨?_,c,Cc x m c Q,z.keeps C⟩;have e:=vt g.nd m;show(relabel scope X.env).names.lookup x=Qg .cell\/(relabel scope X.env).names.lookup x=Qg .free;unfold relabel;simp only[Io,e,Option.map_some];split
     .exact .inl rfl
     .exact .inr rfl
 ·-- cell
  rcases GZ scope.names ((s.heap.push ob).push Bp) (qo X.env.cells scope.names []) (by rw[RH];exact be e) with m|m
  .obtain⟨v,z⟩:=I.cell x c (t x c m).2;exact⟨v,z.keeps C⟩
  .exact⟨Qn,m⟩
 .show upd H s.heap.objs.size u (s.heap.objs.size+1)=Qn;rw[oN (dQ<|cj _)];exact d _<|dH _
 .rcases M x c e with⟨_,m⟩|⟨_,m⟩
  .rw[oN (bb<|T x c m)];exact I.freeC x c m
  .have ne:c≠s.heap.objs.size:=λz=>by
    rw[z] at m;exact absurd m 'd'
   rw[oN ne];exact d c<|aP (fL _ 2) m
 .exact rg _<|ir _ _ _ _ (ai _<|aA _ tP)
 .show _=(X.N++ext).length;rw[BA,aI,kn,aI,I.len]
end
def yE{α:Type}:R α->R α
 |.ok a O=>.ok a O
 |_=>.bad
def xf(ext:Nat)(oR:DI)(g:Tg)(ts:List DT)(cs:List Cl)(em:Em):Sg->Ow->R (List D):=λσ O=>(oR σ O).bnd λsrc O1=>
 yE (qm src (sZ ⟨oR,g,ts⟩ cs em (qe (σ++aN ext Qn) (pj<|⟨oR,g,ts⟩::cs))) (src.size O1) 0 O1 [])
def An(ext:Nat)(oR:DI)(g:Tg)(ts:List DT)(cs:List Cl)(te:DE):Sg->Ow->R (List D):=λσ O=>(oR σ O).bnd λsrc O1=>
 yE (qm src (yW ⟨oR,g,ts⟩ cs te (qe (σ++aN ext Qn) (pj<|⟨oR,g,ts⟩::cs))) (src.size O1) 0 O1 [])
def HG(ext)(a:DI)(g)(ts)(cs)(te):xf ext a g ts cs (yd te)=An ext a g ts cs te:=by funext σ O;unfold xf An;rw[Vf]
def ZB(a_:St)(n:Nat)(sl:qB)(A:af)(H0:Hp):St->Hp->List af->Prop:=λσ H μ=>(∀j,j∉sl->σ[j]?=(a_++aN n Qn)[j]?)/\H0 A=Qn/\∃Dz o,Ea A (upd H0 A o) Dz H μ/\∀a∈Dz,∃vs,H0 a=Qg (.lst vs)
section
def Yc
  (h:Q { scope,locals:=s.heap.objs.size,globals,cells:=bX (s.heap.objs.size+1) scope.names cl,qual,func:=Qn,code:=env.code,frame:=env.frame,builtins:=env.builtins } { s with heap:=lH (s.heap.push Bp) scope.names }):
  am M A (newFunctionEnv scope globals cl [] qual Qn .none<|Qg env) Q E s:=by simp only[newFunctionEnv,lG,if_true];refine aa<|wpAny_alloc ?_;refine aa<|wpAny_layCells _ (λc a cells=>by cases b:a==cW<;>simp[b]) _ _ _ _ ?_;rw[show({ s with heap:=s.heap.push Bp }:aj).heap.objs.size=s.heap.objs.size+1 from cB ..];simp only[List.forIn_nil,pure_bind];exact ak h
structure LA(X:Cx)(C:uI)(Qc:List (af×Obj))(a_:St)(H:Hp)(Qb μ:List af)(L Cn:af)(Qm:List D)(O:Ow)(s':aj):Prop where
 inv:∃H' b_,L2.Inv X Qc a_ H' s'/\Ext H μ H' b_/\nu X.K H' (L::Qb) b_ O/\H L=Qn/\H' Cn=Qn/\C.G X.K X.prog X.w L Qb H' b_ Qm
 ns:∃m,s'.heap.Ns Cn m
 loc:Cn≠X.env.locals
 young:X.s₀.heap.objs.size<=Cn
 cel:∀x c,X.env.cells.lookup x=Qg c->c≠Cn
 pns:∀p∈X.pn++Qc,p.1≠Cn
def Inv.bare{Qc}{h:St}{H}{s'}{C}{h'}(I:L2.Inv X Qc h H s')(i:cn C s'.heap h')(j:H C=Qn)(d:C≠X.env.locals)(a:X.s₀.heap.objs.size<=C)(f:∀x c,X.env.cells.lookup x=Qg c->c≠C)
  (g:∀p∈X.pn++Qc,p.1≠C):L2.Inv X Qc h H { s' with heap:=h' }:=I.turned (λb o k e=>(i.2 b k).trans e) j d (.inr a) f g
def XN(co:yv C)
  {it} {u:List af} {tn} {J:It} {RR:ae->af->Result->aj->Prop}
  (m_:X.calm=Qo) (hb:ui X.env.scope scope (X.N++ext) (pj<|⟨oR,g,ts⟩::cs))
  (qO:∀cells Cn,PG (ph X (X.N++ext) scope cells Cn s H u) tg (g.rd X.K)/\bP (λe t=>pO (ph X (X.N++ext) scope cells Cn s H u) pe e t) ifs ts/\nQ (ph X (X.N++ext) scope cells Cn s H u) gs cs/\∀A Qb k,(⟨tg,iter,ifs,0⟩::gs:List cD)[k]?=Qn->xb (ph X (X.N++ext) scope cells Cn s H u) (ZB a_ ext.length (pj<|⟨oR,g,ts⟩::cs) A H) C A Qb (C.ex (⟨tg,iter,ifs,0⟩::gs) scope pos) (⟨tg,iter,ifs,0⟩::gs) em k [])
  (I:L2.Inv X Qc a_ H s) (e1:ny X.K H Qb μ σ a_) (S:nu X.K H Qb μ O) (T:vi X.prog X.w X.K tg J u it tn) (st:tn 0 s.heap) (vO:∀b∈u,qV X Qc H b) (sa:nH X.K J src H Qb μ)
  (hw:qm src (sZ ⟨oR,g,ts⟩ cs em (qe (σ++aN ext.length Qn) (pj<|⟨oR,g,ts⟩::cs))) (src.size O) 0 O []=.ok Qm O2)
  (hRR:∀f B,LA X C Qc a_ H Qb μ s.heap.objs.size (s.heap.objs.size+1) Qm O2 B->RR (.ref s.heap.objs.size) (s.heap.objs.size+1) (.ok f) B):
  am (aq X.prog X.w) X.A C.new (λac uN=>am (aq X.prog X.w) X.A (newFunctionEnv scope X.env.globals (qo X.env.cells scope.names []) [] X.env.qual Qn .none<|Qg X.env) (λDq IA=>
   codeAny (aq X.prog X.w) X.A (.compStart (C.ex (⟨tg,iter,ifs,0⟩::gs) scope pos) 0 (.ref it) ac { Dq with scope:=relabel scope X.env }) (RR ac Dq.locals) IA) E uN) E s:=by
 refine co.new λL tP rg=>?_;refine Yc ?_;have pd:(s.heap.push L).objs.size=s.heap.objs.size+1:=cB ..;have qt:∀b∈u,b<s.heap.objs.size:=λb hb=>by
  obtain⟨o,ho,_⟩:=T.obj 0 _ st b hb;exact aC ho
 have IB:=WU I vO qt hb tP (λh=>rg H h _ I.big);have G:H s.heap.objs.size=Qn:=I.hok.fresh<|ay _;have pQ:∀b∈u,b≠s.heap.objs.size:=λb hb=>bb<|qt b hb;obtain⟨b1,b2,b3,b4⟩:=qO (bX (s.heap.objs.size+2) scope.names<|qo X.env.cells scope.names [])<|s.heap.objs.size+1;generalize l:ph X (X.N++ext) scope (bX (s.heap.objs.size+2) scope.names<|qo X.env.cells scope.names []) (s.heap.objs.size+1) s H u=y at IB b1 b2 b3 b4;have eP:y.prog=X.prog:=by rw[<- l];rfl
 have eW:y.w=X.w:=by rw[<- l];rfl
 have M:y.K=X.K:=by rw[<- l];rfl
 have eA:y.A=X.A:=by rw[<- l];rfl
 have ex:y.xe=λ_ _=>False:=by rw[<- l];rfl
 have ec:y.calm=Qo:=by rw[<- l];exact m_
 have zI:y.env={ scope:=relabel scope X.env,locals:=s.heap.objs.size+1,globals:=X.env.globals,cells:=bX (s.heap.objs.size+2) scope.names<|qo X.env.cells scope.names [],qual:=X.env.qual,func:=Qn,code:=X.env.code,frame:=X.env.frame,builtins:=X.env.builtins }:=by rw[<- l];rfl
 have Dk:({ ({ scope,locals:=(s.heap.push L).objs.size,globals:=X.env.globals,cells:=bX ((s.heap.push L).objs.size+1) scope.names<|qo X.env.cells scope.names [],qual:=X.env.qual,func:=Qn,code:=X.env.code,frame:=X.env.frame,builtins:=X.env.builtins }:Env) with scope:=relabel scope X.env }:Env)=y.env:=by
  rw[zI,pd]
 show codeAny _ _ (.compStart _ 0 _ _ ({ ({ scope,locals:=(s.heap.push L).objs.size,globals:=X.env.globals,cells:=bX ((s.heap.push L).objs.size+1) scope.names<|qo X.env.cells scope.names [],qual:=X.env.qual,func:=Qn,code:=X.env.code,frame:=X.env.frame,builtins:=X.env.builtins }:Env) with scope:=relabel scope X.env }:Env)) (RR _ (s.heap.push L).objs.size) _;rw[Dk,pd];have IK:Mv H Qb μ (upd H s.heap.objs.size<|C.ho X.prog X.w s.heap.objs.size) (s.heap.objs.size::Qb) μ:=(Mv.hide G).trans ⟨⟨[],by simp⟩,λb o h _ n2 _=>by rw[oN (λz=>n2 (by simp[z]))];exact h,λ_ m=>.inl m,λ_ m=>.inl m,vb,λ_ t=>t.upd<|.inl G⟩;have c2:nu X.K (upd H s.heap.objs.size<|C.ho X.prog X.w s.heap.objs.size) (s.heap.objs.size::Qb) μ O:=by
  refine⟨S.len,S.nd,λa m z=>?_,λa m=>?_,λk a e=>?_⟩
  .rcases av.mp z with rfl|z
   .exact(S.not_in G).2 m
   .exact S.nh a m z
  .rcases av.mp m with rfl|m
   .rw[pK];simp
   .exact vb a<|S.ht a m
  .obtain⟨ds,vs,Y,Z,h3⟩:=S.at_ k a e;exact⟨ds,vs,Y,by rw[oN<|qS Z G];exact Z,h3.mv IK⟩
 have e2:ny X.K (upd H s.heap.objs.size<|C.ho X.prog X.w s.heap.objs.size) (s.heap.objs.size::Qb) μ (qe (σ++aN ext.length Qn) (pj<|⟨oR,g,ts⟩::cs)) (qe (a_++aN ext.length Qn) (pj<|⟨oR,g,ts⟩::cs)):=by
  refine⟨by rw[BA,BA,aI,aI,e1.len];simp,λi d h=>?_⟩;obtain⟨g1,g2⟩:=ED _ _ _ _ h;have hi:i<σ.length:=by
   by_cases hi:i<σ.length
   .exact hi
   .rw[bh 'd',d7] at g1;split at g1<;>cases g1
  rw[aD hi] at g1;obtain⟨v,Y,Z⟩:=e1.at_ i d g1;exact⟨v,by rw[G5 _ _ _ g2,aD (by rw[<- e1.len];exact hi)];exact Y,Z.mv IK⟩
 have Jz:∀b∈u,qV y [] (upd H s.heap.objs.size<|C.ho X.prog X.w s.heap.objs.size) b:=λb Q=>by
  obtain⟨f0,f1,f2,f3,f4,f5⟩:=vO b Q;have Y:=IB.ok.exf;refine⟨by rw[oN<|pQ b Q];exact f0,?_,?_,.inl ?_,?_,?_⟩
  .exact(Y b (by rw[<- l];exact Q)).1
  .rw[<- l];exact λz=>IB.ok.exfs b (by rw[<- l];exact Q) (by rw[<- l];exact z)
  .rw[<- l];exact Q
  .exact(Y b (by rw[<- l];exact Q)).2
  .rw[<- l];exact λp hp=>absurd (show p∈([]:List (af×Obj)) from hp) 'k'
 have d_:tn 0 (D4 L s.heap scope.names):=T.keep _ _ _ st λb _ o e=>OO _ _ _ _ _ e;have T':vi y.prog y.w y.K tg J u it tn:=by rw[eP,eW,M];exact T
 have Qt:∀(pJ qQ)H1 c_ H2 n_,ZB a_ ext.length (pj<|⟨oR,g,ts⟩::cs) s.heap.objs.size H pJ H1 c_->(∀j,j∉pj (⟨oR,g,ts⟩::cs)->qQ[j]?=pJ[j]?)->Ea s.heap.objs.size H1 c_ H2 n_->ZB a_ ext.length (pj<|⟨oR,g,ts⟩::cs) s.heap.objs.size H qQ H2 n_:=
  λpJ qQ H1 c_ H2 n_ ⟨z1,z2,Dz,o,z3,z4⟩ k1 x1=>⟨λj hj=>(k1 j hj).trans<|z1 j hj,z2,Dz,o,z3.trans x1,z4⟩
 have key:=Mc co ex ec rfl (by rw[M];exact b1) b2 Qt (Mo co ex ec Qt (b4 _ _) b3 (λj m=>ax _ m) 1 rfl) (by
   cases b3 with
   |nil=>exact .inl rfl
   |cons _ _ _ _ _=>exact .inr ⟨_,_,_,rfl⟩) T' [] { s with heap:=D4 L s.heap scope.names } (qe (a_++aN ext.length Qn) (pj<|⟨oR,g,ts⟩::cs)) (upd H s.heap.objs.size<|C.ho X.prog X.w s.heap.objs.size) μ (qe (σ++aN ext.length Qn) (pj<|⟨oR,g,ts⟩::cs)) O [] (src.size O)
   (λB=>LA X C Qc a_ H Qb μ s.heap.objs.size (s.heap.objs.size+1) Qm O2 B) d_ Jz (by rw[M];exact sa.mv IK) ⟨λj hj=>G5 _ _ _ hj,G,μ,_,.refl,λa m=>by
    obtain⟨k,e⟩:=List.getElem?_of_mem m;obtain⟨_,vs,_,Z,_⟩:=S.at_ k a e;exact⟨vs,Z⟩⟩ ⟨IB,by rw[M];exact e2,by rw[M];exact c2,by rw[M,eP,eW];exact co.g0⟩ ?_
 .have Cy:=Nc co rfl T' 0 d_ key;rw[eP,eW,eA] at Cy;exact dG Cy λr B ⟨f,hr,q⟩=>by subst hr;exact hRR f B q
 .rw[hw];intro B oW H' b_ I' x' c' g' l' k';rw[M] at c';rw[M,eP,eW] at g';have xe:Ext H μ H' b_:=⟨x'.pre,λb o h n ht=>x'.kept b o (by rw[oN<|qS h G];exact h) n (qS h G) ht,λb m=>(x'.fresh b m).imp id λz=>by
   by_cases q:b=s.heap.objs.size
   .rw[q];exact G
   .rw[oN q] at z;exact z,λb h=>x'.there b<|vb b h,λP t=>x'.tab P (t.upd<|.inl G)⟩
  have un:Un (qf X.stack) u H H' s.heap B.heap:=by
   have:=I'.base;rw[<- l] at this;exact this
  have os:B.os=s.os:=by
   have:=I'.os;rw[<- l] at this;exact this
  have hok:HOk X.prog X.w H' B.heap:=by
   have:=I'.hok;rw[eP,eW] at this;exact this
  have IX:L2.Inv X Qc a_ H' B:=I.call' os un hok I'.bare λb Q=>by
   obtain⟨f0,f1,f2,f3,f4,f5⟩:=vO b Q;exact⟨f3,f1,f4,f5⟩
  have U:∀b,b<s.heap.objs.size->b≠s.heap.objs.size+1:=λb h=>bb<|c8 h;refine⟨⟨H',b_,IX,xe,c',G,?_,g'⟩,?_,?_,?_,λx c e=>?_,λp hp=>?_⟩
  .have:=I'.free;rw[zI] at this;exact this
  .obtain⟨m,hn,_⟩:=I'.loc;rw[zI] at hn;exact⟨m,hn⟩
  .exact(U _ I.lt).symm
  .exact aP I.sz<|dH _
  .obtain⟨v,z⟩:=I.cell x c e;exact U _ z.lt
  .exact U _<|aC (I.pin p hp).1
end
section
def S_{α:Type}{r:R α}{a:α}{O}(h:yE r=.ok a O):r=.ok a O:=by
 cases r with
 |ok _ _=>exact h
 |exc _ _=>cases h
 |bad=>cases h
def UR{α:Type}{r:R α}{c}{O}(h:yE r=.exc c O):False:=by cases r<;>cases h
def Bn(C:uI)(Ex:Nat->Hp->Prop)(K:ag)(P:aE)(w:aG)(H:Hp)(Qb μ:List af)(r:R (List D))(Q:af->Hp->Prop):Prop:=match r with
 |.ok Qm O'=>∀L H' b_,H L=Qn->Ext H μ H' b_->nu K H' (L::Qb) b_ O'->C.G K P w L Qb H' b_ Qm->Q L H'
 |.exc c O'=>∀H' b_,Ext H μ H' b_->nu K H' Qb b_ O'->Ex c H'
 |.bad=>False
def Ext.none{H H'}{μ b_}(e:Ext H μ H' b_){L}(h:H' L=iS):H L=iS:=by
 cases q:H L with
 |none=>rfl
 |some o=>exact absurd h (e.there L (by rw[q];simp))
def BD{C}(co:yv C){em}{tg iter}{ifs}{gs}{scope}{pos k_}{ext}{oR}{g}{ts}{cs}{Qc}{j:St}{H:Hp}{s}{Qb μ}{σ}{O}
  {use:Option (ae->Sem Unit)} {Q} (m_:X.calm=Qo) (hi:rn X Ex tg iter oR) (B:ui X.env.scope scope (X.N++ext) (pj<|⟨oR,g,ts⟩::cs))
  (qO:∀cells a h d l,L2.Inv X Qc j d h->(∀b∈l,qV X Qc d b)->(∃M,Ext H μ d M)->PG (ph X (X.N++ext) scope cells a h d l) tg (g.rd X.K)/\bP (λe t=>pO (ph X (X.N++ext) scope cells a h d l) pe e t) ifs ts/\nQ (ph X (X.N++ext) scope cells a h d l) gs cs/\∀A Qb k,(⟨tg,iter,ifs,0⟩::gs:List cD)[k]?=Qn->xb (ph X (X.N++ext) scope cells a h d l) (ZB j ext.length (pj<|⟨oR,g,ts⟩::cs) A d) C A Qb (C.ex (⟨tg,iter,ifs,0⟩::gs) scope pos) (⟨tg,iter,ifs,0⟩::gs) em k [])
  (hs:∀x,bw iter X.env x=pure x) (I:L2.Inv X Qc j H s) (P:ny X.K H Qb μ σ j) (c1:nu X.K H Qb μ O)
  (q:Bn C Ex X.K X.prog X.w H Qb μ (xf ext.length oR g ts cs em σ O)
   (λ(L:af)d=>∀h a,L2.Inv X Qc j d h->(∃m,h.heap.Ns a m)->d a=Qn->a≠X.env.locals->X.s₀.heap.objs.size<=a->(∀x c,X.env.cells.lookup x=Qg c->c≠a)->(∀p∈X.pn++Qc,p.1≠a)->
    compPost (aq X.prog X.w) X.A X.xe use Q (.ref L) a (.ok .next) h)):
  am (aq X.prog X.w) X.A (comprehension (C.ex (⟨tg,iter,ifs,0⟩::gs) scope pos) scope X.env k_ C.new Qp (eval iter X.env) use) Q X.xe s:=by
 have o4:∀y∈scope.names,y.2=.free->∃c,X.env.cells.lookup y.1=Qg c:=λy hy hf=>by
  obtain⟨n,k⟩:=y;subst hf;exact I.ok.has n<|B.frees _ hy rfl
 refine wpAny_comprehension_free (co.cl _ _ _) hs (Ib o4) B.kind (λx hx hl=>?_) ?_
 .obtain⟨n,k⟩:=x;subst hl;exact vt B.nd hx
 unfold xf at q;cases i:oR σ O with
 |bad=>rw[i] at q;exact ah q
 | exc S O'=>
  rw[i] at q;refine oO (hi.out Qc s j H (λJ r=>False) I ⟨Qb,μ,σ,O,P,c1,by rw[i];exact q⟩) λv s1 U=>oO U λCz Y Z=>?_;obtain⟨it,l,tn,J,H2,e,I2,T,pC,f2,z⟩:=Z;exact z.elim
 | ok src O2=>
  rw[i] at q;refine oO (hi.out Qc s j H (λJ r=>∃u,Ext H μ r u/\nu X.K r Qb u O2/\nH X.K J src r Qb u) I ⟨Qb,μ,σ,O,P,c1,by rw[i];exact λJ r u x c sa=>⟨u,x,c,sa⟩⟩) λv s1 U=>oO U λCz Y Z=>?_;obtain⟨it,l,tn,J,H2,e,I2,T,pC,f2,n_,E,c2,sa⟩:=Z;subst e;have p:Bn C Ex X.K X.prog X.w H Qb μ (yE<|qm src (sZ ⟨oR,g,ts⟩ cs em (qe (σ++aN ext.length Qn) (pj<|⟨oR,g,ts⟩::cs))) (src.size O2) 0 O2 []) _:=q;cases G:yE (qm src (sZ ⟨oR,g,ts⟩ cs em (qe (σ++aN ext.length Qn) (pj<|⟨oR,g,ts⟩::cs))) (src.size O2) 0 O2 []) with
  |bad=>rw[G] at p;exact ah p
  |exc S O'=>exact(UR G).elim
  | ok Qm O3=>
   rw[G] at p;refine XN co m_ B (λcells a=>qO cells a _ _ _ I2 f2 ⟨_,E⟩) I2 (P.ext E) c2 T pC f2 sa (S_ G) λf h o=>?_;obtain⟨d,M,I',x',S,nL,nC,gv⟩:=o.inv;have:=p (Y.heap.objs.size) d M (E.none nL) (E.trans x') S gv h (Y.heap.objs.size+1) I' o.ns nC o.loc o.young o.cel o.pns;cases use<;>exact this
def Ou(c:nu K H (L::Qb) μ O)(a:L∉Qb)(h:H L=Qg (.lst vs))(q:nv K H (L::Qb) μ ds vs):Qe K H Qb μ (.lst ds) (.ref L):=by exact⟨L,vs,rfl,.inl ⟨.inl h,a,λm=>c.nh L m 'k'⟩,q.mv .unhide⟩
mutual
theorem Qe.swap:∀{d}{v},Qe K H (L::Qb) μ d v->Qe K H Qb (μ++[L]) d v
 |.non,_,h=>h
 |.bl _,_,h=>h
 |.int _,_,h=>h
 |.str _,_,h=>h
 | .lst ds,v,h=>by
  unfold Qe at h ⊢;obtain⟨a,f,r,l,q⟩:=h;refine⟨a,f,r,l.imp (λz=>⟨z.1,λm=>z.2.1<|ar _ m,λm=>?_⟩) id,nv.swap q⟩;rcases aO.mp m with m|m
  .exact z.2.2 m
  .exact z.2.1 (by simp at m;simp[m])
 | .tup ds,v,h=>by
  unfold Qe at h ⊢;obtain⟨a,f,r,l,q⟩:=h;refine⟨a,f,r,l.imp (λz=>⟨z.1,λm=>z.2.1<|ar _ m,λm=>?_⟩) id,nv.swap q⟩;rcases aO.mp m with m|m
  .exact z.2.2 m
  .exact z.2.1 (by simp at m;simp[m])
 | .own k,v,h=>by
  unfold Qe at h ⊢;obtain⟨a,r,q⟩:=h;exact⟨a,r,by rw[aD (al.mp q).1];exact q⟩
 | .dct,v,h=>by
  unfold Qe at h ⊢;obtain⟨a,r,q,c,e⟩:=h;refine⟨a,r,q,λm=>c<|ar _ m,λm=>?_⟩;rcases aO.mp m with m|m
  .exact e m
  .exact c (by simp at m;simp[m])
 | .exn C,v,h=>by
  unfold Qe at h ⊢;obtain⟨a,j,r,g,q,c,e⟩:=h;refine⟨a,j,r,g,q,λm=>c<|ar _ m,λm=>?_⟩;rcases aO.mp m with m|m
  .exact e m
  .exact c (by simp at m;simp[m])
 | .tab P,v,h=>by
  unfold Qe at h ⊢;exact h
 | .map ks ds,v,h=>by
  unfold Qe at h ⊢;obtain⟨a,f,r,q,c,e,n,d⟩:=h;refine⟨a,f,r,q,λm=>c<|ar _ m,λm=>?_,n,nv.swap d⟩;rcases aO.mp m with m|m
  .exact e m
  .exact c (by simp at m;simp[m])
 |.adr _,_,h=>h
 | .obj C k,v,h=>by
  unfold Qe at h ⊢;obtain⟨a,o,b,r,q,c,e,i⟩:=h;refine⟨a,o,b,r,q,λm=>c<|ar _ m,λm=>?_,by rw[aD (al.mp i).1];exact i⟩;rcases aO.mp m with m|m
  .exact e m
  .exact c (by simp at m;simp[m])
theorem nv.swap:∀{ds}{vs},nv K H (L::Qb) μ ds vs->nv K H Qb (μ++[L]) ds vs
 |[],_,h=>h
 | d::ds,vs,h=>by
  unfold nv at h ⊢;obtain⟨v,r,a,b,c⟩:=h;exact⟨v,r,a,Qe.swap b,nv.swap c⟩
end
def nu.swap(c:nu K H (L::Qb) μ O)(f:L∉Qb)(h:H L=Qg (.lst vs))(q:nv K H (L::Qb) μ ds vs):nu K H Qb (μ++[L]) (O++[ds]):=by
 have g:L∉μ:=λm=>c.nh L m 'k';refine⟨by simp[c.len],?_,λa m=>?_,λa m=>c.ht a<|ar _ m,λk a e=>?_⟩
 .rw[fq];refine⟨c.nd,by simp,λa i b j=>?_⟩;have:b=L:=⇑j
  subst this;rintro rfl;exact g i
 .rcases aO.mp m with m|m
  .exact λz=>c.nh a m<|ar _ z
  .have:a=L:=⇑m
   subst this;exact f
 .by_cases d:k<μ.length
  .rw[aD d] at e;obtain⟨l,n,o,p,r⟩:=c.at_ k a e;exact⟨l,n,by rw[aD (by rw[<- c.len];exact d)];exact o,p,r.swap⟩
  .rw[bh 'd'] at e;have s:k-μ.length=0:=by
    have:=(al.mp e).1;simp at this;lia
   rw[s] at e;simp at e;subst e;refine⟨ds,vs,?_,h,q.swap⟩;have:k=O.length:=by have:=c.len;lia
   subst this;simp
def Ext.grow(e:Ext H μ H' b_)(h:H L=iS):Ext H μ H' (b_++[L]):=by
 obtain⟨a,rfl⟩:=e.pre;refine⟨⟨a++[L],by simp⟩,e.kept,λb m=>?_,e.there,e.tab⟩;rcases aO.mp m with m|m
 .exact e.fresh b m
 .have:b=L:=⇑m
  subst this;exact .inr h
def yj(o:Bool)(r:R (List D)):R D:=r.bnd λQm O1=>if o=Qo then .ok (.own O1.length) (O1++[Qm]) else .ok (.lst Qm) O1
def NI(g:nu K H Qb μ O)(q:pf Ex K H Qb μ (yj o r) Q)(h:∀L a,Q (.ref L) a->Q1 L a):Bn (yZ elt) Ex K P w H Qb μ r Q1:=by
 cases r with
 |bad=>exact q
 |exc c' O'=>exact q
 | ok Qm O'=>
  intro L a i b x c ⟨j,d,e⟩;have f:L∉Qb:=λm=>g.ht L m b;cases o with
  |false=>exact h L a (post.ok (q) x c.unhide<|Ou c f d e)
  |true=>exact h L a (post.ok (q) (x.grow b) (c.swap f d e)<|EW c.len)
def WM(l:nu K H Qb μ O)(e:ny K H Qb μ σ a_)(q:nE Ex K H Qb μ ((yj o r).bnS λd O1=>.nx (σ.set i<|Qg d) O1) E)(h:∀L a,E.nx (a_.set i (Qg<|.ref L)) a->Q1 L a):
  Bn (yZ elt) Ex K P w H Qb μ r Q1:=by
 cases r with
 |bad=>exact q
 |exc c' O'=>exact q
 | ok Qm O'=>
  intro L a f b x c ⟨n,g,j⟩;have k:L∉Qb:=λm=>l.ht L m b;cases o with
  | false=>
   exact h L a<|q _ a f x ((e.ext x).set (Ou c k g j) i) c.unhide
  | true=>
   exact h L a (q _ a (f++[L]) (x.grow b) ((e.ext<|x.grow b).set (EW c.len) i)<|c.swap k g j)
def FX{elt tg iter}{ifs}{gs}{scope}{pos}{ext}{g:Tg}{ts}{cs}{te}{Z:af->Hp->St->Hp->List af->Prop}
  (b:∀cells C s H a,PG (ph X (X.N++ext) scope cells C s H a) tg (g.rd X.K)/\bP (λe t=>pO (ph X (X.N++ext) scope cells C s H a) pe e t) ifs ts/\nQ (ph X (X.N++ext) scope cells C s H a) gs cs/\PD (ph X (X.N++ext) scope cells C s H a) pe elt te) (cells Cn s H a):
  PG (ph X (X.N++ext) scope cells Cn s H a) tg (g.rd X.K)/\bP (λe t=>pO (ph X (X.N++ext) scope cells Cn s H a) pe e t) ifs ts/\nQ (ph X (X.N++ext) scope cells Cn s H a) gs cs/\∀A Qb k,(⟨tg,iter,ifs,0⟩::gs:List cD)[k]?=Qn->xb (ph X (X.N++ext) scope cells Cn s H a) (Z A H) (yZ elt) A Qb ((yZ elt).ex (⟨tg,iter,ifs,0⟩::gs) scope pos) (⟨tg,iter,ifs,0⟩::gs) (yd te) k []:=
 let ⟨h1,h2,h3,h4⟩:=b cells Cn s H a
 ⟨h1,h2,h3,λ_ _ _ c=>Vx rfl h4.z c⟩
def qc(o:Bool)(ext:Nat)(oR:DI)(g:Tg)(ts:List DT)(cs:List Cl)(te:DE):DE:=λσ O=>yj o<|An ext oR g ts cs te σ O
def UQ(o)(ext:List ao)(d:X.calm=Qo)(f:rn X Ex tg iter oR)(h:ui X.env.scope scope (X.N++ext) (pj<|⟨oR,g,ts⟩::cs))
  (i:∀cells C s H a,PG (ph X (X.N++ext) scope cells C s H a) tg (g.rd X.K)/\bP (λe t=>pO (ph X (X.N++ext) scope cells C s H a) pe e t) ifs ts/\nQ (ph X (X.N++ext) scope cells C s H a) gs cs/\PD (ph X (X.N++ext) scope cells C s H a) pe elt te)
  (j:∀x,bw iter X.env x=pure x:=by intro _;rfl):PD X Ex (.ListComp elt (⟨tg,iter,ifs,0⟩::gs) scope pos) (qc o ext.length oR g ts cs te):=by refine⟨?_⟩;rintro b s M H Q I ⟨k,P,S,O,l,c,q⟩;unfold qc at q;rw[<- HG] at q;refine BD (He elt) d f h (λcells n s H a _ _ _=>FX i cells n s H a) j I l c (NI c q λL p r T C u v w y A B E=>?_);obtain⟨m,G⟩:=v;exact⟨m,G,λU J=>⟨.ref L,p,Inv.bare u J w y A B E,rfl,r⟩⟩
def X8(o)(ext)(r:X.calm=Qo)(u:X.N.Nodup)(w:X.N[i]?=Qg y)(f:X.env.scope.names.lookup y=Qg .local)
  (A:rn X Ex tg iter oR) (B:ui X.env.scope scope (X.N++ext) (pj<|⟨oR,g,ts⟩::cs))
  (G:∀cells C s H b,PG (ph X (X.N++ext) scope cells C s H b) tg (g.rd X.K)/\bP (λe t=>pO (ph X (X.N++ext) scope cells C s H b) pe e t) ifs ts/\nQ (ph X (X.N++ext) scope cells C s H b) gs cs/\PD (ph X (X.N++ext) scope cells C s H b) pe elt te)
  (J:swapsWith (.ListComp elt (⟨tg,iter,ifs,0⟩::gs) scope pos) (Qg<|.Name y py) rR.line X.env=pure Qo)
  (M:∀x,bw iter X.env x=pure x:=by intro _;rfl):qE X Ex (.Assign [.Name y py] (.ListComp elt (⟨tg,iter,ifs,0⟩::gs) scope pos) rR) (pX i<|qc o ext.length oR g ts cs te):=by
 refine⟨?_⟩;rintro h s a_ H E I ⟨c,P,j,O,k,l,q⟩;rw[kB _ _ _ _ J];refine aa (eH<|aa ?_);have q:nE Ex X.K H c P ((yj o<|An ext.length oR g ts cs te j O).bnS λd Q=>.nx (j.set i<|Qg d) Q) E:=q;rw[<- HG] at q;refine aa (bQ (BD (He elt) r A B (λcells S s H b _ _ _=>FX G cells S s H b) M I k l (WM l k q λL T U Y C Z ns nC n y1 p pn=>?_)) (λ_ Y hq=>ak<|ak hq) λ_ _ e=>e);obtain⟨m,hn⟩:=ns;refine ji (Hr (v:=.ref L) Z u w (.inl f) rfl (λq9 J0 vE=>?_)<|.inr f);obtain⟨a,zp,ha⟩:=vE;have JK:C≠a:=by
  rcases ha with z|z
  .rw[z];exact n
  .exact λe=>p y a z e.symm
 refine⟨m,hn.sameBut zp JK,λh' xV=>?_⟩;exact⟨_,T,Inv.bare J0 xV nC n y1 p pn,U⟩
end
noncomputable def qF{α β:Type}(f:α->Option β):List α->Option (List β)
 |[]=>Qg []
 | x::xs=>match f x,qF f xs with
  |some p,Qg ps=>Qg<|p::ps
  |_,_=>Qn
def D0(cs:qB):Option d9:=if cs.all (· < 1114112)=Qo then Qg (.str ⟨cs.toArray⟩) else Qn
def uG(O:Ow):Nat->D->Option d9
 | 0,d=>match d with
  |.non=>Qg .none
  |.bl b=>Qg<|.bool b
  |.int i=>Qg<|.int i
  |.str cs=>D0 cs
  |_=>Qn
 | n+1,d=>match d with
  |.non=>Qg .none
  |.bl b=>Qg<|.bool b
  |.int i=>Qg<|.int i
  |.str cs=>D0 cs
  |.lst ds=>(qF (uG O n) ds).map .list
  |.tup ds=>(qF (uG O n) ds).map .tuple
  | .own k=>match O[k]? with
   |some ds=>(qF (uG O n) ds).map .list
   |none=>Qn
  |.dct=>Qn
  |.exn _=>Qn
  |.tab _=>Qn
  |.map _ _=>Qn
  |.adr _=>Qn
  |.obj _ _=>Qn
section
variable{s:aj}
set_option tactic.hygienic true in
theorem E4(I:L2.Inv X Qc a_ H s)(c:∀(d)(v)(u)(p),Qe X.K H Qb μ d v->RelV v u->uG O n d=Qg p->∃a,Reads s.heap u p a/\p.canLay0=Qo/\p.depth<=n):
  ∀(ds)(vs)(us)(ps:List d9),nv X.K H Qb μ ds vs->nz vs us->qF (uG O n) ds=Qg ps->∃a,ReadsAll s.heap us ps a/\lV ps=Qo/\jT ps<=n
 | [],vs,us,ps,h,r,e=>by
  unfold nv at h;subst h;cases r;cases e;exact⟨[],.nil,rfl,cH _⟩
 | d::ds,vs,us,ps,h,r,e=>by
  obtain⟨v,t,rfl,f,g⟩:=h;cases r with
  | cons r1 r2=>
   unfold qF at e;split at e
   .rename_i p b i j;cases e;obtain⟨a,k,l,m⟩:=c d v _ p f r1 i;obtain⟨o,q,w,x⟩:=E4 I c ds t _ b g r2 j;refine⟨a++o,.cons k q,?_,?_⟩
    .unfold lV;rw[l,w];rfl
    .unfold jT;exact Nat.max_le.mpr ⟨m,x⟩
   .cases e
set_option tactic.hygienic true in
def Oo(e:D0 cs=Qg p):∃a,Reads s.heap (.str ⟨cs.toArray⟩ t) p a/\p.canLay0=Qo/\p.depth<=n:=by
 unfold D0 at e;split at e
 .rename_i b;cases e;exact⟨[],.str _ _,by unfold iK PyData.strOk;simpa using b,cH _⟩
 .cases e
def xi(I:L2.Inv X Qc a_ H s)(c:nu X.K H Qb μ O):∀(n)(d)(v)(u)(p:d9),Qe X.K H Qb μ d v->RelV v u->uG O n d=Qg p->∃C,Reads s.heap u p C/\p.canLay0=Qo/\p.depth<=n:=by
 intro n
 induction n with
 | zero=>
  intro d v u p h r e;cases d with
  |non=>unfold Qe at h;subst h;cases r;cases e;exact⟨[],.none,rfl,cH _⟩
  |bl b=>unfold Qe at h;subst h;cases r;cases e;exact⟨[],.bool _,rfl,cH _⟩
  |int b=>unfold Qe at h;subst h;obtain⟨t,rfl⟩:=r;cases e;exact⟨[],.int _ _,rfl,cH _⟩
  | str cs=>
   unfold Qe at h;subst h;obtain⟨t,rfl⟩:=r;exact Oo<|e
  |_=>cases e
 | succ n ih=>
  intro d v u p h r e;cases d with
  |non=>unfold Qe at h;subst h;cases r;cases e;exact⟨[],.none,rfl,cH _⟩
  |bl b=>unfold Qe at h;subst h;cases r;cases e;exact⟨[],.bool _,rfl,cH _⟩
  |int b=>unfold Qe at h;subst h;obtain⟨t,rfl⟩:=r;cases e;exact⟨[],.int _ _,rfl,cH _⟩
  | str cs=>
   unfold Qe at h;subst h;obtain⟨t,rfl⟩:=r;exact Oo<|e
  | lst f=>
   obtain⟨a,i,rfl,l,q⟩:=h;cases r;have e:(qF (uG O n) f).map me=Qg p:=e;cases g:qF (uG O n) f with
   |none=>rw[g] at e;cases e
   | some ps=>
    rw[g] at e;cases e;obtain⟨j,m,⟨o,k,w,x,J,y⟩,E⟩:=I.list l.sq;obtain⟨C,A,B,G⟩:=E4 I ih f i j ps q m g;exact⟨_,.list w x y ⇑A,by unfold iK;exact B,by unfold lI;lia⟩
  | tup f=>
   obtain⟨a,i,rfl,l,q⟩:=h;cases r;have e:(qF (uG O n) f).map PyData.tuple=Qg p:=e;cases g:qF (uG O n) f with
   |none=>rw[g] at e;cases e
   | some ps=>
    rw[g] at e;cases e;obtain⟨j,m,⟨o,w,x,k,y⟩,E⟩:=I.tuple l.sq;obtain⟨C,A,B,G⟩:=E4 I ih f i j ps q m g;exact⟨_,.tuple w x y ⇑A,by unfold iK;exact B,by unfold lI;lia⟩
  | own k=>
   obtain⟨a,rfl,L⟩:=h;cases r;obtain⟨f,i,M,N,P⟩:=c.at_ k a L;have e:(match O[k]? with|some f=>(qF (uG O n) f).map me|none=>Qn)=Qg p:=e;rw[M] at e;cases g:qF (uG O n) f with
   |none=>simp only[g] at e;cases e
   | some ps=>
    simp only[g] at e;cases e;obtain⟨j,m,⟨o,Q,w,x,J,y⟩,E⟩:=I.list<|.of N;obtain⟨C,A,B,G⟩:=E4 I ih f i j ps P m g;exact⟨_,.list w x y ⇑A,by unfold iK;exact B,by unfold lI;lia⟩
  |dct=>cases e
  |exn _=>cases e
  |tab _=>cases e
  |map _ _=>cases e
  |adr _=>cases e
  |obj _ _=>cases e
end
def py(O:Ow)(d:D):Option d9:=uG O 8 d
def xO(K:ag)(f:d9->d9->Option Bool):R2:=λv w H Q=>∃Qb μ O x y a b k,nu K H Qb μ O/\Qe K H Qb μ x v/\Qe K H Qb μ y w/\py O x=Qg a/\py O y=Qg b/\f a b=Qg k/\Q (.bl k) H
def qG(f:d9->d9->Option Bool):Ow->D->D->R D:=λO x y=>match py O x,py O y with
 | some a,Qg b=>match f a b with
  |some k=>.ok (.bl k) O
  |none=>.bad
 |_,_=>.bad
section
set_option tactic.hygienic true in
def xF:sj X Ex (xO X.K f) (qG f):=by
 intro H d e O x y v w Q c g h q;unfold qG at q;split at q
 .rename_i a b i j;split at q
  .rename_i k l;exact⟨d,e,O,x,y,a,b,k,c,g,h,i,j,l,post.here q c s_⟩
  .exact ah q
 .exact ah q
def sW:d9->d9->Option Bool:=λa b=>Qg<|eO a b
def xj:d9->d9->Option Bool:=λa b=>Qg<|!PyData.eqv a b
def AG:d9->d9->Option Bool:=λa b=>match b with
 |.list xs=>Qg (xs.any λy=>eO y a)
 |.tuple xs=>Qg (xs.any λy=>eO y a)
 |_=>Qn
def DG:d9->d9->Option Bool:=λa b=>match b with
 |.list xs=>Qg (!xs.any λy=>eO y a)
 |.tuple xs=>Qg (!xs.any λy=>eO y a)
 |_=>Qn
def EF(a:p.canLay0=Qo)(b:p.depth<=8):mZ p=Qo:=by unfold mZ;rw[a,decide_eq_true (show p.depth<=64 by lia)];rfl
def EE(e:X.A.units+64<cLine):pY X (cK .Eq) (xO X.K sW):=by intro d s J H x y v u Q I f g h;obtain⟨i,L,O,j,l,a,b,k,c,m,n,o,p,r,q⟩:=h;obtain⟨M,t,w,B⟩:=xi I c 8 j x v a m f o;obtain⟨N,C,E,G⟩:=xi I c 8 l y u b n g p;cases r;exact PyProof.Rows.eq_dataH t C (EF w B) (EF E G) e ⟨.bl _,H,I,rfl,q⟩
def G3(e:X.A.units+64<cLine):pY X (cK .NotEq) (xO X.K xj):=by intro d s J H x y v u Q I f g h;obtain⟨i,L,O,j,l,a,b,k,c,m,n,o,p,r,q⟩:=h;obtain⟨M,t,w,B⟩:=xi I c 8 j x v a m f o;obtain⟨N,C,E,G⟩:=xi I c 8 l y u b n g p;cases r;exact PyProof.Rows.ne_dataH t C (EF w B) (EF E G) e ⟨.bl _,H,I,rfl,q⟩
def D5{A:aY}{n m}(h:m<=8)(a:A.units+64<cLine):A.units+1+min n m<cLine:=by lia
def UX(e:X.A.units+64<cLine):pY X (cK .In) (xO X.K AG):=by
 intro f s G H x y v u Q I n o h;obtain⟨p,J,O,r,t,a,b,k,c,w,B,C,E,d,q⟩:=h;obtain⟨L,g,i,j⟩:=xi I c 8 r x v a w n C;obtain⟨M,l,m,N⟩:=xi I c 8 t y u b B o E;cases b with
 |list xs=>cases d;exact SeqAt.in_list_reads l g m i (D5 j e) ⟨.bl _,H,I,rfl,q⟩
 |tuple xs=>cases d;exact SeqAt.in_tuple_reads l g m i (D5 j e) ⟨.bl _,H,I,rfl,q⟩
 |_=>cases d
def V6(e:X.A.units+64<cLine):pY X (cK .NotIn) (xO X.K DG):=by
 intro f s G H x y v u Q I n o h;obtain⟨p,J,O,r,t,a,b,k,c,w,B,C,E,d,q⟩:=h;obtain⟨L,g,i,j⟩:=xi I c 8 r x v a w n C;obtain⟨M,l,m,N⟩:=xi I c 8 t y u b B o E;cases b with
 |list xs=>cases d;exact SeqAt.notIn_list_reads l g m i (D5 j e) ⟨.bl _,H,I,rfl,q⟩
 |tuple xs=>cases d;exact SeqAt.notIn_tuple_reads l g m i (D5 j e) ⟨.bl _,H,I,rfl,q⟩
 |_=>cases d
end
end DL
namespace DL
open PySem L2
section
noncomputable def tN(O:Ow):D->Option (List D)
 |.lst ds=>Qg ds
 |.own k=>O[k]?
 |_=>Qn
def B5:D->Option (List D)
 |.tup ds=>Qg ds
 |_=>Qn
def tL(a:nu K H Qb μ O)(h:Qe K H Qb μ d v)(e:tN O d=Qg ds):∃p vs,v=.ref p/\pI K H p vs/\nv K H Qb μ ds vs:=by
 cases d with
 | lst xs=>
  obtain⟨p,vs,rfl,l,q⟩:=h;cases e;exact⟨p,vs,rfl,l.sq,q⟩
 | own k=>
  obtain⟨p,rfl,b⟩:=h;obtain⟨i,vs,c,f,g⟩:=a.at_ k p b;have e:O[k]?=Qg ds:=e;rw[c] at e;cases e;exact⟨p,vs,rfl,.of f,g⟩
 |_=>cases e
def Af(h:Qe K H Qb μ d v)(e:B5 d=Qg ds):∃p vs,v=.ref p/\qP K H p vs/\nv K H Qb μ ds vs:=by
 cases d with
 | tup xs=>
  obtain⟨p,vs,rfl,l,q⟩:=h;cases e;exact⟨p,vs,rfl,l.sq,q⟩
 |_=>cases e
def zkH:Ow->D->D->R D:=λO x y=>match x,y with
 |.str s,.str t=>if s.length+t.length<=4000000 then .ok (.str<|s++t) O else .bad
 |_,_=>.bad
end
def Nf(h:nv K H Qb μ ds vs)(e:atI ds i=Qg d):∃v,atI vs i=Qg v/\Qe K H Qb μ d v:=by
 unfold atI at e ⊢;rw[<- h.length];cases q:yH ds.length i with
 |none=>rw[q] at e;cases e
 |some j=>rw[q] at e;exact h.get e
def rk:Ow->D->D->R D:=λO x y=>match y with
 | .int i=>match tN O x with
  | some ds=>match atI ds i with
   |some d=>.ok d O
   |none=>.bad
  | none=>match B5 x with
   | some ds=>match atI ds i with
    |some d=>.ok d O
    |none=>.bad
   | none=>match x with
    | .str cs=>if cs.length<=4000000 then match atI cs i with
      |some ch=>.ok (.str [ch]) O
      |none=>.bad
     else .bad
    |_=>.bad
 |_=>.bad
section
set_option tactic.hygienic true in
def Tc:sj X Ex (PL X.K) rk:=by
 intro H m t O x y v w Q c b l q;unfold rk at q;split at q
 .rename_i i;unfold Qe at l;subst l;split at q
  .rename_i n e;obtain⟨p,f,rfl,g,h⟩:=tL c b e;split at q
   .rename_i d a;obtain⟨z,j,k⟩:=Nf h a;exact .inl ⟨p,f,i,z,rfl,rfl,g,j,post.here q c k⟩
   .exact ah q
  .split at q
   .rename_i n e;obtain⟨p,f,rfl,g,h⟩:=Af b e;split at q
    .rename_i d a;obtain⟨z,j,k⟩:=Nf h a;exact .inr<|.inl ⟨p,f,i,z,rfl,rfl,g,j,post.here q c k⟩
    .exact ah q
   .split at q
    .rename_i o _ _;unfold Qe at b;subst b;obtain⟨r,q⟩:=post.ite q;split at q
     .rename_i s a;refine .inr<|.inr ⟨_,i,s,rfl,rfl,?_,?_,post.here q c EA⟩
      .show o.toArray.size<=_;rw[aM];exact uM r
      .simpa using a
     .exact ah q
    .exact ah q
 .exact ah q
def Ky(c:PD X Ex a ta)(d:PD X Ex b tb)(e:MO b):PD X Ex (.Subscript a b pos) (oK rk ta tb):=qd (RU Tp c.out d.out e)<|Es Tc
def pR(f:Ow->List D->R D)(t:DA):DE:=λσ O=>(t σ O).bnd λxs O1=>f O1 xs
def uq(X:Cx)(Ex:Nat->Hp->Prop)(r:List V->Hp->VK->Prop)(f:Ow->List D->R D):Prop:=∀(H)(Qb μ)(O)(xs)(vs)(Q),nu X.K H Qb μ O->nv X.K H Qb μ xs vs->pf Ex X.K H Qb μ (f O xs) Q->r vs H Q
def K8(h:uq X Ex r f)(Qb μ)(σ)(O)(a_)(H)(Q:VK)(a:ny X.K H Qb μ σ a_)(b:nu X.K H Qb μ O)(q:pf Ex X.K H Qb μ (pR f t σ O) Q):Fb r (r9 Ex X.K t) a_ H Q:=
 r9.go a b q λe g i j k l x c d p=>h j Qb k g e i Q c d p
def xJ{x}{id}{p}{es}{r:List V->Hp->VK->Prop}{f:Ow->List D->R D}{t:DA}(a:nM X (.builtin id) r)(h:uq X Ex r f)(b:Gl X x)(c:X.mg x=Qn)(d:bi x=Qg (.builtin id))(g:qW X Ex (e::es) t)
  (i:x ≠ "__name__":=by decide) (j:pL x:=by decide) (k:au (e::es) X.env=(Qp,eval e X.env)::au es X.env:=by rfl) (l:(backTo pos<|au es X.env).any (·.1)=Qp:=by rfl):
  PD X Ex (.Call (.Name x p) (e::es) [] pos) (pR f t):=qd (BF a b c d g.out i j k l)<|K8 h
def EO(a:nM X (.type T) r)(h:uq X Ex r f)(b:Gl X x)(c:X.mg x=Qn)(d:bi x=Qg (.type T))(g:qW X Ex (e::es) t)
  (i:x ≠ "__name__":=by decide) (j:pL x:=by decide) (k:au (e::es) X.env=(Qp,eval e X.env)::au es X.env:=by rfl) (l:(backTo pos<|au es X.env).any (·.1)=Qp:=by rfl):
  PD X Ex (.Call (.Name x p) (e::es) [] pos) (pR f t):=qd (NS a b c d g.out i j k l)<|K8 h
def tI:Ow->List D->R D:=λO xs=>match xs with
 | [x]=>match tN O x with
  |some ds=>.ok (.int ds.length) O
  | none=>match B5 x with
   |some ds=>.ok (.int ds.length) O
   | none=>match x with
    |.str cs=>if cs.length<=4000000 then .ok (.int cs.length) O else .bad
    |_=>.bad
 |_=>.bad
set_option tactic.hygienic true in
def Lj:uq X Ex (λj H Q=>∃x n,j=[x]/\Ka X.K x H n/\Q (.int n) H) tI:=by
 intro H k m O j o Q c d q;unfold tI at q;split at q
 .rename_i x;obtain⟨v,rfl,a⟩:=rQ d;split at q
  .rename_i f e;obtain⟨p,g,rfl,h,i⟩:=tL c a e;exact⟨_,f.length,rfl,.inl ⟨g,h,i.length⟩,post.here q c rK⟩
  .split at q
   .rename_i f e;obtain⟨p,g,rfl,h,i⟩:=Af a e;exact⟨_,f.length,rfl,.inr ⟨g,h,i.length⟩,post.here q c rK⟩
   .split at q
    .rename_i b _ _;unfold Qe at a;subst a;obtain⟨l,q⟩:=post.ite q;refine⟨_,b.length,rfl,⟨?_,?_⟩,post.here q c rK⟩
     .show b.toArray.size<=_;rw[aM];exact uM l
     .show b.length=b.toArray.size;rw[aM]
    .exact ah q
 .exact ah q
noncomputable def F_:Ow->List D->R D:=λO xs=>match xs with
 |[.int i]=>.ok (.int i) O
 |[.bl k]=>.ok (.int (if k then 1 else 0)) O
 |_=>.bad
def Se:uq X Ex (λb H Q=>(∃i,b=[.int i]/\Q (.int i) H) \/ ∃k,b=[.bl k]/\Q (.int (if k then 1 else 0)) H) F_:=by
 intro H e f O b g Q c d q;unfold F_ at q;split at q
 .obtain⟨v,rfl,a⟩:=rQ d;unfold Qe at a;subst a;exact .inl ⟨_,rfl,post.here q c rK⟩
 .obtain⟨v,rfl,a⟩:=rQ d;unfold Qe at a;subst a;exact .inr ⟨_,rfl,post.here q c rK⟩
 .exact ah q
def Bu:Ow->List D->R D:=λO xs=>match xs with
 | [x]=>match tN O x with
  |some ds=>.ok (.tup ds) O
  | none=>match B5 x with
   |some ds=>.ok (.tup ds) O
   |none=>.bad
 |_=>.bad
set_option tactic.hygienic true in
def V8:uq X Ex (λi H Q=>∃p a,i=[.ref p]/\((pI X.K H p a/\∀l,H l=Qn->Q (.ref l) (upd H l<|.tup a))\/(qP X.K H p a/\Q (.ref p) H))) Bu:=by
 intro H k n O i o Q c d q;unfold Bu at q;split at q
 .rename_i x;obtain⟨v,rfl,b⟩:=rQ d;split at q
  .rename_i m e;obtain⟨p,f,rfl,g,j⟩:=tL c b e;exact⟨p,f,rfl,.inl ⟨g,λl h=>post.ok q (.laid h) (c.laid h)<|Qe.newT c h j⟩⟩
  .split at q
   .rename_i m e;obtain⟨p,f,rfl,g,j⟩:=Af b e;refine⟨p,f,rfl,.inr ⟨g,post.here q c ?_⟩⟩;cases x with
    |tup a=>cases e;exact b
    |_=>cases e
   .exact ah q
 .exact ah q
end
abbrev oU:=List D->Ow->R D
noncomputable def Dw(K:ag)(Ec:XK->Nat->Hp->Prop)(n:Nat)(F:oU):Sp:=λvs H Q E=>vs.length=n/\∃Qb μ ds O,nv K H Qb μ ds vs/\nu K H Qb μ O/\pf (Ec E) K H Qb μ (F ds O) Q
abbrev FR:XK->Nat->Hp->Prop:=λ_ _ _=>False
section
noncomputable def oM(n:Nat)(F:oU)(t:DA):DE:=λσ O=>(t σ O).bnd λds O1=>if ds.length=n then F ds O1 else .bad
def K0(G:nG X.prog X.w X.K X.mg X.base CX k f fd ps (Dw X.K Ec n F))(d:nB k X.A)(g:Gl X x)(h:X.mg x=Qg (.ref f))(i:bN X.K (.ref f)=Qo)(j:Binds X.K fd ps [])(l:tX CX X E)(m:qW X (Ec E) (e::es) t)
  (o:pL x:=by decide) (r:au (e::es) X.env=(Qp,eval e X.env)::au es X.env:=by rfl) (s:(backTo pos<|au es X.env).any (·.1)=Qp:=by rfl):
  PD X (Ec E) (.Call (.Name x p) (e::es) [] pos) (oM n F t):=
 qd (MF G d g h i j .nil l m.out o r s) λa L M O N H Q u v q=>r9.go u v q λy B P S C T U I c b=>by
  obtain⟨J,b⟩:=post.ite b;refine⟨by rw[cf,<- c.length];exact J,a,C,y,B,?_,I,b⟩;rw[cf];exact c
end
noncomputable def fin(r:RS):R D:=match r with
 |.nx _ O=>.ok .non O
 |.rt d O=>.ok d O
 |.exc c O=>.exc c O
 |_=>.bad
def pU(n:Nat)(t:DS):oU:=λds O=>fin<|t (ds.map Qg++aN (n-ds.length) Qn) O
def BL(h:nv K H Qb μ ds vs)(N):ny K H Qb μ (ds.map Qg++aN (N.length-ds.length) Qn) (L2.start N vs):=by
 unfold L2.start;have b:=h.length;refine⟨by simp[b],λi d e=>?_⟩;have a:i<ds.length:=by
  by_cases a:i<ds.length
  .exact a
  .rw[bh ⇑a,d7] at e;split at e<;>cases e
 rw[aD ⇑a,bE] at e;cases q:ds[i]? with
 |none=>rw[q] at e;cases e
 | some d'=>
  rw[q] at e;cases e;obtain⟨v,c,f⟩:=h.get q;exact⟨v,by rw[aD (by simp;lia),bE,c];rfl,f⟩
abbrev Dm(P:aE)(w:aG)(K:ag)(mg:ao->Option ae)(base:aJ)(N:List ao)(qual:ao)(scope:cC)(f:af)(g_:ae)(A:aY)(outer:List Env)(s:aj)(H:Hp)(E:XK):Cx:=
 (vY (λ_ _ _ _ _ _=>False) P w K mg base N qual scope f g_ A outer s H E).nox
def RZ{P}{w}{K}{l:ao->Option ae}{base}{k}{f}{name qual}{params}{body}{scope}{dV kV doc pm g_ ct oc}{an od}{qx}{N ps}{t}
  (n:K.lookup f=Qg ⟨oc,od,.func<|a8 name qual params body scope dV kV doc pm an g_ ct,qx⟩) (o:cg K g_ qual=Qo) (S:oZ N ps scope)
  (p:∀(A)(a)(s)(H:Hp)(E:XK),nB k (A.deeper<|aU qual scope s.heap.objs.size f g_)->qv (Dm P w K l base N qual scope f g_ A a s H E) pe body t):
  nG P w K l base (λ_ _ _ _ _ _=>False) (k+1) f (a8 name qual params body scope dV kV doc pm an g_ ct) ps (Dw K FR ps.length<|pU N.length t):=by
 refine yp n o S (λu H Q E h=>h.1) λA a s H u Q E y h=>?_;obtain⟨G,j,B,m,O,d,c,q⟩:=h;refine⟨_,(p A a s H E y).out.nox,j,B,_,O,BL d N,c,?_⟩;unfold pU at q;generalize t (m.map Qg++aN (N.length-m.length) Qn) O=r at q;cases r with
 |nx σ O'=>exact λI b g x e i=>q .non b g x i xg
 |rt d' O'=>exact λv b g x i r=>q v b g x i r
 |bk σ O'=>exact ah q
 |ct σ O'=>exact ah q
 |exc i O'=>exact λb g x C=>q b g x C
 |bad=>exact ah q
noncomputable def Ac:D->String
 |.non => "NoneType"
 |.bl _ => "bool"
 |.int _ => "int"
 |.str _ => "str"
 |.lst _ => "list"
 |.own _ => "list"
 |.tup _ => "tuple"
 |.dct => "dict"
 |.exn _ => "exception"
 |.tab _ => "bool"
 |.map _ _ => "dict"
 |.adr _ => "function"
 |.obj _ _ => "function"
def D1(t c:String):Bool:=t==c||(t == "bool" && c == "int")
section
def u4:List String:=["NoneType", "bool", "int", "str", "list", "tuple", "dict"]
def xh(K){t c}(ht:t∈u4)(a:c∈["int", "bool", "str", "list", "tuple", "dict"]):aH K (.type t) (.type c)=Qg (D1 t c):=by simp only[u4,av,fM,or_false] at ht a;rcases ht with rfl|rfl|rfl|rfl|rfl|rfl|rfl<;>rcases a with rfl|rfl|rfl|rfl|rfl|rfl<;>first|rfl|decide
def Yx{v}{u}{d}(I:L2.Inv X Qc a_ H s)(B:nu X.K H Qb μ O)(h:Qe X.K H Qb μ d v)(r:RelV v u)(m:(Ac d == "function")=Qp):∃(T:ae)(w:aJ->Prop),PySem.W.KitX X.K u T w/\w s.heap/\u ≠ .builtin "__main__.__loader__#opaque"/\∀c∈(["int", "bool", "str", "list", "tuple", "dict"]:List String),aH X.K T (.type c)=Qg (D1 (Ac d) c):=by
 cases d with
 |non=>unfold Qe at h;subst h;cases r;exact⟨.type "NoneType",_,lW,dR,(λz=>nomatch z),λc a=>xh X.K (by simp[u4]) a⟩
 |bl _=>unfold Qe at h;subst h;cases r;exact⟨.type "bool",_,lX,dR,(λz=>nomatch z),λc a=>xh X.K (by simp[u4]) a⟩
 |int _=>unfold Qe at h;subst h;obtain⟨t,rfl⟩:=r;exact⟨.type "int",_,PySem.W.kitx_int,dR,(λz=>nomatch z),λc a=>xh X.K (by simp[u4]) a⟩
 |str _=>unfold Qe at h;subst h;obtain⟨t,rfl⟩:=r;exact⟨.type "str",_,PySem.W.kitx_str,dR,(λz=>nomatch z),λc a=>xh X.K (by simp[u4]) a⟩
 | lst j=>
  obtain⟨p,f,rfl,l,q⟩:=h;cases r;obtain⟨x,A,⟨o,n,e,b,_⟩,_⟩:=I.list l.sq;exact⟨.type "list",_,lY,⟨o,e,b⟩,(λz=>nomatch z),λc a=>xh X.K (by simp[u4]) a⟩
 | own k=>
  obtain⟨p,rfl,E⟩:=h;cases r;obtain⟨j,f,_,b,_⟩:=B.at_ k p E;obtain⟨x,A,⟨o,n,e,b,_⟩,_⟩:=I.list<|.of b;exact⟨.type "list",_,lY,⟨o,e,b⟩,(λz=>nomatch z),λc a=>xh X.K (by simp[u4]) a⟩
 | tup j=>
  obtain⟨p,f,rfl,l,q⟩:=h;cases r;obtain⟨x,A,⟨o,e,b,_⟩,_⟩:=I.tuple l.sq;exact⟨.type "tuple",_,PySem.W.kitx_tuple,⟨o,e,b⟩,(λz=>nomatch z),λc a=>xh X.K (by simp[u4]) a⟩
 | dct=>
  obtain⟨p,rfl,i,_⟩:=h;cases r;obtain⟨_,_,f,_,o,G,J,e,b,_⟩:=Rd.ok i I.hok;exact⟨.type "dict",_,lZ,⟨o,e,b.1⟩,(λz=>nomatch z),λc a=>xh X.K (by simp[u4]) a⟩
 |tab _=>unfold Qe at h;obtain⟨rfl,_⟩:=h;cases r;exact⟨.type "bool",_,lX,dR,(λz=>nomatch z),λc a=>xh X.K (by simp[u4]) a⟩
 | map ks j=>
  obtain⟨p,f,rfl,i,_⟩:=h;cases r;obtain⟨_,_,f,_,o,G,J,e,b,_⟩:=Rd.ok (.inr i) I.hok;exact⟨.type "dict",_,lZ,⟨o,e,b.1⟩,(λz=>nomatch z),λc a=>xh X.K (by simp[u4]) a⟩
 |adr _=>cases m
 |obj _ _=>cases m
 | exn C=>
  obtain⟨p,L,rfl,⟨k,g⟩,i,_⟩:=h;cases r;obtain⟨y,_⟩:=Rd.ok i I.hok;refine⟨_,_,LW k,g _ y,(λz=>nomatch z),λc a=>?_⟩;rw[k.kit c a];simp at a;rcases a with rfl|rfl|rfl|rfl|rfl|rfl<;>rfl
def P8:List String:=["int", "bool", "str", "list", "tuple", "dict"]
def WL:nM X (.builtin "isinstance") (λa H Q=>∃x C Qb μ O d,a=[x,.ty C]/\C∈P8/\nu X.K H Qb μ O/\Qe X.K H Qb μ d x/\(Ac d == "function")=Qp/\Q (.bl<|D1 (Ac d) C) H):=by intro b s n H a o Q I r h;obtain⟨x,C,Qb,μ,O,d,rfl,c,e,f,g,q⟩:=h;obtain⟨u,t,rfl,i,j⟩:=KA r;cases j;obtain⟨T,v,Z,p,k,l⟩:=Yx I e f i g;exact wT I (jU Z I.kIn p (l _ c) k λm w=>⟨.bl _,H,I.tok m,rfl,q⟩)
def vj(C:String)(t:DE):DE:=λσ O=>(t σ O).bnd λd O1=>if (Ac d == "function")=Qo then .bad else .ok (.bl<|D1 (Ac d) C) O1
def Br(g:PD X Ex a ta)(h:n∈P8)(i:Gl X "isinstance")(j:X.mg "isinstance" = Qn)(k:bi "isinstance" = Qg (.builtin "isinstance"))(l:Gl X C)(m:X.mg C=Qn)(o:bi C=Qg (.type n))(s:C ≠ "__name__":=by decide)
  (t:pL C:=by decide) (e:au [a,.Name C p'] X.env=(Qp,eval a X.env)::au [.Name C p'] X.env:=by rfl) (u:au [.Name C p'] X.env=[(Qp,eval (.Name C p') X.env)]:=by rfl) (w:(backTo pos<|au [.Name C p'] X.env).any (·.1)=Qp:=by rfl):
  PD X Ex (.Call (.Name "isinstance" p) [a,.Name C p'] [] pos) (vj n ta):=
 qd (BF (WL) i j k (u_ g.out (u_ (L4 (v:=.ty n) l m o rfl s t) yr u) e) 'b' 'b' e w) λb I J O L H Q y A q=>rd.go y A q λd B v M E N x f r c=>by
  obtain⟨G,c⟩:=post.iteN c;exact⟨v,n,b,E,B,d,rfl,h,f,r,G,post.here c f s_⟩
noncomputable def FY(to:DE)(t:DA):DE:=λσ O=>(to σ O).bnd λx O1=>match x with
 | .own k=>(t σ O1).bnd λys O2=>match ys,O2[k]? with
  |[y],Qg ds=>if ds.length<4000000 then .ok .non (O2.set k<|ds++[y]) else .bad
  |_,_=>.bad
 |_=>.bad
set_option tactic.hygienic true in
def W6(j:PD X Ex o to)(l:qW X Ex (e::es) t)(m:attributeBase o "append" X.env (eval o X.env)=eval o X.env:=by rfl)
  (n:((backTo k_<|au (e::es) X.env).all (λx=>!x.1)&&(backToKw k_<|keywordEach [] X.env).all (λx=>x.1.isSome)&&decide ((e::es).length+([]:List dB).length+(if ([]:List dB).isEmpty then 0 else 1)<30))=Qo:=by rfl)
  (s:(apos.endLine==k_.line)=Qo:=by rfl) (u:au (e::es) X.env=(Qp,eval e X.env)::au es X.env:=by rfl) (B:(backTo k_<|au es X.env).any (·.1)=Qp:=by rfl):
  PD X Ex (.Call (.Attribute o "append" apos) (e::es) [] k_) (FY to t):=
 qd (A_ gz kz PySem.F.type_list_append NY j.out l.out m n s u B) λC μ σ O a_ H Q E G q=>rd.go E G q λd O1 v H1 c_ I x c r p=>by
  cases d with
  | own k=>
   have J:=r;obtain⟨A,rfl,L⟩:=r;obtain⟨ds,M,h1,N,h3⟩:=c.at_ k A L;refine⟨.inl ⟨rfl,M,.of N⟩,r9.go I c p λys O2 ws H2 P e3 S f T a=>?_⟩;split at a
   .rename_i y sQ U;obtain⟨Y,a⟩:=post.ite a;obtain⟨w,rfl,Z⟩:=rQ T;have b:P[k]?=Qg A:=by
     have:=J.ext S;obtain⟨A',e',uw⟩:=this;cases e';exact uw
    obtain⟨FJ,tZ,g,h,i⟩:=f.at_ k A b;rw[U] at g;cases g;refine⟨A,tZ,w,rfl,rfl,h,aV (by rw[<- i.length];exact Y) 'b',?_⟩;exact post.ok a (.put (aR b) ⟨_,h⟩) (f.put b (i.append<|.cons Z .nil)) xg
   .exact ah a
  |_=>exact ah p
def zkY(te to ti:DE):DS:=λσ O=>(te σ O).bnS λy O1=>(to σ O1).bnS λx O2=>(ti σ O2).bnS λi O3=>match x,i with
 | .own k,.int i=>match O3[k]? with
  | some ds=>match yH ds.length i with
   |some j=>.nx σ (O3.set k<|ds.set j y)
   |none=>.bad
  |none=>.bad
 |_,_=>.bad
def AU:List D->Option (List Bool)
 |[]=>Qg []
 |.bl b::r=>(AU r).map (b :: ·)
 |_=>Qn
theorem Gw:∀{ds}{vs}{bs},nv K H Qb μ ds vs->AU ds=Qg bs->vs=bs.map V.bl
 |[],vs,bs,h,e=>by unfold nv at h;subst h;cases e;rfl
 | d::ds,vs,bs,h,e=>by
  obtain⟨v,r,rfl,a,c⟩:=h;cases d with
  | bl b=>
   unfold AU at e;cases q:AU ds with
   |none=>rw[q] at e;cases e
   | some cs=>
    rw[q] at e;cases e;unfold Qe at a;subst a;rw[Gw c q];rfl
  |_=>cases e
def yk:Ow->List D->R D:=λO xs=>match xs with
 | [x]=>match tN O x with
  | some ds=>match AU ds with
   |some bs=>.ok (.bl<|bs.all id) O
   |none=>.bad
  |none=>.bad
 |_=>.bad
def AZ:Ow->List D->R D:=λO xs=>match xs with
 | [x]=>match tN O x with
  | some ds=>match AU ds with
   |some bs=>.ok (.bl<|bs.any id) O
   |none=>.bad
  |none=>.bad
 |_=>.bad
set_option tactic.hygienic true in
def Li:uq X Ex (λa H Q=>∃(p:af)(bs:List Bool),a=[.ref p]/\pI X.K H p (bs.map V.bl)/\Q (.bl<|bs.all id) H) yk:=by
 intro H b j O a k Q c d q;unfold yk at q;split at q
 .rename_i x;obtain⟨v,rfl,f⟩:=rQ d;split at q
  .rename_i l e;obtain⟨p,m,rfl,g,h⟩:=tL c f e;split at q
   .rename_i bs i;refine⟨p,bs,rfl,?_,post.here q c s_⟩;rw[<- Gw h i];exact g
   .exact ah q
  .exact ah q
 .exact ah q
set_option tactic.hygienic true in
def Tz:uq X Ex (λa H Q=>∃(p:af)(bs:List Bool),a=[.ref p]/\pI X.K H p (bs.map V.bl)/\Q (.bl<|bs.any id) H) AZ:=by
 intro H b j O a k Q c d q;unfold AZ at q;split at q
 .rename_i x;obtain⟨v,rfl,f⟩:=rQ d;split at q
  .rename_i l e;obtain⟨p,m,rfl,g,h⟩:=tL c f e;split at q
   .rename_i bs i;refine⟨p,bs,rfl,?_,post.here q c s_⟩;rw[<- Gw h i];exact g
   .exact ah q
  .exact ah q
 .exact ah q
def Xi(bs:List Bool):(de bs.length).all (λi=>bs.getD i Qo)=bs.all id:=by
 rw[mE,cE,cE];constructor
 .intro h b c;obtain⟨i,a,e⟩:=dD.mp c;have:=h i ⇑a;rw[cJ,aB a,e] at this;exact this
 .intro h i a;have a:i<bs.length:=⇑a
  rw[cJ,aB a];exact h _<|fN a
def Xd(bs:List Bool):(de bs.length).any (λi=>bs.getD i Qo)=bs.any id:=by
 rw[mE,gX,gX];constructor
 .rintro⟨i,a,h⟩;have a:i<bs.length:=⇑a
  rw[cJ,aB a] at h;exact⟨_,fN a,h⟩
 .rintro⟨b,c,h⟩;obtain⟨i,a,e⟩:=dD.mp c;exact⟨i,by simpa using a,by rw[cJ,aB a,e];exact h⟩
def L6{bs:List Bool}{f_}(r:nz (bs.map V.bl) f_){i:Nat}{v}(h:f_.toArray[i]?=Qg v):v=.bool (bs.getD i Qo):=by
 have h:f_[i]?=Qg v:=⇑h
 have a:i<bs.length:=by
  have:=r.length;have:=(al.mp h).1;simp at *;lia
 obtain⟨u,b,c⟩:=r.get (by rw[bE,aB a];rfl);rw[h] at b;cases b;cases c;rw[cJ,aB a];rfl
def NV(j:X.calm=Qo):nM X (.builtin "all") (λd H Q=>∃(p:af)(bs:List Bool),d=[.ref p]/\pI X.K H p (bs.map V.bl)/\Q (.bl<|bs.all id) H):=by
 intro f s B H d C Q I r h;obtain⟨p,bs,rfl,k,q⟩:=h;obtain⟨u,rfl,l⟩:=sD r;cases l;obtain⟨a,g,c,E⟩:=I.list k;have m:a.toArray.size=bs.length:=by have:=g.length;simp at *;lia
 have t:p≠s.heap.objs.size:=by obtain⟨o,n,e,_⟩:=c;exact bb<|aC e
 refine wT I (call_all_walk<|ft c.isList ?_);refine⟨s.heap.objs.size,_,_,a.toArray.size,_,_,λi=>bs.getD i Qo,rfl,kR (show X.A.in1.handled=Qn from I.ok.hd j) _ p t a.toArray,⟨⟨_,aA _ rfl,rfl,rfl⟩,c.isList.push _⟩,λi v G J L w x=>?_,λM N y O=>?_⟩
 .rw[L6 g w];exact cO x
 .rw[m,Xi];exact⟨.bl _,H,I.kept λb o e=>y b o (by simpa using bb (aC e))<|ai _ e,rfl,q⟩
def Xc(j:X.calm=Qo):nM X (.builtin "any") (λd H Q=>∃(p:af)(bs:List Bool),d=[.ref p]/\pI X.K H p (bs.map V.bl)/\Q (.bl<|bs.any id) H):=by
 intro f s B H d C Q I r h;obtain⟨p,bs,rfl,k,q⟩:=h;obtain⟨u,rfl,l⟩:=sD r;cases l;obtain⟨a,g,c,E⟩:=I.list k;have m:a.toArray.size=bs.length:=by have:=g.length;simp at *;lia
 have t:p≠s.heap.objs.size:=by obtain⟨o,n,e,_⟩:=c;exact bb<|aC e
 refine wT I (call_any_walk<|ft c.isList ?_);refine⟨s.heap.objs.size,_,_,a.toArray.size,_,_,λi=>bs.getD i Qo,rfl,kR (show X.A.in1.handled=Qn from I.ok.hd j) _ p t a.toArray,⟨⟨_,aA _ rfl,rfl,rfl⟩,c.isList.push _⟩,λi v G J L w x=>?_,λM N y O=>?_⟩
 .rw[L6 g w];exact cO x
 .rw[m,Xd];exact⟨.bl _,H,I.kept λb o e=>y b o (by simpa using bb (aC e))<|ai _ e,rfl,q⟩
end
section
variable{X:Cx}{Ex:Nat->Hp->Prop}{c:aZ}{a_:St}{H:Hp}{Qb μ:List af}{O:Ow}
def KO(K:ag):R2:=λx y H Q=>∃l b xs zs,x=.ref l/\y=.ref b/\pI K H l xs/\pI K H b zs/\xs.length+zs.length<=aK/\∀p,H p=Qn->Q (.ref p) (upd H p (.lst<|xs++zs))
def Vn:pY X (eU .Add) (KO X.K):=by
 intro e s P H x y v u Q I k m h;obtain⟨l,b,S,T,rfl,rfl,n,o,U,q⟩:=h;cases k;cases m;obtain⟨a,f,p,Y⟩:=I.list n;obtain⟨d,g,r,Z⟩:=I.list o;obtain⟨⟨c1,d1,t1,t⟩,w,i,A,B,C⟩:=p;obtain⟨⟨c2,d2,t2,E⟩,G,j,J,L,M⟩:=r;subst A B C J L M;have N:a.toArray++d.toArray=(a++d).toArray:=by simp
 have l1:=f.length;have l2:=g.length;refine iY ⟨_,i,rfl⟩ ⟨_,j,rfl⟩ PySem.noFill_list_add PySem.seq_list_add PySem.F.slot_list_add PySem.F.entry_list_add (PySem.F.args_list_add_2 _ _)
  (PyProof.Rows.list_addW l b a.toArray d.toArray w G Qn Qn t E (by simp;lia)) ⟨i,j,?_⟩
 rw[N];exact⟨.ref _,_,I.lnew (f.append g) (by rw[aI];lia),rfl,q _ I.fresh⟩
def ri:Ow->D->D->R D:=λO x y=>match x,y with
 |.int i,.int j=>.ok (.int<|i+j) O
 |.str p,.str q=>if p.length+q.length<=4000000 then .ok (.str<|p++q) O else .bad
 |.tup xs,.tup ys=>if xs≠[]/\xs.length+ys.length<=4000000 then .ok (.tup<|xs++ys) O else .bad
 | x,y=>match tN O x,tN O y with
  |some xs,Qg ys=>if xs.length+ys.length<=4000000 then .ok (.lst<|xs++ys) O else .bad
  |_,_=>.bad
def Gs(K:ag):R2:=λx y H Q=>(∃i j,x=.int i/\y=.int j/\Q (.int<|i+j) H)\/(∃i j,x=.str i/\y=.str j/\i.length+j.length<=aK/\Q (.str<|i++j) H)\/Kz K x y H Q\/KO K x y H Q
def Me:pY X (eU .Add) (Gs X.K):=pY.or Tq (pY.or XH<|pY.or Ux Vn)
set_option tactic.hygienic true in
def MR:sj X Ex (Gs X.K) ri:=by
 intro H Qb μ O x y v w Q c a d q;unfold ri at q;split at q
 .unfold Qe at a d;subst a;subst d;exact .inl ⟨_,_,rfl,rfl,post.here q c rK⟩
 .rename_i p h;unfold Qe at a d;subst a;subst d;obtain⟨i,q⟩:=post.ite q;refine .inr<|.inl ⟨_,_,rfl,rfl,?_,?_⟩
  .show p.toArray.size+h.toArray.size<=_;simp;exact uM i
  .have e:((⟨p.toArray⟩:ao)++(⟨h.toArray⟩:ao))=⟨(p++h).toArray⟩:=by
    show(⟨p.toArray++h.toArray⟩:ao)=_;simp
   rw[e];exact post.here q c EA
 .rename_i u A;have j:=a;obtain⟨p,k,rfl,s,f⟩:=a;obtain⟨m,n,rfl,t,g⟩:=d;obtain⟨⟨B,i⟩,q⟩:=post.ite q;have o:=f.length;have r:=g.length;refine .inr (.inr<|.inl ⟨p,m,k,n,rfl,rfl,s.sq,t.sq,?_,uM 'd',?_,?_⟩)
  .rintro rfl;exact B<|d8.mp o
  .rintro rfl;have:=d8.mp r;subst this;rw[cf] at q;exact post.here q c j
  .intro _ l b;exact post.ok q (.laid b) (c.laid b) (Qe.newT c b<|f.append g)
 .split at q
  .rename_i u A o r;obtain⟨p,k,rfl,C,f⟩:=tL c a o;obtain⟨m,n,rfl,E,g⟩:=tL c d r;obtain⟨i,q⟩:=post.ite q;have s:=f.length;have t:=g.length;exact .inr (.inr<|.inr ⟨p,m,k,n,rfl,rfl,C,E,uM 'd',λl b=>post.ok q (.laid b) (c.laid b) (Qe.newL c b<|f.append g)⟩)
  .exact ah q
def Lm(d:PD X Ex a ta)(e:PD X Ex b tb):PD X Ex (.BinOp a .Add b pos) (oK ri ta tb):=z_ Me MR d e
noncomputable def Km(i:Int):qB:=((toString i:ao)).cps.toList
def z5:Ow->List D->R D:=λO xs=>match xs with
 |[.int i]=>if i.natAbs<2 ^ 64 then .ok (.str<|Km i) O else .bad
 |_=>.bad
def XF(h:n<2 ^ 64):n.log2<1920:=by
 by_cases a:n=0
 .subst a;decide
 .have:=(Nat.log2_lt a).mpr h;lia
def EJ(x):(⟨x.cps.toList.toArray⟩:ao)=x:=by cases x;simp
set_option tactic.hygienic true in
def ME:uq X Ex (λa H Q=>∃i,a=[.int i]/\i.natAbs.log2<1920/\Q (.str<|toString i) H) z5:=by
 intro H Qb μ O a f Q c d q;unfold z5 at q;split at q
 .rename_i i;obtain⟨v,rfl,b⟩:=rQ d;unfold Qe at b;subst b;obtain⟨e,q⟩:=post.ite q;refine⟨i,rfl,XF e,post.here q c ?_⟩;unfold Qe Km;rw[EJ]
 .exact ah q
def PK(g:ao->ao->Option V):V->List V->Hp->VK->Prop:=λx xs H Q=>∃i j v,x=.str i/\xs=[.str j]/\g i j=Qg v/\Q v H
def Kh(i j:ao):Option V:=Qg<|.int (bq i j 0 i.length<|i.length+1).length
def Wt:Dv X "str.count" (PK Kh):=by intro a s f H x g v k Q I b d h;obtain⟨i,j,w,rfl,rfl,e,q⟩:=h;obtain⟨t,rfl⟩:=b;obtain⟨u,rfl,l,rfl⟩:=sD d;cases e;exact SC.count ⟨.int _,H,I.tok _,⟨_,rfl⟩,q⟩
def FV(i j:qB):Option D:=Qg<|.int (bq ⟨i.toArray⟩ ⟨j.toArray⟩ 0 i.length (i.length+1)).length
noncomputable def JV(g:qB->qB->Option D)(to:DE)(t:DA):DE:=λσ O=>(to σ O).bnd λx O1=>match x with
 | .str i=>(t σ O1).bnd λys O2=>match ys with
  | [.str j]=>match g i j with
   |some d=>.ok d O2
   |none=>.bad
  |_=>.bad
 |_=>.bad
set_option tactic.hygienic true in
def RK{t}{es}{apos k_}{name:ao}{f:String}{k:ao->ao->Option V}{g:qB->qB->Option D}(a:Slot "str" name f)(m:typeOf (.builtin f)=pure (.type "method_descriptor"))(n:Dv X f (PK k))
  (h:∀i j d,g i j=Qg d->∃v,k ⟨i.toArray⟩ ⟨j.toArray⟩=Qg v/\∀K H Qb μ,Qe K H Qb μ d v) (s:PD X Ex o to) (u:qW X Ex (e::es) t) (y:attributeBase o name X.env (eval o X.env)=eval o X.env:=by rfl)
  (A:((backTo k_<|au (e::es) X.env).all (λx=>!x.1)&&(backToKw k_<|keywordEach [] X.env).all (λx=>x.1.isSome)&&decide ((e::es).length+([]:List dB).length+(if ([]:List dB).isEmpty then 0 else 1)<30))=Qo:=by rfl)
  (B:(apos.endLine==k_.line)=Qo:=by rfl) (C:au (e::es) X.env=(Qp,eval e X.env)::au es X.env:=by rfl) (E:(backTo k_<|au es X.env).any (·.1)=Qp:=by rfl):
  PD X Ex (.Call (.Attribute o name apos) (e::es) [] k_) (JV g to t):=
 qd (A_ gL a m n s.out u.out y A B C E) λQb μ U O a_ H Q G I q=>rd.go G I q λd Y v Z c_ J x L r p=>by
  cases d with
  | str i=>
   subst r;refine⟨rfl,r9.go J L p λys O2 ws H2 n_ e3 x3 M N b=>?_⟩;split at b
   .rename_i j;obtain⟨w,rfl,l⟩:=rQ N;unfold Qe at l;subst l;split at b
    .rename_i d P;obtain⟨v,S,T⟩:=h _ _ _ P;exact⟨_,_,v,rfl,rfl,S,post.here b M<|T _ _ _ _⟩
    .exact ah b
   .exact ah b
  |_=>exact ah p
def SF:∀i j d,FV i j=Qg d->∃v,Kh ⟨i.toArray⟩ ⟨j.toArray⟩=Qg v/\∀K H Qb μ,Qe K H Qb μ d v:=λi j d h=>by
 cases h;have e:(⟨i.toArray⟩:ao).length=i.length:=by show i.toArray.size=_;simp
 exact⟨_,rfl,λ_ _ _ _=>by unfold Qe;rw[e]⟩
def Bc:List D->Option (List ao)
 |[]=>Qg []
 |.str cs::r=>(Bc r).map (⟨cs.toArray⟩ :: ·)
 |_=>Qn
theorem Mu:∀{ds}{vs}{ys},nv K H Qb μ ds vs->Bc ds=Qg ys->vs=ys.map V.str
 |[],vs,ys,h,e=>by unfold nv at h;subst h;cases e;rfl
 | d::ds,vs,ys,h,e=>by
  unfold nv at h;obtain⟨v,r,rfl,a,b⟩:=h;cases d with
  | str cs=>
   unfold Bc at e;cases q:Bc ds with
   |none=>rw[q] at e;cases e
   | some zs=>
    rw[q] at e;cases e;unfold Qe at a;subst a;rw[Mu b q];rfl
  |_=>cases e
def HA:∀{a}{us},nz (a.map V.str) us->fo us a:=by
 intro a
 induction a with
 |nil=>intro us r;rw[List.map_nil] at r;cases r;exact .nil
 | cons y a ih=>
  intro us r;cases r with
  | cons r1 r2=>
   obtain⟨t,e⟩:=r1;subst e;exact .cons y t<|ih r2
noncomputable def R7(K:ag):V->List V->Hp->VK->Prop:=λx xs H Q=>∃i p ys,x=.str i/\xs=[.ref p]/\(pI K H p (ys.map V.str)\/qP K H p (ys.map V.str))/\i.length<=16/\(ys.map (·.length)).sum+ys.length<=1048576/\Q (.str<|Txt.join i ys) H
def Vb:Dv X "str.join" (R7 X.K):=by
 intro d s w H x y v A Q I g j h;obtain⟨i,p,B,rfl,rfl,sq,e,f,q⟩:=h;obtain⟨t,rfl⟩:=g;obtain⟨u,rfl,l⟩:=sD j;cases l;rcases sq with sq|sq
 .obtain⟨m,a,b,n⟩:=I.list sq;exact wT I (PyProof.Rows.join_listW b.isList (HA a) e f λo k r=>⟨.str _,H,I.tok k,⟨_,rfl⟩,q⟩)
 .obtain⟨m,a,b,n⟩:=I.tuple sq;exact wT I (PyProof.Rows.join_tupleW b (HA a) e f λo k r=>⟨.str _,H,I.tok k,⟨_,rfl⟩,q⟩)
def Bm(to:DE)(t:DA):DE:=λσ O=>(to σ O).bnd λx O1=>match x with
 | .str i=>(t σ O1).bnd λys O2=>match ys with
  | [z]=>match (match tN O2 z with|some ds=>Qg ds|none=>B5 z) with
   | some ds=>match Bc ds with
    |some zs=>if i.length<=16/\(zs.map (·.length)).sum+zs.length<=1048576 then .ok (.str (Txt.join ⟨i.toArray⟩ zs).cps.toList) O2 else .bad
    |none=>.bad
   |none=>.bad
  |_=>.bad
 |_=>.bad
set_option tactic.hygienic true in
def UY(y:PD X Ex o to)(A:qW X Ex (e::es) t)(B:attributeBase o "join" X.env (eval o X.env)=eval o X.env:=by rfl)
  (C:((backTo k_<|au (e::es) X.env).all (λx=>!x.1)&&(backToKw k_<|keywordEach [] X.env).all (λx=>x.1.isSome)&&decide ((e::es).length+([]:List dB).length+(if ([]:List dB).isEmpty then 0 else 1)<30))=Qo:=by rfl)
  (E:(apos.endLine==k_.line)=Qo:=by rfl) (G:au (e::es) X.env=(Qp,eval e X.env)::au es X.env:=by rfl) (I:(backTo k_<|au es X.env).any (·.1)=Qp:=by rfl):
  PD X Ex (.Call (.Attribute o "join" apos) (e::es) [] k_) (Bm to t):=
 qd (A_ gL PySem.F.slot_str_join PySem.F.type_str_join Vb y.out A.out B C E G I) λQb μ σ O a_ H Q f J q=>rd.go f J q λd O1 v H1 c_ L x M r p=>by
  cases d with
  | str i=>
   unfold Qe at r;subst r;refine⟨rfl,r9.go L M p λys N a m P e3 x3 s S b=>?_⟩;split at b
   .rename_i z;obtain⟨w,rfl,u⟩:=rQ S;split at b
    .rename_i T l;split at b
     .rename_i U n;obtain⟨⟨g,Y⟩,b⟩:=post.ite b;have h:∃p a,w=.ref p/\(pI X.K m p a\/qP X.K m p a)/\nv X.K m Qb P T a:=by
       cases f:tN N z with
       | some es=>
        rw[f] at l;cases l;obtain⟨p,a,g,j,k⟩:=tL s u f;exact⟨p,a,g,.inl j,k⟩
       | none=>
        rw[f] at l;obtain⟨p,a,g,j,k⟩:=Af u l;exact⟨p,a,g,.inr j,k⟩
      obtain⟨Z,a,rfl,j,k⟩:=h;have ev:=Mu k n;subst ev;refine⟨_,Z,U,rfl,rfl,j,?_,Y,post.here b s ?_⟩
      .show i.toArray.size<=16;simpa using g
      .unfold Qe;rw[EJ]
     .exact ah b
    .exact ah b
   .exact ah b
  |_=>exact ah p
abbrev DO:=Sg->Ow->R (Option Int)
def zh(Ex:Nat->Hp->Prop)(K:ag)(t:DO):TO:=λa_ H Q=>∃Qb μ σ O,ny K H Qb μ σ a_/\nu K H Qb μ O/\post Ex K (λ_ _(d v)=>d=v) H Qb μ (t σ O) Q
structure xo(X:Cx)(Ex:Nat->Hp->Prop)(e:Option aZ)(t:DO):Prop where
 out:PO X e (zh Ex X.K t)
def xA:DO:=λ_ O=>.ok Qn O
def vn(t:DE):DO:=λσ O=>(t σ O).bnd λd O1=>match d with
 |.int i=>.ok (Qg i) O1
 |_=>.bad
def PO.imp{e}{t t'}(h:PO X e t)(f:∀a H Q,t' a H Q->t a H Q):PO X e t':=λb s a H Q I q=>h b s a H Q I<|f a H Q q
def Nb:xo X Ex Qn xA:=xo.mk <| PO.imp T5 λa_ H Q ⟨Qb,μ,b,O,d,a,q⟩=>post.here q a rfl
def M8(h:PD X Ex e te):xo X Ex (Qg e) (vn te):=xo.mk <| PO.imp (UB h.out) λa_ H Q ⟨Qb,μ,g,O,a,b,q⟩=>rd.go a b q λd j v k l m x f r p=>by
 cases d with
 |int i=>unfold Qe at r;subst r;exact⟨i,rfl,post.here p f rfl⟩
 |_=>exact ah p
def zh.go{e g:Type}{h:Hp->List af->e->g->Prop}{t}{Qb μ}{σ}{O}{a_:St}{H}{Q1:Option Int->Hp->Prop}{k:Option Int->Ow->R e}{Q:g->Hp->Prop}(i:ny X.K H Qb μ σ a_)(j:nu X.K H Qb μ O)
  (q:post Ex X.K h H Qb μ ((t σ O).bnd k) Q)
  (f:∀v O1 a b,ny X.K a Qb b σ a_->Ext H μ a b->nu X.K a Qb b O1->post Ex X.K h a Qb b (k v O1) Q->Q1 v a):zh Ex X.K t a_ H Q1:=
 ⟨Qb,μ,σ,O,i,j,post.bnd q λd O1 v a b x c r p=>by
  subst r;exact f d O1 a b (i.ext x) x c p⟩
def Q3:V->Option Int->Option Int->Hp->VK->Prop:=λx lo hi H Q=>∃i,x=.str i/\i.length<=aK/\Q (.str<|Txt.slice i lo hi) H
def Xr{h:aJ}{sl}{vl vu}{lo hi}(f:h.IsSliceOf sl vl vu .none)(pl:gf vl lo)(e:gf vu hi):∃l u:Option (Int×Tok),h.IsSlice sl l u Qn/\l.map (·.1)=lo/\u.map (·.1)=hi:=by
 obtain⟨a,g,b,d⟩:=f;cases pl with
 | none=>
  cases e with
  |none=>exact⟨Qn,Qn,⟨a,g,b,d⟩,rfl,rfl⟩
  |int j t=>exact⟨Qn,Qg (j,t),⟨a,g,b,d⟩,rfl,rfl⟩
 | int i t=>
  cases e with
  |none=>exact⟨Qg (i,t),Qn,⟨a,g,b,d⟩,rfl,rfl⟩
  |int j t'=>exact⟨Qg (i,t),Qg (j,t'),⟨a,g,b,d⟩,rfl,rfl⟩
def K_:uC X Q3:=by intro a s m H x v n o p r w Q I b d e f h;obtain⟨i,rfl,g,q⟩:=h;obtain⟨t,rfl⟩:=b;obtain⟨l,u,j,rfl,rfl⟩:=Xr d e f;refine⟨"str",_,PySem.F.slot_str_getitem.lookup,io s i t,?_⟩;exact wT I (wpAny_getItem_str_slice j rfl<|post_val_or_str ⟨aP (Txt.slice_le i _ _) g,λy k A=>⟨.str _,H,I.tok k,⟨_,rfl⟩,q⟩⟩)
def vX(xs:List D)(lo hi:Option Int):List D:=(xs.drop<|HT.sIx xs.length 0 lo).take<|HT.sIx xs.length xs.length hi-HT.sIx xs.length 0 lo
def AS(O:Ow)(x:D)(lo hi:Option Int):R D:=match x with
 |.str i=>if i.length<=4000000 then .ok (.str (Txt.slice ⟨i.toArray⟩ lo hi).cps.toList) O else .bad
 |.tup ds=>if HT.sIx ds.length 0 lo=0/\HT.sIx ds.length ds.length hi=ds.length then .bad else .ok (.tup<|vX ds lo hi) O
 | x=>match tN O x with
  |some ds=>.ok (.lst<|vX ds lo hi) O
  |none=>.bad
def ye(te:DE)(tl th:DO):DE:=λσ O=>(te σ O).bnd λx O1=>(tl σ O1).bnd λlo O2=>(th σ O2).bnd λhi O3=>AS O3 x lo hi
def BC{K}{ds}{vs:List V}(h:nv K H Qb μ ds vs)(lo hi):nv K H Qb μ (vX ds lo hi) (zY vs lo hi):=by unfold vX zY;rw[h.length];exact nv.take _<|nv.drop _ h
set_option tactic.hygienic true in
def Ku{lo hi}{n o:DO}{s:Pos}(t:PD X Ex e te)(j:xo X Ex lo n)(w:xo X Ex hi o):PD X Ex (.Subscript e (.Slice lo hi Qn s) pos) (ye te n o):=
 qd (MZ (uC.or K_<|uC.or Lk L3) t.out j.out w.out) λQb μ Y O a_ H Q y A q=>rd.go y A q λd Z v H1 c_ B x C r p=>zh.go B C p λl O2 H2 n_ E G I J=>zh.go E I J λu O3 H3 yh e4 L f a=>by
  have g:=(r.ext G).ext L;unfold AS at a;split at a
  .rename_i i;unfold Qe at g;subst g;obtain⟨j.out,a⟩:=post.ite a;refine .inl ⟨_,rfl,?_,post.here a f ?_⟩
   .show i.toArray.size<=_;rw[aM];exact uM j.out
   .unfold Qe;rw[EJ]
  .rename_i M;obtain⟨k,m,rfl,N,h⟩:=g;split at a
   .exact ah a
   .rename_i P;refine .inr<|.inl ⟨k,m,rfl,N.sq,by rw[<- h.length];exact P,λS b=>post.ok a (.laid b) (f.laid b) (Qe.newT f b<|BC h l u)⟩
  .split at a
   .rename_i M T;obtain⟨k,m,rfl,U,h⟩:=tL f g T;exact .inr<|.inr ⟨k,m,rfl,U,λS b=>post.ok a (.laid b) (f.laid b) (Qe.newL f b<|BC h l u)⟩
   .exact ah a
def DQ:Ow->D->D->R D:=λO x y=>match x,y with
 |.str i,.str j=>.ok (.bl<|!(bq ⟨j.toArray⟩ ⟨i.toArray⟩ 0 j.length 1).isEmpty) O
 |_,_=>.bad
set_option tactic.hygienic true in
def T6:sj X Ex (λx y H Q=>∃i j,x=.str i/\y=.str j/\Q (.bl<|!(bq j i 0 j.length 1).isEmpty) H) DQ:=by
 intro H Qb μ O x y v w Q c a b q;unfold DQ at q;split at q
 .rename_i i j;unfold Qe at a b;subst a;subst b;refine⟨_,_,rfl,rfl,post.here q c ?_⟩;have e:(⟨j.toArray⟩:ao).length=j.length:=by show j.toArray.size=_;simp
  rw[e];exact s_
 .exact ah q
end
def pD(K:ag)(mg:ao->Option ae)(x:ao)(st:cN):Prop:=∃f fd,mg x=Qg (.ref f)/\L2.Fun K x x st f fd
structure Callee(P:aE)(w:aG)(K:ag)(mg:ao->Option ae)(base:aJ)(x:ao)(k n:Nat)(F:oU):Prop where
 ex:∃f fd ps,mg x=Qg (.ref f)/\bN K (.ref f)=Qo/\Binds K fd ps []/\nG P w K mg base yS k f fd ps (Dw K FR n F)
def SX(c:Callee X.prog X.w X.K X.mg X.base x k n F)(a:nB j X.A)(b:k<=j)(d:Gl X x)(g:qW X pe (e::es) t)
  (h:pL x:=by decide) (i:au (e::es) X.env=(Qp,eval e X.env)::au es X.env:=by rfl) (l:(backTo pos<|au es X.env).any (·.1)=Qp:=by rfl):
  PD X pe (.Call (.Name x p) (e::es) [] pos) (oM n F t):=by obtain⟨f,r,s,m,o,q,G⟩:=c.ex;exact K0 (G.mono b) a d m o q K4 g h i l
def qj(h:pD K mg x st)(S:oZ N ps (l_ st))
  (j:∀(d c e)(g)(b i)(us),us.length=ps.length->bindArgs (a8 x x (sG st) (qK st) (l_ st) .none d c e g b i) ⟨us,[]⟩=pure (ps.zip us))
  (l:∀(f)(b)(A)(a)(s)(H)(E),nB k (A.deeper<|aU x (l_ st) s.heap.objs.size f b)->qv (Dm P w K mg base N x (l_ st) f b A a s H E) pe (qK st) t):
  Callee P w K mg base x (k+1) ps.length (pU N.length t):=by obtain⟨f,m,n,F⟩:=h;refine⟨f,m,ps,n,F.kp,F.binds j,?_⟩;obtain⟨r,u,d,c,e,g,b,i,v,rfl,o,p⟩:=F.ex;exact RZ o p S λA a s H E q=>l f b A a s H E q
def Callee.imp(c:Callee P w K mg base x k n F)
  (h:∀ds O H Qb μ Q,nu K H Qb μ O->pf pe K H Qb μ (G ds O) Q->pf pe K H Qb μ (F ds O) Q):Callee P w K mg base x k n G:=by obtain⟨f,b,e,g,i,j,l⟩:=c.ex;refine⟨f,b,e,g,i,j,l.imp λo H Q E ⟨m,Qb,μ,ds,O,d,a,q⟩=>⟨m,Qb,μ,ds,O,d,a,h ds O H Qb μ Q a q⟩⟩
def frz(O:Ow)(n:Nat):Nat->D->Option D
 | 0,d=>match d with
  |.own k=>if k<n then Qg (.own k) else Qn
  |.lst _=>Qn
  |.tup _=>Qn
  |.map _ _=>Qn
  |.obj C k=>if k<n then Qg (.obj C k) else Qn
  |d=>Qg d
 | f+1,d=>match d with
  | .own k=>if k<n then Qg (.own k) else match O[k]? with
   |some ds=>(qF (frz O n f) ds).map .lst
   |none=>Qn
  |.lst ds=>(qF (frz O n f) ds).map .lst
  |.tup ds=>(qF (frz O n f) ds).map .tup
  |.map _ _=>Qn
  |.obj C k=>if k<n then Qg (.obj C k) else Qn
  |d=>Qg d
def J7(n:Nat)(r:R D):R D:=match r with
 | .ok d O=>match frz O n 8 d,qF (qF<|frz O n 8) (O.take n) with
  |some d',Qg O'=>.ok d' O'
  |_,_=>.bad
 |r=>r
section
set_option tactic.hygienic true in
theorem BJ(a:∀d b v,f d=Qg b->Qe K H Qb μ d v->Qe K H Qb b_ b v):∀(ds rm)(vs),qF f ds=Qg rm->nv K H Qb μ ds vs->nv K H Qb b_ rm vs
 |[],rm,vs,e,h=>by cases e;unfold nv at h ⊢;exact h
 | d::ds,rm,vs,e,h=>by
  unfold qF at e;split at e
  .rename_i p c g i;cases e;obtain⟨v,r,rfl,j,k⟩:=h;exact .cons (a d p v g j)<|BJ a ds c r i k
  .cases e
set_option tactic.hygienic true in
def Ly(c:nu K H Qb (μ++ν) O)(hn:μ.length=n):∀(f)(d A)(v),frz O n f d=Qg A->Qe K H Qb (μ++ν) d v->Qe K H Qb μ A v:=by
 have p:∀{a},a∉μ++ν->a∉μ:=λh m=>h<|cr _ m;have w:∀{k}{v},k<n->Qe K H Qb (μ++ν) (.own k) v->Qe K H Qb μ (.own k) v:=λ{k v}t h=>by
  obtain⟨a,rfl,e⟩:=h;rw[aD 'd'] at e;exact⟨a,rfl,e⟩
 have E:∀{v},Qe K H Qb (μ++ν) .dct v->Qe K H Qb μ .dct v:=λ{v}h=>by
  obtain⟨a,rfl,r,x,y⟩:=h;exact⟨a,rfl,r,x,p y⟩
 have G:∀{C:Nat}{v},Qe K H Qb (μ++ν) (.exn C) v->Qe K H Qb μ (.exn C) v:=λ{C v}h=>by
  obtain⟨a,L,rfl,g,r,x,y⟩:=h;exact⟨a,L,rfl,g,r,x,p y⟩
 have I:∀{C k:Nat}{v:V},k<n->Qe K H Qb (μ++ν) (.obj C k) v->Qe K H Qb μ (.obj C k) v:=λ{C k v}t h=>by
  obtain⟨a,M,b,rfl,q,x,y,e⟩:=h;rw[aD 'd'] at e;exact⟨a,M,b,rfl,q,x,p y,e⟩
 intro f
 induction f with
 | zero=>
  intro d A v e h;cases d with
  | own k=>
   unfold frz at e;dsimp only at e;split at e
   .rename_i t;cases e;exact w t h
   .cases e
  |lst o=>cases e
  |tup o=>cases e
  |dct=>cases e;exact E h
  |map ks o=>cases e
  |adr _=>cases e;unfold Qe at h ⊢;exact h
  | obj C k=>
   unfold frz at e;dsimp only at e;split at e
   .rename_i t;cases e;exact I t h
   .cases e
  |exn C=>cases e;exact G h
  |tab P=>cases e;unfold Qe at h ⊢;exact h
  |non=>cases e;unfold Qe at h ⊢;exact h
  |bl b=>cases e;unfold Qe at h ⊢;exact h
  |int i=>cases e;unfold Qe at h ⊢;exact h
  |str i=>cases e;unfold Qe at h ⊢;exact h
 | succ f ih=>
  intro d A v e h;cases d with
  | own k=>
   unfold frz at e;dsimp only at e;split at e
   .rename_i t;cases e;exact w t h
   .rename_i t;obtain⟨a,rfl,B⟩:=h;obtain⟨o,u,N,Q,S⟩:=c.at_ k a B;rw[N] at e;dsimp only at e;cases s:qF (frz O n f) o with
    |none=>rw[s] at e;cases e
    | some ps=>
     rw[s] at e;cases e;refine⟨a,u,rfl,.inl ⟨.inl Q,c.nh a<|aR B,λm=>?_⟩,BJ ih o ps u s S⟩;obtain⟨j,J,T⟩:=dD.mp m;have U:(μ++ν)[j]?=Qg a:=by rw[aD J,aB J,T]
     obtain⟨w1,Y⟩:=al.mp U;obtain⟨w2,Z⟩:=al.mp B;have:=(jA c.nd).mp<|Y.trans Z.symm;lia
  | lst o=>
   unfold frz at e;dsimp only at e;obtain⟨a,u,rfl,l,q⟩:=h;cases s:qF (frz O n f) o with
   |none=>rw[s] at e;cases e
   | some ps=>
    rw[s] at e;cases e;exact⟨a,u,rfl,l.imp (λz=>⟨z.1,z.2.1,p z.2.2⟩) id,BJ ih o ps u s q⟩
  | tup o=>
   unfold frz at e;dsimp only at e;obtain⟨a,u,rfl,l,q⟩:=h;cases s:qF (frz O n f) o with
   |none=>rw[s] at e;cases e
   | some ps=>
    rw[s] at e;cases e;exact⟨a,u,rfl,l.imp (λz=>⟨z.1,z.2.1,p z.2.2⟩) id,BJ ih o ps u s q⟩
  |dct=>cases e;exact E h
  |map ks o=>cases e
  |adr _=>cases e;unfold Qe at h ⊢;exact h
  | obj C k=>
   unfold frz at e;dsimp only at e;split at e
   .rename_i t;cases e;exact I t h
   .cases e
  |exn C=>cases e;exact G h
  |tab P=>cases e;unfold Qe at h ⊢;exact h
  |non=>cases e;unfold Qe at h ⊢;exact h
  |bl b=>cases e;unfold Qe at h ⊢;exact h
  |int i=>cases e;unfold Qe at h ⊢;exact h
  |str i=>cases e;unfold Qe at h ⊢;exact h
set_option tactic.hygienic true in
theorem Hi{α β:Type}{f:α->Option β}:∀{l:List α}{r:List β},qF f l=Qg r->r.length=l.length
 |[],r,e=>by cases e;rfl
 | x::l,r,e=>by
  unfold qF at e;split at e
  .rename_i p b c a;cases e;simp[Hi a]
  .cases e
set_option tactic.hygienic true in
theorem NJ{α β:Type}{f:α->Option β}:∀{l:List α}{r:List β}{k:Nat}{y:β},qF f l=Qg r->r[k]?=Qg y->∃x,l[k]?=Qg x/\f x=Qg y
 |[],r,k,y,e,h=>by cases e;simp at h
 | x::l,r,k,y,e,h=>by
  unfold qF at e;split at e
  .rename_i p g a b;cases e;cases k with
   |zero=>simp at h;subst h;exact⟨x,by simp,a⟩
   |succ k=>obtain⟨z,c,d⟩:=NJ b ⇑h;exact⟨z,by simpa using c,d⟩
  .cases e
def VH{j:Nat->Hp->Prop}{r:R D}{Q:VK}(g:μ.length=n)(q:pf j K H Qb μ (J7 n r) Q):pf j K H Qb μ r Q:=by
 cases r with
 |bad=>exact q
 |exc c O'=>exact q
 | ok d O'=>
  intro v l J x c h;obtain⟨L,rfl⟩:=x.pre;have b:pf j K H Qb μ (match frz O' n 8 d,qF (qF<|frz O' n 8) (O'.take n) with|some d',Qg O2=>.ok d' O2|_,_=>.bad) Q:=q;cases i:frz O' n 8 d with
  |none=>rw[i] at b;exact ah b
  | some d'=>
   cases f:qF (qF<|frz O' n 8) (O'.take n) with
   |none=>rw[i,f] at b;exact ah b
   | some O2=>
    rw[i,f] at b;have u:Ext H μ l μ:=⟨⟨[],by simp⟩,x.kept,λ_ m=>.inl m,x.there,x.tab⟩;have o:=c.len.symm;have w:nu K l Qb μ O2:=by
     refine⟨?_,(fq.mp c.nd).1,λa m=>c.nh a<|cr _ m,c.ht,λk a e=>?_⟩
     .rw[Hi f,bK,o,aI,g];lia
     .have y:=(al.mp e).1;obtain⟨A,p,B,C,E⟩:=c.at_ k a (by rw[aD y];exact e);have s:k<O2.length:=by rw[Hi f,bK,o,aI,g];lia
      obtain⟨G,t,I⟩:=NJ f<|aB s;have:G=A:=by
       rw[iZ,Qs 'd',B] at t;cases t;rfl
      subst this;exact⟨_,p,aB s,C,BJ (Ly c g 8) _ _ p I E⟩
    exact b v l μ u w<|Ly c g 8 d d' v i h
end
def Kc(F:oU):oU:=λds O=>J7 O.length<|F ds O
noncomputable def Kk(sc scope:cC)(N':List ao)(sl:qB):Bool:=
 (match scope.kind with|.function=>Qo|_=>Qp)&&decide ((scope.names.map (·.1)).Nodup)&&(scope.names.all λy=>!(y.2 == .free)||sc.names.lookup y.1==Qg .cell||sc.names.lookup y.1==Qg .free) &&
 (N'.zipIdx.all λp=>!((scope.names.any λy=>y.1==p.1&&y.2 == .local)||(scope.names.any λy=>y.1==p.1&&y.2 == .cell))||sl.contains p.2)
def ur(h:Kk sc scope N' sl=Qo):ui sc scope N' sl:=by
 unfold Kk at h;simp only[ck,decide_eq_true_eq,cE] at h;obtain⟨⟨⟨a,b⟩,c⟩,d⟩:=h;refine⟨?_,b,λy f g=>?_,λi x j k=>?_⟩
 .cases e:scope.kind<;>rw[e] at a<;>first|rfl|cases a
 .have:=c y f;rw[g] at this;simpa using this
 .have l:(x,i)∈N'.zipIdx:=by
   rw[List.mem_zipIdx_iff_getElem?];exact j
  have h:=d _ l;have n:((scope.names.any λy=>y.1==x&&y.2 == .local)||(scope.names.any λy=>y.1==x&&y.2 == .cell))=Qo:=by
   rw[Bool.or_eq_true];exact k.imp (λm=>gX.mpr ⟨_,m,by simp⟩) λm=>gX.mpr ⟨_,m,by simp⟩
  rw[n] at h;simpa using h
structure A4(mg:ao->Option ae)(x:ao)(cs:qB):Prop where
 ex:∃t,mg x=Qg (.str ⟨cs.toArray⟩ t)
section
def Bx(h:A4 X.mg x cs)(a:Gl X x:=by rfl)(b:pL x:=by decide):PD X Ex (.Name x pos) (dC<|.str cs):=by obtain⟨t,h⟩:=h.ex;exact VS cs a h rfl b
def Rx(O:Ow):D->R D
 |.int i=>.ok (.int<|-i) O
 |_=>.bad
def A0(t:DE):DE:=λσ O=>(t σ O).bnd λx O1=>Rx O1 x
def Sz(b:PD X Ex a ta):PD X Ex (.UnaryOp .USub a pos) (A0 ta):=
 qd (RG Ss b.out) λc h j O k H Q e f q=>rd.go e f q λd l v m n o x g r p=>by
  cases d with
  |int i=>unfold Qe at r;subst r;exact⟨i,rfl,post.here p g rK⟩
  |_=>exact ah p
def vU:Ow->D->D->R D:=λO x y=>match y with
 |.str _=>DQ O x y
 |_=>qG AG O x y
def AY:Ow->D->D->R D:=λO x y=>match y with
 | .str _=>match DQ O x y with
  |.ok (.bl b) O1=>.ok (.bl<|!b) O1
  |_=>.bad
 |_=>qG DG O x y
def Ew(a:X.A.units+64<cLine):pY X (cK .In) (λx y H Q=>xO X.K AG x y H Q \/ ∃i j,x=.str i/\y=.str j/\Q (.bl<|!(bq j i 0 j.length 1).isEmpty) H):=pY.or (UX a) Xg
def Eu:sj X Ex (λx y H Q=>xO X.K AG x y H Q \/ ∃i j,x=.str i/\y=.str j/\Q (.bl<|!(bq j i 0 j.length 1).isEmpty) H) vU:=by
 intro H a b O x y v w Q c d e q;unfold vU at q;split at q
 .exact .inr<|T6 H a b O _ _ v w Q c d e q
 .exact .inl<|xF H a b O x y v w Q c d e q
def ML(a:X.A.units+64<cLine):pY X (cK .NotIn) (λx y H Q=>xO X.K DG x y H Q \/ ∃i j,x=.str i/\y=.str j/\Q (.bl<|!(!(bq j i 0 j.length 1).isEmpty)) H):=pY.or (V6 a) Yh
set_option tactic.hygienic true in
def MJ:sj X Ex (λx y H Q=>xO X.K DG x y H Q \/ ∃i j,x=.str i/\y=.str j/\Q (.bl<|!(!(bq j i 0 j.length 1).isEmpty)) H) AY:=by
 intro H a g O x y v w Q c b d q;unfold AY at q;split at q
 .rename_i f;cases x with
  | str i=>
   unfold Qe at b d;subst b;subst d;refine .inr ⟨_,_,rfl,rfl,post.here q c ?_⟩;have e:(⟨f.toArray⟩:ao).length=f.length:=by show f.toArray.size=_;simp
   rw[e];exact s_
  |_=>exact ah q
 .exact .inl<|xF H a g O x y v w Q c b d q
end
section
def Inv.turns(ch:List af)(I:L2.Inv X Qc a_ H s)(k:∀b o,b∉ch->s.heap.get? b=Qg o->h'.get? b=Qg o)(d:∀b∈ch,qV X Qc H b)(ht:0<t':=by first|assumption|exact Inv.tk ‹_›):L2.Inv X Qc a_ H { s with heap:=h',toks:=t' }:=by
 have f:∀b u,H b=Qg u->b∉ch:=λb u e z=>by rw[(d b z).1] at e;cases e
 have g:Un (qf X.stack) ch H H s.heap h':=⟨λb o e _ _ n=>k b o n e,λb o e _ _ n=>⟨o.slots,k b o n e⟩,λ_ _ _ n _=>n,λb o e n=>⟨o,k b o n e⟩,λ_ _ e=>e,λ_ _ _ e=>e,λb j e=>⟨#[],by rw[e];simp⟩⟩;have a:HOk X.prog X.w H h':=λb u e=>(I.hok b u e).stay (λc v h q=>k c v (by
  rcases h with z|z
  .rw[z];exact f b u e
  .exact f c _ z) q) (λ_ q=>q) λ_ _ q=>q
 exact I.call g a I.bare λb i=>let ⟨_,f1,_,f3,f4,f5⟩:=d b i;⟨f3,f1,f4,f5⟩
end
def Itz(K:ag)(l m:af):It:=
 ⟨λi H=>∃xs ys x y,pI K H l xs/\pI K H m ys/\xs[i]?=Qg x/\ys[i]?=Qg y,
   λi H v H'=>∃p x y,H p=Qn/\v=.ref p/\(∀xs,pI K H l xs->xs[i]?=Qg x)/\(∀ys,pI K H m ys->ys[i]?=Qg y)/\H'=upd H p (.tup [x,y]),
   λi H=>∃xs ys,pI K H l xs/\pI K H m ys/\(xs.length<=i\/ys.length<=i)⟩
def n4(K:ag)(src:Src)(a:af)(H:Hp)(Qb μ:List af):Prop:=∀hid' H' b_ O',Mv H Qb μ H' hid' b_->nu K H' hid' b_ O'->∃ds vs,pI K H' a vs/\nv K H' hid' b_ ds vs/\∀i,src.get O' i=ds[i]?
section
def n4.val(l:LstAt K H Qb μ a vs)(q:nv K H Qb μ ds vs):n4 K (.val ds) a H Qb μ:=λb d e f m c=>⟨ds,vs,(l.mv m).sq,q.mv m,λ_=>rfl⟩
def n4.own(d:μ[k]?=Qg a):n4 K (.own k) a H Qb μ:=by
 intro e p q f m c;obtain⟨g,rfl⟩:=m.pre;have h:(μ++g)[k]?=Qg a:=by rw[aD (al.mp d).1];exact d
 obtain⟨b,j,l,n,o⟩:=c.at_ k a h;exact⟨b,j,.of n,o,λi=>by show(match f[k]? with|some b=>b[i]?|none=>Qn)=_;rw[l]⟩
def n4.mv(h:n4 K src a H Qb μ)(e:Mv H Qb μ H1 vL c_):n4 K src a H1 vL c_:=λb d f g m c=>h b d f g (e.trans m) c
def nH.zip(E:n4 K s1 a H Qb μ)(G:n4 K s2 b H Qb μ):nH K (Itz K a b) (.zip s1 s2) H Qb μ:=by
 intro e n o f m c i;obtain⟨I,g,h,q,J⟩:=E e n o f m c;obtain⟨L,j,k,r,M⟩:=G e n o f m c;show match (match s1.get f i,s2.get f i with|some x,Qg y=>Qg (D.tup [x,y])|_,_=>Qn) with|some d=>_|none=>_
 rw[J,M];cases s:I[i]? with
 | none=>
  exact⟨g,j,h,k,.inl (by rw[<- q.length];exact ba.mp s)⟩
 | some x=>
  cases t:L[i]? with
  | none=>
   exact⟨g,j,h,k,.inr (by rw[<- r.length];exact ba.mp t)⟩
  | some y=>
   obtain⟨v,u,N⟩:=q.get s;obtain⟨w,A,O⟩:=r.get t;refine⟨⟨g,j,v,w,h,k,u,A⟩,λz T P=>?_⟩;obtain⟨p,U,Y,l,rfl,Q,S,rfl⟩:=P;have B:=Q g h;rw[u] at B;cases B;have C:=S j k;rw[A] at C;cases C;exact⟨.laid l,c.laid l,Qe.newT c l (.cons N<|.cons O .nil)⟩
end
noncomputable def Kq:D->Option Src
 |.lst ds=>Qg<|.val ds
 |.own k=>Qg<|.own k
 |_=>Qn
def zkU(t:DA):DI:=λσ O=>(t σ O).bnd λxs O1=>match xs with
 | [x,y]=>match Kq x,Kq y with
  |some p,Qg q=>.ok (.zip p q) O1
  |_,_=>.bad
 |_=>.bad
section
def LJ{i j:Nat}{x y:ao}{c d e:Pos}{f:Nat}(g:X.calm=Qo)(b:X.N.Nodup)(h:X.N[i]?=Qg x)(k:X.N[j]?=Qg y)(l:Loc X.env.scope x)(m:Loc X.env.scope y)
  (n:X.fn x=Qo\/X.env.scope.names.lookup x=Qg .local) (a:X.fn y=Qo\/X.env.scope.names.lookup y=Qg .local):PG X (.Tuple [.Name x c,.Name y d] f e) ((Tg.two i j).rd X.K):=
 S8 g (Ni (EH b h l n)<|Ni (EH b k m a) Vq)
def z9:List D->Option (List Int)
 |[]=>Qg []
 |.int i::r=>(z9 r).map (i :: ·)
 |_=>Qn
theorem G6:∀{ds}{vs}{ns},nv K H Qb μ ds vs->z9 ds=Qg ns->vs=ns.map V.int
 |[],vs,ys,h,e=>by unfold nv at h;subst h;cases e;rfl
 | d::ds,vs,ys,h,e=>by
  obtain⟨v,r,rfl,a,b⟩:=h;cases d with
  | int i=>
   unfold z9 at e;cases q:z9 ds with
   |none=>rw[q] at e;cases e
   | some zs=>
    rw[q] at e;cases e;unfold Qe at a;subst a;rw[G6 b q];rfl
  |_=>cases e
def Ei:Ow->List D->R D:=λO xs=>match xs with
 | [.str cs]=>match kC ⟨cs.toArray⟩ with
  |some n=>if cs.length<=640 then .ok (.int n) O else .bad
  |none=>.bad
 |xs=>F_ O xs
def WG:nM X (.type "int") (λa H Q=>∃x n,a=[.str x]/\kC x=Qg n/\x.length<=640/\Q (.int n) H):=by intro b s e H a f Q I r h;obtain⟨x,n,rfl,c,d,q⟩:=h;obtain⟨u,rfl,t,rfl⟩:=sD r;exact PySem.W.KIN.call_text c d ⟨.int _,H,I.tok _,⟨_,rfl⟩,q⟩
noncomputable def KR:List V->Hp->VK->Prop:=λxs H Q=>((∃i,xs=[.int i]/\Q (.int i) H) \/ ∃k,xs=[.bl k]/\Q (.int (if k then 1 else 0)) H) \/ ∃x n,xs=[.str x]/\kC x=Qg n/\x.length<=640/\Q (.int n) H
def W5:nM X (.type "int") KR:=nM.or WZ WG
set_option tactic.hygienic true in
def UN:uq X Ex KR Ei:=by
 intro H a e O j f Q c d q;unfold Ei at q;split at q
 .rename_i g;obtain⟨v,rfl,b⟩:=rQ d;unfold Qe at b;subst b;split at q
  .rename_i n h;obtain⟨i,q⟩:=post.ite q;refine .inr ⟨_,n,rfl,h,?_,post.here q c rK⟩;show g.toArray.size<=640;simpa using i
  .exact ah q
 .exact .inl<|Se H a e O _ f Q c d q
end
def Callee.self(c:Callee P w K mg base x k n F):Callee P w K mg base x k n F:=c
section
variable{X:Cx}{Ex:Nat->Hp->Prop}{a_:St}{H:Hp}{Qb μ:List af}{O:Ow}
def Np:qE X Ex (.Pass pos) qw:=yt UO λQb μ c O E a_ H a b q=>q a_ H μ .refl a b
def F1:DE:=λ_ O=>.ok .dct O
def Sd:PD X Ex (.Dict [] [] pos) F1:=
 qd V7 λQb μ c O a_ H Q d b q=>λp a=>post.ok q (.laid a) (b.laid a) (by
  unfold Qe;exact⟨p,rfl,.inl pK,b.not_in a⟩)
noncomputable def sY(tab:List (Int×Int))(i:Int):Option Int:=(tab.find? λkv=>kv.1==i).map (·.2)
noncomputable def RF(at_:List (Int×Int)->Int->Option Int)(tab:List (Int×Int))(t:DE):DE:=λσ O=>(t σ O).bnd λx O1=>match x with
 | .int i=>match at_ tab i with
  |some v=>.ok (.int v) O1
  |none=>.bad
 |_=>.bad
def F6:List (Int×Int)->DE->DE:=RF sY
noncomputable def DV:List jV->List (Int×Int)->Bool
 |[],[]=>Qo
 |e::es,(k,v)::r=>(match e.key with|.int i _=>i==k|_=>Qp)&&(e.hash==hashInt k)&&(match e.val with|.int i _=>i==v|_=>Qp)&&DV es r
 |_,_=>Qp
def DD(o:Obj)(tab:List (Int×Int)):Bool:=(match o.cls with|.type n=>n == "dict"|_=>Qp)&&o.dict.isNone&&o.slots.isEmpty&&decide ((tab.map (·.1)).Nodup)&&(match o.data with|.dict es _=>DV es.toList tab|_=>Qp)
structure yT(K:ag)(mg:ao->Option ae)(x:ao)(tab:List (Int×Int)):Prop where
 ex:∃e o,mg x=Qg (.ref e)/\K.lookup e=Qg o/\DD o tab=Qo/\(e==sysModules)=Qp
set_option tactic.hygienic true in
theorem Oi:∀{f:List jV}{tab},DV f tab=Qo->∃a:List (Int×ae),Pairs (intKind P w) f a/\(∀e∈f,∃k,(intKind P w).is k e.key=Qo/\e.hash=(intKind P w).hash k)/\a.map (·.1)=tab.map (·.1)/\
  ∀i,(valueAt a i).isSome=(sY tab i).isSome/\∀v,sY tab i=Qg v->∃t,valueAt a i=Qg (.int v t)
 |[],[],_=>⟨[],.nil,by simp,rfl,λi=>⟨rfl,λv h=>by cases h⟩⟩
 |[],_::_,h=>by cases h
 |_::_,[],h=>by cases h
 | e::f,(k,v)::r,h=>by
  obtain⟨b,o,s⟩:=e;unfold DV at h;simp at h;obtain⟨⟨⟨c,g⟩,d⟩,x⟩:=h;split at c
  .rename_i i t;split at d
   .rename_i j u;have c:i=k:=⇑c
    have g:b=hashInt k:=⇑g
    have d:j=v:=⇑d
    subst c d;obtain⟨a,p,y,A,l⟩:=Oi x;have n:(intKind P w).is i (.int i t)=Qo:=by show gH i (.int i t)=Qo;simp[gH]
    refine⟨(i,.int j u)::a,.cons n rfl p,λe he=>?_,by simp[A],λq=>?_⟩
    .rcases av.mp he with rfl|he
     .exact⟨i,n,g⟩
     .exact y e he
    .unfold valueAt sY;by_cases m:i=q
     .subst m;simp
     .have B:(decide<|(i,lq j u).1=q)=Qp:=⇑m
      have C:((i,j).1==q)=Qp:=⇑m
      rw[dg,dg,B,C];exact l q
   .cases d
  .cases c
set_option tactic.hygienic true in
def VT{P}{w}{o}{tab}(h:DD o tab=Qo):∃f:Int->Option ae,(∀(b:aJ)(e),b.get? e=Qg o->b.MapOf (intKind P w) e f)/\∀i,(f i).isSome=(sY tab i).isSome/\∀v,sY tab i=Qg v->∃t,f i=Qg (.int v t):=by
 obtain⟨m,k,l,c⟩:=o;unfold DD at h;simp at h;obtain⟨⟨⟨⟨a,q⟩,r⟩,s⟩,d⟩:=h;split at a
 .rename_i n;have a:n = "dict":=⇑a
  split at d
  .rename_i u x;obtain⟨y,p,A,B,g⟩:=Oi d;refine⟨valueAt y,λb e j=>?_,g⟩;refine l5 ⟨_,u,x,j,⟨?_,?_,?_⟩,rfl,?_,p,by rw[B];exact s⟩
   .show dJ n=_;rw[a]
   .simpa using q
   .simpa using r
   .intro e j;exact A e ⇑j
  .cases d
 .cases a
def L5(h:yT X.K X.mg x tab):∃e,X.mg x=Qg (.ref e)/\(e==sysModules)=Qp/\∃f:Int->Option ae,(∀(a)(a_:St)(H:Hp)(s),L2.Inv X a a_ H s->s.heap.MapOf (intKind X.prog X.w) e f)/\
  ∀i,(f i).isSome=(sY tab i).isSome/\∀v,sY tab i=Qg v->∃t,f i=Qg (.int v t):=by obtain⟨e,o,c,d,g,j⟩:=h.ex;obtain⟨f,m,b⟩:=VT g;exact⟨e,c,j,f,λa a_ H s I=>m _ e<|I.kIn e o d,b⟩
def Hz(i)(t):(intKind P w).is i (.int i t)=Qo:=by show gH i (.int i t)=Qo;simp[gH]
def TZ(h:yT X.K X.mg x tab)(B:Gl X x)(C:PD X Ex i ti)(E:A8 i)(G:pL x:=by decide):PD X Ex (.Subscript (.Name x p) i pos) (F6 tab ti):=by
 obtain⟨e,J,h4,f,L,l⟩:=L5 h;refine⟨?_⟩;rintro a s a_ H Q I ⟨Qb,μ,σ,O,N,P,q⟩;refine G2 fY.lookup E (Am (v:=.ref e) B J rfl G a s a_ H (λv m=>v=.ref e/\m=H) I ⟨rfl,rfl⟩ |> λz=>oO z λu S ⟨v,m,T,n,U,Y⟩=>?_);subst U Y;cases n;refine oO (C.out a S a_ m _ T (rd.go N P q (Q1:=λy c=>∃Qb g k d,nu X.K c Qb g k/\Qe X.K c Qb g d y/\pf Ex X.K c Qb g (match d with|.int i=>(match sY tab i with|some v=>.ok (.int v) k|none=>.bad)|_=>.bad) Q)
  λd k y c g e2 x2 o r b=>⟨Qb,g,k,d,o,r,b⟩)) λu Z ⟨y,c,A,n,Qb,g,k,d,o,r,b⟩=>?_
 have M:=L a a_ c Z A;cases d with
 | int j=>
  unfold Qe at r;subst r;obtain⟨t,rfl⟩:=n;have b:pf Ex X.K c Qb g (match sY tab j with|some v=>.ok (.int v) k|none=>.bad) Q:=b;cases w:sY tab j with
  |none=>rw[w] at b;exact ah b
  | some v=>
   rw[w] at b;obtain⟨t',ht⟩:=(l j).2 v w;exact⟨M.typeIs,jC (Hz j t) M ht ⟨.int v,c,A.tok _,⟨_,rfl⟩,post.here b o rK⟩⟩
 |_=>exact ah b
def y6(neg:Bool)(tab:List (Int×Int))(t:DE):DE:=λσ O=>(t σ O).bnd λx O1=>match x with
 |.int i=>.ok (.bl (if neg=Qo then !(sY tab i).isSome else (sY tab i).isSome)) O1
 |_=>.bad
def Nu(a:Bool)(h:yT X.K X.mg x tab)(C:Gl X x)(E:PD X Ex i ti)(G:pL x:=by decide):PC X (if a=Qo then .NotIn else .In) i (.Name x p) (rd Ex X.K<|y6 a tab ti):=by
 obtain⟨e,J,B,f,L,o⟩:=L5 h;rintro b s a_ H Q I ⟨Qb,μ,σ,O,N,P,q⟩;refine oO (E.out b s a_ H _ I (rd.go N P q (Q1:=λy g=>∃Qb k l d,nu X.K g Qb k l/\Qe X.K g Qb k d y/\pf Ex X.K g Qb k (match d with|.int i=>.ok (.bl (if a=Qo then !(sY tab i).isSome else (sY tab i).isSome)) l|_=>.bad) Q)
  λd l y g k e2 x2 m r c=>⟨Qb,k,l,d,m,r,c⟩)) λu S ⟨y,g,T,U,Qb,k,l,d,m,r,c⟩=>?_
 refine oO (Am (v:=.ref e) C J rfl G b S a_ g (λv Y=>v=.ref e/\Y=g) T ⟨rfl,rfl⟩) λw Z ⟨v,n,A,xN,ev,eh⟩=>?_;subst ev eh;cases xN;have M:=L b a_ n Z A;cases d with
 | int j=>
  unfold Qe at r;subst r;obtain⟨t,rfl⟩:=U;have c:pf Ex X.K n Qb k (.ok (.bl (if a=Qo then !(sY tab j).isSome else (sY tab j).isSome)) l) Q:=c;rw[<- (o j).1] at c;cases a with
  |false=>exact wpAny_in_of (Hz j t) B M ⟨.bl _,n,A.tok _,rfl,post.here c m s_⟩
  |true=>exact wpAny_notIn_of (Hz j t) B M ⟨.bl _,n,A.tok _,rfl,post.here c m s_⟩
 |_=>exact ah c
def Wf(h:yT X.K X.mg x tab)(a:Gl X x)(b:PD X Ex i ti)(c:pL x:=by decide)(d:behindInMarks .NotIn (.Name x p)=Qp:=by rfl):PD X Ex (.Compare i [.NotIn] [.Name x p] pos) (y6 Qo tab ti):=⟨GP (Nu Qo h a b c) d⟩
def Gf(b:ny X.K H Qb μ a a_)(c:nu X.K H Qb μ O)(q:u6 Ex X.K H Qb μ (p_ td a O) Q):tB (rd Ex X.K td) a_ H Q:=
 Nl (λQb μ a O a_ H Q b c q=>⟨Qb,μ,a,O,b,c,q⟩) Qb μ a O a_ H Q b c q
def Xu(h:yT X.K X.mg x tab)(a:Gl X x)(b:PD X Ex i ti)(c:pL x:=by decide)(d:behindInMarks .NotIn (.Name x p)=Qp:=by rfl):pO X Ex (.Compare i [.NotIn] [.Name x p] pos) (p_<|y6 Qo tab ti):=
 Ah (GF (Nu Qo h a b c) d) λQb μ g O a_ H Q e f q=>Gf e f q
end
end DL
namespace DL
open PySem L2 PyProof.Rows
section
end
noncomputable def uJ:List D->Option o_
 |[]=>Qg []
 |.str cs::r=>(uJ r).map (cs :: ·)
 |_=>Qn
section
theorem GX{K:ag}:∀{ds:List D}{vs:List V}{a:o_},nv K H Qb μ ds vs->uJ ds=Qg a->vs=a.map λb=>V.str ⟨b.toArray⟩
 |[],vs,ys,h,e=>by unfold nv at h;subst h;cases e;rfl
 | d::ds,vs,ys,h,e=>by
  unfold nv at h;obtain⟨v,r,rfl,c,f⟩:=h;cases d with
  | str b=>
   unfold uJ at e;cases q:uJ ds with
   |none=>rw[q] at e;cases e
   | some zs=>
    rw[q] at e;cases e;unfold Qe at c;subst c;rw[GX f q];rfl
  |_=>cases e
def Lq:bi "len" = Qg (.builtin "len"):=by boot_by_name
def Lo:bi "all" = Qg (.builtin "all"):=by boot_by_name
def Ti:bi "any" = Qg (.builtin "any"):=by boot_by_name
def LG:bi "int" = Qg (.type "int"):=by boot_by_name
def Ey:bi "str" = Qg (.type "str"):=by boot_by_name
def M0:bi "tuple" = Qg (.type "tuple"):=by boot_by_name
def zev:bi "min" = Qg (.builtin "min"):=by boot_by_name
def EN:bi "sorted" = Qg (.builtin "sorted"):=by boot_by_name
def tY:bi "isinstance" = Qg (.builtin "isinstance"):=by boot_by_name
def UM:bi "bool" = Qg (.type "bool"):=by boot_by_name
def TF:bi "dict" = Qg (.type "dict"):=by boot_by_name
end
end DL
namespace DL
def UT{α:Type}(a ds:List α)(d:α):(a++d::ds)[a.length]?=Qg d:=by simp
theorem Oa:∀(ds b a:List D)(f),ds.length<=f->(∀d∈ds,∀a:List D,a.length<4000000->step d O a=.ok (a++g d) O)->a.length+(ds.flatMap g).length+ds.length<4000000->
  qm (.val<|b++ds) step f b.length O a=.ok (a++ds.flatMap g) O
 | [],b,a,f,_,_,_=>by
  cases f<;>(unfold qm;simp[Src.get])
 |d::ds,b,a,0,h,_,_=>by simp at h
 | d::ds,b,a,f+1,h,hs,hl=>by
  unfold qm;have e:Src.get (.val<|b++d::ds) O b.length=Qg d:=UT b ds d;rw[e];simp only[gG,aI,a7] at hl;show((step d O a).bnd λc i=>qm (.val<|b++d::ds) step f (b.length+1) i c)=_;rw[hs d aL a 'd'];show qm (.val<|b++d::ds) step f (b.length+1) O (a++g d)=_;have:=Oa ds (b++[d]) (a++g d) f ⇑h (λj k=>hs j<|ar _ k) (by rw[aI];lia);rw[bd,List.singleton_append,aI,hO] at this;rw[this];simp
def zid(n:oR σ O=.ok (.val ds) O)(u:ds.length<1900000)
  (q:∀d∈ds,tV ts ((qe (qe (σ++aN ext Qn) [i]) [i]).set i<|Qg d) O=.ok (p d) O) (r:∀d∈ds,p d=Qo->te ((qe (qe (σ++aN ext Qn) [i]) [i]).set i<|Qg d) O=.ok (e d) O) (o):
  qc o ext oR (.one i) ts [] te σ O=yj o (.ok ((ds.filter p).map e) O):=by
 unfold qc An;rw[n];show yj o (yE<|qm (.val ds) _ ds.length 0 O [])=_;have c:∀d∈ds,∀a:List D,a.length<4000000->yW ⟨oR,.one i,ts⟩ [] te (qe (σ++aN ext Qn)<|pj [⟨oR,.one i,ts⟩]) d O a=.ok (a++(if p d=Qo then [e d] else [])) O:=by
  intro d j a s;show(match Tg.put (.one i) d (qe (qe (σ++aN ext Qn) [i]) [i]) with|some pJ=>(tV ts pJ O).bnd λb k=>if b=Qo then vk [] te pJ k a else .ok a k|none=>.bad)=_;show(tV ts ((qe (qe (σ++aN ext Qn) [i]) [i]).set i<|Qg d) O).bnd _=_;rw[q d j];show(if p d=Qo then vk [] te _ O a else .ok a O)=_;by_cases f:p d=Qo
  .rw[Qs f,Qs f];unfold vk;rw[r d j f];show(if a.length<4000000 then _ else _)=_;rw[Qs s]
  .rw[Qu f,Qu f];simp
 have m:∀l:List D,(l.flatMap λd=>if p d=Qo then [e d] else [])=(l.filter p).map e:=by
  intro l
  induction l with
  |nil=>rfl
  | cons x l ih=>
   rw[gG,ih,gW];by_cases h:p x=Qo
   .rw[Qs h,Qs h];rfl
   .rw[Qu h,Qu h];rfl
 have g:((ds.filter p).map e).length<=ds.length:=by rw[aW];exact hU _ _
 have w:=Oa ds [] [] ds.length (ay _) c (by rw[m];simp at g ⊢;lia);rw[iu,m,iu] at w;have t:qm (.val ds) (yW ⟨oR,.one i,ts⟩ [] te (qe (σ++aN ext Qn)<|pj [⟨oR,.one i,ts⟩])) ds.length 0 O []=.ok ((ds.filter p).map e) O:=w;rw[t];rfl
theorem N1(I:Nat->Sg->Ow->Prop)(h:∀i a O d,I i a O->ds[i]?=Qg d->∃σ' b,step d a O=.nx σ' b/\I (i+1) σ' b):
  ∀(f i)(a)(O),I i a O->ds.length<=i+f->i<=ds.length->∃σ' b,uK (.val ds) step f i a O=.nx σ' b/\I ds.length σ' b
 | 0,i,a,O,hI,h1,h2=>by
  have:i=ds.length:=by lia
  subst this;refine⟨a,O,?_,hI⟩;unfold uK;have e:Src.get (.val ds) O ds.length=Qn:=by simp[Src.get]
  rw[e]
 | f+1,i,a,O,hI,h1,h2=>by
  unfold uK;have c:Src.get (.val ds) O i=ds[i]?:=rfl;rw[c];cases e:ds[i]? with
  | none=>
   have:i=ds.length:=by have:=ba.mp e;lia
   subst this;exact⟨a,O,rfl,hI⟩
  | some d=>
   obtain⟨σ',b,g,j⟩:=h i a O d hI e;dsimp only;rw[g];exact N1 I h f (i+1) σ' b j 'd' (by have:=(al.mp e).1;lia)
section
variable{O:Ow}{ds:List D}
def SY(h:tA σ O=.ok ds O1)(a:ds.length=n):oM n F tA σ O=F ds O1:=by show((tA σ O).bnd _)=_;rw[h];show(if ds.length=n then _ else _)=_;rw[Qs a]
def yw(a:ta σ O=.ok x O1)(b:tb σ O1=.ok y O2):oK f ta tb σ O=f O2 x y:=by show((ta σ O).bnd _)=_;rw[a];show((tb σ O1).bnd _)=_;rw[b];rfl
def EG(h:t σ O=.ok (.bl b) O1):p_ t σ O=.ok b O1:=by show((t σ O).bnd _)=_;rw[h];rfl
def T8(h:t σ O=.ok (.lst ds) O1):qA t σ O=.ok (.val ds) O1:=by show((t σ O).bnd _)=_;rw[h];rfl
def Md(h:t σ O=.ok x O1):pX i t σ O=.nx (σ.set i<|Qg x) O1:=by show((t σ O).bnS _)=_;rw[h];rfl
def GD(h:c σ O=.ok b O1):qT c a d σ O=if b=Qo then a σ O1 else d σ O1:=by show((c σ O).bnS _)=_;rw[h];rfl
def y8(h:a σ O=.nx σ' O1):o3 a d σ O=d σ' O1:=by show(match a σ O with|.nx σ' O'=>_|r=>r)=_;rw[h]
def Vj(h:it a O=.ok src O1):xr it g body a O=uK src (λd a O=>match g.put d a with|some σ'=>body σ' O|none=>.bad) (src.size O1) 0 a O1:=by show((it a O).bnS _)=_;rw[h];rfl
def zjQ(a:i<ds.length):rk O (.tup ds) (.int<|i)=.ok ds[i] O:=by show(match L2.atI ds (i) with|some d=>R.ok d O|none=>R.bad)=_;rw[L2.atI_nat<|aB a]
def TN(a:i<ds.length):rk O (.lst ds) (.int<|i)=.ok ds[i] O:=by show(match L2.atI ds (i) with|some d=>R.ok d O|none=>R.bad)=_;rw[L2.atI_nat<|aB a]
end
theorem M7{α:Type}{src}{step:D->Ow->List D->R (List D)}{O}{j:α->D}{g:α->List D}{k:List α}(l:∀i,src.get O i=(k.map j)[i]?):∀(ds c:List α)(b)(f),k=c++ds->ds.length<=f->
  (∀a∈ds,∀b:List D,b.length<4000000->step (j a) O b=.ok (b++g a) O)->b.length+(ds.flatMap g).length+ds.length<4000000->qm src step f c.length O b=.ok (b++ds.flatMap g) O
 | [],c,b,f,ha,_,_,_=>by
  have e:src.get O c.length=Qn:=by rw[l,ha];simp
  cases f<;>(unfold qm;rw[e];simp)
 |d::ds,c,b,0,_,h,_,_=>by simp at h
 | d::ds,c,b,f+1,ha,h,hs,hl=>by
  unfold qm;have e:src.get O c.length=Qg (j d):=by rw[l,ha];simp
  rw[e];simp only[gG,aI,a7] at hl;show((step (j d) O b).bnd λm n=>qm src step f (c.length+1) n m)=_;rw[hs d aL b 'd'];show qm src step f (c.length+1) O (b++g d)=_;have:=M7 l ds (c++[d]) (b++g d) f (by rw[ha];simp) ⇑h (λo p=>hs o<|ar _ p) (by rw[aI];lia);rw[aI,hO] at this;rw[this];simp
theorem HQ{α β:Type}(p:α->Bool)(e:α->β):∀l:List α,(l.flatMap λd=>if p d=Qo then [e d] else [])=(l.filter p).map e
 |[]=>rfl
 | x::l=>by
  rw[gG,HQ p e l,gW];by_cases a:p x=Qo
  .rw[Qs a,Qs a];rfl
  .rw[Qu a,Qu a];rfl
def ziO{α:Type}{ext}{oR}{g}{ts}{te}{σ}{O O0}{src}{l:List α}{d:α->D}{p:α->Bool}{e:α->D}{k:α->Sg}{o}(r:oR σ O0=.ok src O)(s:∀i,src.get O i=(l.map d)[i]?)(t:src.size O=l.length)(A:l.length<1900000)
  (m:∀a∈l,g.put (d a) (qe (qe (σ++aN ext Qn)<|g.slots++[])<|g.slots++[])=Qg (k a)) (u:∀a∈l,tV ts (k a) O=.ok (p a) O) (v:∀a∈l,p a=Qo->te (k a) O=.ok (e a) O):
  qc o ext oR g ts [] te σ O0=yj o (.ok ((l.filter p).map e) O):=by
 unfold qc An;rw[r];show yj o (yE<|qm src _ (src.size O) 0 O [])=_;have f:∀a∈l,∀c:List D,c.length<4000000->yW ⟨oR,g,ts⟩ [] te (qe (σ++aN ext Qn)<|pj [⟨oR,g,ts⟩]) (d a) O c=.ok (c++(if p a=Qo then [e a] else [])) O:=by
  intro a n c x;show(match g.put (d a) (qe (qe (σ++aN ext Qn)<|g.slots++[])<|g.slots++[]) with|some pJ=>(tV ts pJ O).bnd λb q=>if b=Qo then vk [] te pJ q c else .ok c q|none=>.bad)=_;rw[m a n];show(tV ts (k a) O).bnd _=_;rw[u a n];show(if p a=Qo then vk [] te _ O c else .ok c O)=_;by_cases h:p a=Qo
  .rw[Qs h,Qs h];unfold vk;rw[v a n h];show(if c.length<4000000 then _ else _)=_;rw[Qs x]
  .rw[Qu h,Qu h];simp
 have j:((l.filter p).map e).length<=l.length:=by rw[aW];exact hU _ _
 have w:=M7 s l [] [] l.length rfl (ay _) f (by rw[HQ];simp at j ⊢;lia);rw[HQ,iu] at w;have y:qm src (yW ⟨oR,g,ts⟩ [] te (qe (σ++aN ext Qn)<|pj [⟨oR,g,ts⟩])) (src.size O) 0 O []=.ok ((l.filter p).map e) O:=by rw[t];exact w
 rw[y];rfl
def SK{α:Type}{it}{i}{body}{b}{O0 O}{l:List α}{c:α->D}(n:it b O0=.ok (.val<|l.map c) O)(I:Nat->Sg->Ow->Prop)(h:∀(k)a b O,l[k]?=Qg a->I k b O->∃σ' f,body (b.set i (Qg<|c a)) O=.nx σ' f/\I (k+1) σ' f)(h0:I 0 b O):
  ∃σ' f,xr it (.one i) body b O0=.nx σ' f/\I l.length σ' f:=by
 obtain⟨σ',f,o,m⟩:=N1 (step:=λd b O=>match Tg.put (.one i) d b with|some σ'=>body σ' O|none=>.bad) I (λj b O d p g=>by
  rw[bE] at g;cases e:l[j]? with
  |none=>rw[e] at g;cases g
  | some a=>
   rw[e] at g;cases g;exact h j a b O e p) (l.map c).length 0 b O h0 'k' (cH _)
 rw[aW] at m;exact⟨σ',f,(Vj n).trans o,m⟩
end DL
namespace DL
open PySem L2
structure uB(h0:aJ)(H:Hp)(h:aJ)(a:af)(C:ae):Prop where
 ex:∃oe vs,h.get? a=Qg oe/\(oe.cls=C/\oe.dict=Qn)/\oe.data=.fields vs/\1<vs.size/\(vs[1]?=Qg .none \/ ∃T oT ts,vs[1]?=Qg (.ref T)/\T≠a/\h0.get? T=Qn/\H T=Qn/\h.get? T=Qg oT/\oT.data=.fields ts/\ts[3]?=Qg .none)
 new:h0.get? a=Qn
 free:H a=Qn
def We(o:Obj)(f):(o.mapFields f).dict=o.dict:=by obtain⟨c,d,a,b⟩:=o;cases a<;>rfl
structure Kp(h0:aJ)(H:Hp)(fs:List af)(h h':aJ):Prop where
 keep:∀b o,h.get? b=Qg o->b∉fs->(H b≠Qn\/h0.get? b≠Qn)->h'.get? b=Qg o
 slot:∀b o,h.get? b=Qg o->b∈fs->∃sl,h'.get? b=Qg { o with slots:=sl }
 there:∀b o,h.get? b=Qg o->∃o',h'.get? b=Qg o'
 size:h.objs.size<=h'.objs.size
section
def LZ(U:A.frames=Qg (env::outer))(v:s.heap.FunFrames base (env::outer))(Y:env.frame=Qg L)(w:s.heap.get? a=Qg oe)(y:oe.cls=C/\oe.dict=Qn)(p:oe.data=.fields vs)(l:1<vs.size)(j:h0.get? a=Qn)(d:H a=Qn)
  (Z:∀b,s.heap.objs.size<=b->H b=Qn) (FF:∀b,s.heap.objs.size<=b->h0.get? b=Qn) (h:∀h',Kp h0 H (qf<|env::outer) s.heap h'->uB h0 H h' a C->Q () { s with heap:=h' }):
  am M A (do let f <- frameOf env;let pl <- entryPlaceOf L hn;let b <- lj head f .none (bB L) .none pl;setField (.ref a) 1 b) (λ_ s'=>am M A (setFlight (.ref a) Qn) Q E s') E s:=by
 have B:a∉qf (env::outer):=λhm=>by
  obtain⟨_,o,G,x8⟩:=v.mem hm;rw[w] at G;cases G;exact x8 vs p
 refine aa (wpAny_frameOf_fun U v Y λc ⟨r,I,J⟩=>aa (wpAny_entryPlaceOf λpl pV=>?_));unfold lj newFields;refine aa (cb ?_<|pV.sizeOk5 _ _ _ _ _);have N:c.get? a=Qg oe:=(I a B).trans w;generalize rg:({ cls:=.type "traceback",dict:=Qn,data:=.fields ([head,.ref L,.none,bB L,.none]++(if pl.isEmpty then aN 6 bW else pl)).toArray }:Obj)=k;have m:k.data=.fields ([head,.ref L,.none,bB L,.none]++(if pl.isEmpty then aN 6 bW else pl)).toArray:=by rw[<- rg]
 have O:=ai (h:=c) k N;refine ei O p l ?_;have n:c.objs.size≠a:=dQ<|aC N;have t:=cw p (·.setIfInBounds 1 (bJ c.objs.size));have u:=bj (e9 (·.setIfInBounds 1 (bJ c.objs.size))) O<|cS t;have P:((c.push k).update a<|e9 (·.setIfInBounds 1 (bJ c.objs.size))).get? c.objs.size=Qg k:=(bg _ _<|bO n).trans (aA c<|cS m);unfold setFlight;refine aa (bC u t (x:=.ref c.objs.size) (by simp[l]) ?_);rw[Qs (show(bJ c.objs.size !=bW)=Qo by simp)];have S:3<([head,.ref L,.none,bB L,.none]++(if pl.isEmpty then aN 6 bW else pl)).toArray.size:=by simp only[aM,aI,a7,jQ];lia
 refine ei P m S<|h _ ?_ ?_
 .have i:∀b o,b≠a->c.get? b=Qg o->(((c.push k).update a<|e9 (·.setIfInBounds 1 (bJ c.objs.size))).update c.objs.size<|e9 (·.setIfInBounds 3 ((Qn:Option af).elim bW λf=>bB f))).get? b=Qg o:=λb o g e=>by
   rw[bg _ _ (dQ<|aC e),bg _ _<|bO g];exact ai _ e
  refine⟨λb o e g hk=>i b o (λz=>?_)<|(I b g).trans e,λb o e g=>?_,λb o e=>?_,?_⟩
  .subst z;rcases hk with q|q
   .exact q d
   .exact q j
  .obtain⟨T,q⟩:=J b o e;exact⟨T,i b _ (λz=>B (z▸g)) q⟩
  .by_cases g:b=a
   .subst g;exact⟨_,(bg _ _ n).trans u⟩
   .obtain⟨T,q⟩:=J b o e;exact⟨_,i b _ g q⟩
  .rw[fO,fO,cB,r];exact dH _
 .refine⟨⟨_,_,(bg _ _ n).trans u,⟨(jm _ _).trans y.1,(We _ _).trans y.2⟩,t,by simpa using l,.inr ⟨c.objs.size,_,_,by simp[l],n,?_,Z _ (by rw[r];exact ay _),bj _ P (cS<|cw m _),cw m _,?_⟩⟩,j,d⟩
  .exact FF _ (by rw[r];exact ay _)
  .rw[gM];rw[Qs S];rfl
def GG(y:A.frames=Qg (env::outer))(t:s.heap.FunFrames base (env::outer))(u:env.frame=Qg L)(x:uB h0 H s.heap a C)(B:∀b,s.heap.objs.size<=b->H b=Qn)(G:∀b,s.heap.objs.size<=b->h0.get? b=Qn)
  (h:∀h',Kp h0 H (qf<|env::outer) s.heap h'->uB h0 H h' a C->Q () { s with heap:=h' }):am M A (noteFrame (.ref a) env) (λ_ Y=>am M A (setFlight (.ref a) Qn) Q E Y) E s:=by
 obtain⟨⟨oe,I,p,J,r,N,Z⟩,f,d⟩:=x;unfold noteFrame;simp only[u];rcases Z with v|⟨T,oT,O,v,nT,g,uz,i,j,P⟩
 .refine aa<|bC p r v ?_;rw[Qu 'b'];exact LZ y t u p J r N f d B G h
 .refine aa<|bC p r v ?_;rw[Qs (show(bJ T !=bW)=Qo by simp)];refine aa<|bC i j P ?_;rw[Qu (show ¬ ((bW==bB L)=Qo) by simp[bB])];refine aa<|ei i j (dL.mp P).1 ?_;have k:∀b,b≠T->(s.heap.update T<|e9 (·.setIfInBounds 3 bW)).get? b=s.heap.get? b:=λb c=>bg _ _<|bO c;have l:∀b o,s.heap.get? b=Qg o->(∀I,o.data ≠ .fields I)->b≠T:=λb o c m z=>by
   subst z;rw[i] at c;cases c;exact m O j
  have w:(s.heap.update T<|e9 (·.setIfInBounds 3 bW)).objs.size=s.heap.objs.size:=fO ..;refine LZ y (t.of_keeps λb o c m=>⟨o,(k b<|l b o c m).trans c,rfl⟩) u ((k a<|bO nT).trans p) J r N f d (λb c=>B b (by rw[<- w];exact c)) (λb c=>G b (by rw[<- w];exact c)) λh' n xa=>h h' ⟨λb o e c S=>?_,λb o e c=>?_,λb o e=>?_,by rw[<- w];exact n.size⟩ xa
  .refine n.keep b o ((k b λz=>?_).trans e) c S;subst z;rcases S with q|q
   .exact q uz
   .exact q g
  .refine n.slot b o ((k b λz=>?_).trans e) c;subst z;obtain⟨_,o',U,m⟩:=t.mem c;rw[i] at U;cases U;exact m O j
  .by_cases c:b=T
   .subst c;exact n.there b _<|bj _ i (cS<|cw j _)
   .exact n.there b o<|(k b c).trans e
end
open PyProof.Rows (AllBare)
def pZ(P:aE)(w:aG)(Cl:Nat->ae):uD:=λouter H s E e s'=>∃a c H',e=.ref a/\s'.os=s.os/\0<s'.toks/\fw s'.gens/\Un (qf outer) [] H H' s.heap s'.heap/\HOk P w H' s'.heap/\uB s.heap H' s'.heap a (Cl c)/\E (Cl c) Qn H'
abbrev Xk(Cl:Nat->ae)(E:XK):Nat->Hp->Prop:=λc H=>E (Cl c) Qn H
def Ds(X:Cx)(Ex:Nat->Hp->Prop)(Cl:Nat->ae):Prop:=∀(Qc:List (af×Obj))(σ:St)(H:Hp)(s:aj)(a:af)(c:Nat),Inv X Qc σ H s->uB X.s₀.heap H s.heap a (Cl c)->Ex c H->X.xe (.ref a) s
def HOk.here(x:L2.HOk P w H h)(e:h.get? a=Qn):H a=Qn:=by
 cases q:H a with
 |none=>rfl
 | some o=>
  exfalso;have y:=x a o q;have b:∀u,h.get? a=Qg u->False:=λu z=>by rw[e] at z;cases z
  cases o with
  |lst xs=>obtain⟨_,_,_,_,e⟩:=y;exact b _ e
  |tup xs=>obtain⟨_,_,_,_,e,_⟩:=y;exact b _ e
  |dK h_=>obtain⟨_,_,_,_,o,_,_,e,_⟩:=y;exact b _ e
  |dT h_=>obtain⟨_,_,_,_,o,_,_,e,_⟩:=y;exact b _ e
  |set S n=>obtain⟨o,_,_,_,e,_⟩:=y;exact b _ e
  |ins C dx fs=>obtain⟨_,_,_,e,_⟩:=y;exact b _ e
  |own y'=>obtain⟨_,e⟩:=y;exact b _ e
  |xd fs=>obtain⟨_,⟨_,_,_,e,_⟩,_⟩:=y;exact b _ e
  |rng lo hi=>obtain⟨_,_,_,e⟩:=y;exact b _ e
  |frz ob u=>obtain⟨e,_⟩:=y;exact b _ e
  |tbl ps=>exact b _ (show h.get? a=Qg _ from y)
  |met f y'=>exact b _ (show h.get? a=Qg _ from y)
  |ext φ=>obtain⟨_,⟨_,e⟩,_⟩:=y;exact b _ e
def Kp.hok(k:Kp h0 H fs h h')(x:L2.HOk P w H h)(c:∀b∈fs,H b=Qn):L2.HOk P w H h':=λa o e=>
 (x a o e).stay (λb u hb q=>k.keep b u q (λz=>by
  rcases hb with rfl|hb
  .rw[c _ z] at e;cases e
  .rw[c _ z] at hb;cases hb) (.inl (by
  rcases hb with rfl|hb
  .rw[e];exact λz=>nomatch z
  .rw[hb];exact λz=>nomatch z))) (λ_ q=>q) λ_ _ q=>q
def uB.older(x:uB g H h a C)(k:∀b o,h0.get? b=Qg o->∃j,g.get? b=Qg j):uB h0 H h a C:=by
 have c:∀b,g.get? b=Qn->h0.get? b=Qn:=λb e=>by
  cases q:h0.get? b with
  |none=>rfl
  |some o=>obtain⟨j,z⟩:=k b o q;rw[e] at z;cases z
 obtain⟨⟨l,m,n,p,s,t,u⟩,i,d⟩:=x;refine⟨⟨l,m,n,p,s,t,u.imp id λ⟨T,v,w,g,y,f,r⟩=>⟨T,v,w,g,y,c T f,r⟩⟩,c a i,d⟩
section
variable{P:aE}{w:aG}{K:ag}{mg:ao->Option ae}{base:aJ}{N:List ao}{qual:ao}{scope:cC}{f:af}{cd:ae}{A:aY}{outer:List Env}{s:aj}{H:Hp}{E:XK}{Cl:Nat->ae}
def yq:Ds (vY (pZ P w Cl) P w K mg base N qual scope f cd A outer s H E) (Xk Cl E) Cl:=by
 intro t T k i a c I x q;generalize d:vY (pZ P w Cl) P w K mg base N qual scope f cd A outer s H E=X at I x ⊢;have u:(A.deeper<|aU qual scope s.heap.objs.size f cd).frames=Qg (aU qual scope s.heap.objs.size f cd::outer):=by have:=I.ok.frames;rw[<- d] at this;exact this
 have v:i.heap.FunFrames base (aU qual scope s.heap.objs.size f cd::outer):=by have:=I.stack;rw[<- d] at this;exact this
 have y:∀b∈qf (aU qual scope s.heap.objs.size f cd::outer),k b=Qn:=by have:=I.stkFree;rw[<- d] at this;exact this
 have l:HOk P w k i.heap:=by have:=I.hok;rw[<- d] at this;exact this
 have j:Un (qf outer) [] H k s.heap i.heap:=by have:=I.base;rw[<- d] at this;exact this
 have B:i.os=s.os:=by have:=I.os;rw[<- d] at this;exact this
 have C:s.heap.objs.size<=i.heap.objs.size:=by have:=I.sz;rw[<- d] at this;exact this
 have U:k s.heap.objs.size=Qn:=by have:=I.free;rw[<- d] at this;exact this
 have g:uB s.heap k i.heap a (Cl c):=by rw[<- d] at x;exact x
 have G:=I.bare;rw[<- d];show am (aq P w) (A.deeper<|aU qual scope s.heap.objs.size f cd) (leaving (aU qual scope s.heap.objs.size f cd)<|.ref a) (λ_ p=>pZ P w Cl outer H s E (.ref a) p) (λJ p=>pZ P w Cl outer H s E J p) i;unfold leaving;refine aa (GG u v rfl g (λb h=>l.fresh h) (λb h=>h8<|aP C h) λY m L=>?_);refine⟨a,c,k,rfl,B,I.tk,G,?_,m.hok l y,L,q⟩;refine⟨λb o e n h g=>?_,λb o e n h g=>?_,λb o e n g=>j.free b o e n g,λb o e g=>?_,j.tups,j.frzs,j.tbls⟩
 .refine m.keep b o (j.keep b o e n h g) (λz=>?_) (.inr (by rw[e];exact λz=>nomatch z));have M:b∈s.heap.objs.size::qf outer:=z;rcases av.mp M with z2|z2
  .exact absurd (aC e) (by rw[z2];exact bV _)
  .exact h z2
 .obtain⟨Z,r⟩:=j.slot b o e n h g;obtain⟨O,Q⟩:=m.slot b _ r (show b∈s.heap.objs.size::qf outer from ar _ h);exact⟨O,Q⟩
 .obtain⟨S,r⟩:=j.there b o e g;exact m.there b S r
end
section
variable{X:Cx}{Cl:Nat->ae}{E:XK}
def va(g:X.ex=[])(h:Ds X (Xk Cl E) Cl):tX (pZ X.prog X.w Cl) X E:=by rintro d j H s e k I ⟨a,c,l,rfl,m,r,f,n,i,x,q⟩;have p:Inv X d j l k:=I.call' (ch:=[]) m n i f (λb z=>absurd z 'k');exact h d j l k a c p (x.older λb o e=>I.base.there b o e (by rw[g];simp)) q
def Au:tX (pZ X.prog X.w Cl) X E0:=by rintro b g H s e h I ⟨a,c,i,rfl,j,k,d,l,f,x,q⟩;exact ah q
end
abbrev F4:List ae:=[.type "ValueError",.type "Exception",.type "BaseException",.type "object"]
abbrev F8(mg:ao->Option ae)(base:aJ)(x:ao)(C:af):Prop:=PyProof.Rows.OwnCls x C F4 "ValueError.__new__" mg base
section
variable{X:Cx}{Ex:Nat->Hp->Prop}{Cl:Nat->ae}
def yu(c:Nat)(t:DA):DS:=λσ O=>(t σ O).bnS λxs O1=>if xs.length<=1000 then .exc c O1 else .bad
def V0(I:Inv X Qc σ H s)(b:X.ex=[])(m:Heap.MadeExcOf s.heap h' a C vs):uB X.s₀.heap H h' a C:=by
 obtain⟨t,c,d,e⟩:=m.there;refine⟨⟨_,_,c,⟨rfl,rfl⟩,rfl,by simp,.inl rfl⟩,?_,HOk.here I.hok m.new⟩;cases q:X.s₀.heap.get? a with
 |none=>rfl
 | some o=>
  obtain⟨f,z⟩:=I.base.there a o q (by rw[b];simp);rw[m.new] at z;cases z
def W9(G:Ds X Ex Cl)(l:X.ex=[])(J:Cl c=.ref C)(f:F8 X.mg X.base x C)(L:X.calm=Qo)(M:Gl X x)(P:qW X Ex (e::es) t)
  (Q:pL x:=by decide) (he:au (e::es) X.env=(Qp,eval e X.env)::au es X.env:=by rfl) (S:(backTo k_<|au (e::es) X.env).any (·.1)=Qp:=by rfl) (n:∃y b,backTo k_ (au (e::es) X.env)=(Qp,y)::b:=by exact⟨_,_,rfl⟩):
  qE X Ex (.Raise (Qg<|.Call (.Name x np) (e::es) [] k_) Qn pos) (yu c t):=by
 refine⟨?_⟩;rintro d s u H D I ⟨g,v,w,O,T,U,q⟩;obtain⟨bm,N,nm,Y,bs,hdct,sn,sub,ab,col,dd,k0,k1,k2,k3,k5,mN,Z,hN,o,A⟩:=f.obj;refine wpAny_Raise_call_subU (nm:=nm) (q:=Y) (N:=N) (bs:=bs) (hdct:=hdct) (sn:=sn) (sub:=sub) (ab:=ab) (col:=col) (dd:=dd) (k0:=k0) (k1:=k1) (k2:=k2) (k3:=k3) (k5:=k5) jd (by rfl) jd (A.hasType (by rfl)) (I.ok.hd L) S o<|Aj I M f.bound ⟨rfl,?_⟩ Q;have B:=P.out k_ d s u H (λp h=>p.length<=1000/\Ex c h) I ⟨g,v,w,O,T,U,nE.bnS (q:nE Ex X.K H g v (yu c t w O) D) λds O1 p h c_ x2 c2 d2 k=>by
  by_cases i:ds.length<=1000
  .rw[Qs i] at k;exact⟨by rw[<- d2.length];exact i,k h c_ .refl c2⟩
  .rw[Qu i] at k;exact ah k⟩
 obtain⟨y,b,hb⟩:=n;rw[hb] at B ⊢;refine gK (oO B λus E ⟨p,h,j,r,i,hx⟩=>⟨rfl,aP (by rw[<- r.length];exact i) 'b',j.bk _ _ Z,hN.keeps j.bk,A.keeps j.bk,λh' a m=>?_⟩);exact G d u h { E with heap:=h' } a c (j.kept (t':=E.toks) m.keeps) (by rw[J];exact V0 j l m) hx
end
abbrev sR(Cl:Nat->ae)(P:aE)(w:aG)(K:ag)(mg:ao->Option ae)(base:aJ)(N:List ao)(qual:ao)(scope:cC)(f:af)(g_:ae)(A:aY)(outer:List Env)(s:aj)(H:Hp)(E:XK):Cx:=
 vY (pZ P w Cl) P w K mg base N qual scope f g_ A outer s H E
def UC{Cl}{P}{w}{K}{a:ao->Option ae}{base}{N}{qual}{scope}{f}{g_}{A}{outer}{s}{H}{E}:
  iW (aq P w) (sR Cl P w K a base N qual scope f g_ A outer s H E).A (sR Cl P w K a base N qual scope f g_ A outer s H E).env (sR Cl P w K a base N qual scope f g_ A outer s H E).xe:=
 PassesOwn.leaving
def SD{Cl}{P}{w}{K}{l:ao->Option ae}{base}{k}{f}{name qual}{params}{body}{scope}{dV kV doc pm g_ ct oc}{an od}{qx}{N ps}{t}
  (n:K.lookup f=Qg ⟨oc,od,.func<|a8 name qual params body scope dV kV doc pm an g_ ct,qx⟩) (o:cg K g_ qual=Qo) (S:oZ N ps scope)
  (p:∀(A)(a)(s)(H)(E),nB k (A.deeper<|aU qual scope s.heap.objs.size f g_)->qv (sR Cl P w K l base N qual scope f g_ A a s H E) (Xk Cl E) body t):
  nG P w K l base (pZ P w Cl) (k+1) f (a8 name qual params body scope dV kV doc pm an g_ ct) ps (Dw K (Xk Cl) ps.length<|pU N.length t):=by
 refine yp n o S (λu H Q E h=>h.1) λA a s H u Q E y h=>?_;obtain⟨G,j,B,m,O,d,c,q⟩:=h;refine⟨_,(p A a s H E y).out,j,B,_,O,BL d N,c,?_⟩;unfold pU at q;generalize t (m.map Qg++aN (N.length-m.length) Qn) O=r at q;cases r with
 |nx σ O'=>exact λI b g x e i=>q .non b g x i xg
 |rt d' O'=>exact λv b g x i r=>q v b g x i r
 |bk σ O'=>exact ah q
 |ct σ O'=>exact ah q
 |exc i O'=>exact λb g x C=>q b g x C
 |bad=>exact ah q
structure nK(Cl:Nat->ae)(P:aE)(w:aG)(K:ag)(mg:ao->Option ae)(base:aJ)(x:ao)(k n:Nat)(F:oU):Prop where
 ex:∃f fd ps,mg x=Qg (.ref f)/\bN K (.ref f)=Qo/\Binds K fd ps []/\nG P w K mg base (pZ P w Cl) k f fd ps (Dw K (Xk Cl) n F)
def GR{Cl}{X}{E}{x}{k j n}{F:oU}{p pos}{e}{es}{t}(c:nK Cl X.prog X.w X.K X.mg X.base x k n F)(a:tX (pZ X.prog X.w Cl) X E)(b:nB j X.A)(d:k<=j)(g:Gl X x)(h:qW X (Xk Cl E) (e::es) t)
  (i:pL x:=by decide) (l:au (e::es) X.env=(Qp,eval e X.env)::au es X.env:=by rfl) (m:(backTo pos<|au es X.env).any (·.1)=Qp:=by rfl):
  PD X (Xk Cl E) (.Call (.Name x p) (e::es) [] pos) (oM n F t):=by obtain⟨f,s,u,o,q,r,G⟩:=c.ex;exact K0 (G.mono d) b g o q r a h i l m
def Vl{Cl}{X}{x}{k j n}{F:oU}{p pos}{e}{es}{t}(c:nK Cl X.prog X.w X.K X.mg X.base x k n F)(a:nB j X.A)(b:k<=j)(d:Gl X x)(f:qW X pe (e::es) t)
  (g:pL x:=by decide) (h:au (e::es) X.env=(Qp,eval e X.env)::au es X.env:=by rfl) (i:(backTo pos<|au es X.env).any (·.1)=Qp:=by rfl):
  PD X pe (.Call (.Name x p) (e::es) [] pos) (oM n F t):=GR c Au a b d f g h i
def fnX{Cl}{P}{w}{K}{d:ao->Option ae}{base}{k}{x}{st}{N ps}{t}(h:pD K d x st)(S:oZ N ps (l_ st))
  (l:∀(e c g)(i)(b j)(us),us.length=ps.length->bindArgs (a8 x x (sG st) (qK st) (l_ st) .none e c g i b j) ⟨us,[]⟩=pure (ps.zip us))
  (m:∀(f)(b)(A)(a)(s)(H)(E),nB k (A.deeper<|aU x (l_ st) s.heap.objs.size f b)->qv (sR Cl P w K d base N x (l_ st) f b A a s H E) (Xk Cl E) (qK st) t):
  nK Cl P w K d base x (k+1) ps.length (pU N.length t):=by obtain⟨f,n,o,F⟩:=h;refine⟨f,n,ps,o,F.kp,F.binds l,?_⟩;obtain⟨u,v,e,c,g,i,b,j,y,rfl,p,q⟩:=F.ex;exact SD p q S λA a s H E r=>m f b A a s H E r
section
variable{Cl:Nat->ae}{P:aE}{w:aG}{K:ag}{mg:ao->Option ae}{base:aJ}{k n:Nat}{x:ao}{F G:oU}
def nK.imp(c:nK Cl P w K mg base x k n F)(h:∀ds O H Qb μ a Q,nu K H Qb μ O->pf a K H Qb μ (G ds O) Q->pf a K H Qb μ (F ds O) Q):nK Cl P w K mg base x k n G:=by obtain⟨f,e,g,i,j,l,m⟩:=c.ex;refine⟨f,e,g,i,j,l,m.imp λp H Q E ⟨o,Qb,μ,ds,O,d,b,q⟩=>⟨o,Qb,μ,ds,O,d,b,h ds O H Qb μ _ Q b q⟩⟩
def nK.self(c:nK Cl P w K mg base x k n F):nK Cl P w K mg base x k n F:=c
end
noncomputable def DJ(f:Nat->Option Bool):D->Option Bool
 |.exn C=>f C
 |.non=>Qg Qp
 |_=>Qn
def ro(f:Nat->Option Bool)(t:DE):DE:=λσ O=>(t σ O).bnd λd O1=>match DJ f d with
 |some b=>.ok (.bl b) O1
 |none=>.bad
section
variable{X:Cx}{Ex:Nat->Hp->Prop}{ta:DE}
def NC(f:Nat->Option Bool)(m:∀u,RelV cv u->u=Dp)(n:aH X.K (.type "NoneType") Dp=Qg Qp)(o:∀C b,f C=Qg b->aH X.K (.ref C) Dp=Qg b):
  nM X (.builtin "isinstance") (λi H Q=>∃x Qb μ O d b,i=[x,cv]/\nu X.K H Qb μ O/\Qe X.K H Qb μ d x/\DJ f d=Qg b/\Q (.bl b) H):=by
 intro j s A H i B Q I r h;obtain⟨x,Qb,μ,O,d,b,rfl,E,a,c,q⟩:=h;obtain⟨u,G,rfl,l,t⟩:=KA r;obtain rfl:=m _ t;cases d with
 | non=>
  unfold Qe at a;subst a;cases l;cases c;exact wT I (jU lW I.kIn dR n (λz=>nomatch z) λe v=>⟨.bl _,H,I.tok e,rfl,q⟩)
 | exn C=>
  unfold Qe at a;obtain⟨p,J,rfl,⟨k,g⟩,w,_⟩:=a;cases l;obtain⟨y,_⟩:=Rd.ok w I.hok;exact wT I (jU (LW k) I.kIn (g _ y) (o C b c) (λz=>nomatch z) λe v=>⟨.bl _,H,I.tok e,rfl,q⟩)
 |_=>cases c
def MD:∀Qb μ e O g H Q,ny X.K H Qb μ e g->nu X.K H Qb μ O->pf Ex X.K H Qb μ (ro f ta e O) Q->rd Ex X.K ta g H λv a=>∃x Qb μ O d b,[v,cv]=[x,cv]/\nu X.K a Qb μ O/\Qe X.K a Qb μ d x/\DJ f d=Qg b/\Q (.bl b) a:=
 λQb μ e O g H Q j k q=>rd.go j k q λd l v a m n x i r c=>by
  cases h:DJ f d with
  |none=>rw[h] at c;exact ah c
  |some b=>rw[h] at c;exact⟨v,Qb,m,l,d,b,rfl,i,r,h,post.here c i s_⟩
def xI(d:PD X Ex a ta)(e:Gl X "isinstance")(g:X.mg "isinstance" = Qn)(h:bi "isinstance" = Qg (.builtin "isinstance"))(i:Gl X x)(j:X.mg x=Qg (.ref C0))
  (k:aH X.K (.type "NoneType") (.ref C0)=Qg Qp) (l:∀C b,f C=Qg b->aH X.K (.ref C) (.ref C0)=Qg b)
  (m:pL x:=by decide) (c:au [a,.Name x p'] X.env=(Qp,eval a X.env)::au [.Name x p'] X.env:=by rfl) (n:au [.Name x p'] X.env=[(Qp,eval (.Name x p') X.env)]:=by rfl) (o:(backTo pos<|au [.Name x p'] X.env).any (·.1)=Qp:=by rfl):
  PD X Ex (.Call (.Name "isinstance" p) [a,.Name x p'] [] pos) (ro f ta):=
 qd (BF (NC f (λu r=>by cases r;rfl) k l) e g h (u_ d.out (u_ (Am (v:=.ref C0) i j rfl m) yr n) c) 'b' 'b' c o) MD
def U1(d:PD X Ex a ta)(e:Gl X "isinstance")(g:X.mg "isinstance" = Qn)(h:bi "isinstance" = Qg (.builtin "isinstance"))(i:Gl X x)(j:X.mg x=Qn)(k:bi x=Qg (.type n))
  (l:aH X.K (.type "NoneType") (.type n)=Qg Qp) (m:∀C b,f C=Qg b->aH X.K (.ref C) (.type n)=Qg b) (o:x ≠ "__name__":=by decide)
  (q:pL x:=by decide) (c:au [a,.Name x p'] X.env=(Qp,eval a X.env)::au [.Name x p'] X.env:=by rfl) (s:au [.Name x p'] X.env=[(Qp,eval (.Name x p') X.env)]:=by rfl) (t:(backTo pos<|au [.Name x p'] X.env).any (·.1)=Qp:=by rfl):
  PD X Ex (.Call (.Name "isinstance" p) [a,.Name x p'] [] pos) (ro f ta):=
 qd (BF (NC f (λu r=>by cases r;rfl) l m) e g h (u_ d.out (u_ (L4 (v:=.ty n) i j k rfl o q) yr s) c) 'b' 'b' c t) MD
end
open PyProof.Rows (AllBare IntsAre)
section
def Inv.fake(I:L2.Inv X Qc σ H s)(e:X.N[i]?=Qg x)(f:¬ qu X.env.scope x):L2.Inv X Qc (σ.set i<|Qg v) H s:=by
 obtain⟨m,g,h⟩:=I.loc;refine⟨I.ok,I.os,I.bare,I.base,⟨m,g,λj y w a b c=>?_⟩,I.cell,I.free,I.freeC,I.pin,I.hok,by rw[dS];exact I.len,I.tk⟩;by_cases d:j=i
 .subst d;rw[e] at a;cases a;exact absurd c f
 .rw[aQ<|bO d] at b;exact h j y w a b c
def qH.fake(c:X.N[i]?=Qg x)(d:¬ qu X.env.scope x)(h:qH X body t):qH X body λD b H=>t D (b.set i<|Qg v) H:=
 λa s b H D I q=>h a s _ H D (Inv.fake I c d) q
end
def nJ.empty(h:H P=Qg (.tbl #[])):nJ H P:=⟨#[],h,trivial,λa b e=>by cases e⟩
noncomputable def xv(K:ag)(Ec:XK->Nat->Hp->Prop)(n:Nat)(P:af)(F:oU):Sp:=λvs H Q E=>vs.length=n/\∃Qb μ ds O,nv K H Qb μ ds vs/\nu K H Qb μ O/\nJ H P/\pf (Ec E) K H Qb μ (F ds O) Q
def sk(n i:Nat)(P:Nat)(t:DS):oU:=λds O=>fin<|t ((ds.map Qg++aN (n-ds.length) Qn).set i (Qg<|.tab P)) O
def Ug{Cl:Nat->ae}{P:aE}{w:aG}{K:ag}{y:ao->Option ae}{base:aJ}{k i:Nat}{f Pt:af}{x:ao}{name b:ao}{j:fc}{body:List cN}{a:cC}{B C m G n ct L:ae}{I M:Option af}{T:Array (Option ae)}{N ps:List ao}{t:DS}
  (U:K.lookup f=Qg ⟨L,M,.func<|a8 name b j body a B C m G I n ct,T⟩) (Y:cg K n b=Qo) (S:oZ N ps a) (Z:N[i]?=Qg x) (hx:¬ qu a x)
  (oP:∀(A:aY)(g:List Env)(s:aj)(H:Hp)(E:XK),nB k (A.deeper<|aU b a s.heap.objs.size f n)->qv (sR Cl P w K y base N b a f n A g s H E) (Xk Cl E) body t):
  nG P w K y base (pZ P w Cl) (k+1) f (a8 name b j body a B C m G I n ct) ps (xv K (Xk Cl) ps.length Pt<|sk N.length i Pt t):=by
 refine yp U Y S (λvs H Q E h=>h.1) λA g s H vs Q E hr h=>?_;obtain⟨hl,u,μ,J,O,d,c,ti,l⟩:=h;refine⟨_,qH.fake Z hx (oP A g s H E hr).out,u,μ,_,O,(BL d N).set (d:=.tab Pt) (by unfold Qe;exact⟨rfl,ti⟩) i,c,?_⟩;unfold sk at l;generalize t ((J.map Qg++aN (N.length-J.length) Qn).set i (Qg<|.tab Pt)) O=r at l;cases r with
 |nx σ O'=>exact λa_ o p x e q=>l .non o p x q xg
 |rt d' O'=>exact λv o p x q r=>l v o p x q r
 |bk σ O'=>exact ah l
 |ct σ O'=>exact ah l
 |exc q O'=>exact λo p x c2=>l o p x c2
 |bad=>exact ah l
structure qJ(mg:ao->Option ae)(base:aJ)(c Pt:af):Prop where
 hd:mJ base c Pt
 bl:base.BuiltinsAt mg Pt
set_option tactic.hygienic true in
def Zh{f d:Pos}{c g:ae}(l:List ae)(h:TriplesOk l)(e:codeAmong d (l++[bB f.line,bB f.col,c])=Qg g):codeAmong d l=Qg g\/g=c:=by
 fun_induction TriplesOk l with
 | case1=>
  simp only[iu,codeAmong,bB] at e;split at e
  .cases e;exact .inr rfl
  .cases e
 | case2 a t b u x rest ih=>
  simp only[jD,codeAmong] at e ⊢;split at e
  .rename_i i;rw[Qs i];exact .inl e
  .rename_i i;rw[Qu i];exact ih h e
 |case3 l h1 h2=>exact h.elim
def W4{q:ao}{H:Hp}{P c:af}{d:Pos}{ps:Array ae}(i:H P=Qg (.tbl ps))(u:H c=Qn)(P2:af)(v:nJ H P2):
  nJ (upd (upd H P (.tbl<|ps ++ #[bB d.line,bB d.col,.ref c])) c (.ext λh=>h.CodeRec (.ref c) q)) P2:=by
 have j:∀{b:af}{o:HO},H b=Qg o->b≠c:=λe=>qS e u;obtain⟨w,g,k,s⟩:=v;have a:∀{b:af}{f:aJ->Prop},H b=Qg (.ext f)->upd (upd H P (.tbl<|ps ++ #[bB d.line,bB d.col,.ref c])) c (.ext λh=>h.CodeRec (.ref c) q) b=Qg (.ext f):=λ{b f}e=>by
  rw[oN<|j e,oN<|RM e i (λz=>nomatch z)];exact e
 by_cases t:P2=P
 .subst t;rw[i] at g;cases g;refine⟨_,by rw[oN<|j i,pK],?_,λp l e=>?_⟩
  .rw[bI];exact TriplesOk_snoc _ _ _ _ k
  .rw[bI] at e;rcases Zh _ k e with e|e
   .obtain⟨m,f,rfl,n,r⟩:=s p l e;exact⟨m,f,rfl,a n,r⟩
   .exact⟨c,_,e,pK,λh z=>⟨q,z⟩⟩
 .refine⟨w,by rw[oN<|j g,oN t];exact g,k,λp l e=>?_⟩;obtain⟨m,f,rfl,n,r⟩:=s p l e;exact⟨m,f,rfl,a n,r⟩
section
abbrev yY(H:Hp)(P c:af)(ps:Array ae)(pos:Pos)(q:ao):Hp:=upd (upd H P (.tbl<|ps ++ #[bB pos.line,bB pos.col,.ref c])) c (.ext λh=>h.CodeRec (.ref c) q)
def Ax(a:H P=Qg (.tbl ps))(d:H c=Qn)(e:H b=Qg o)(ht:z6 o):yY H P c ps pos q b=Qg o:=by
 have f:b≠P:=by rintro rfl;rw[a] at e;cases e;exact ht _ rfl
 show upd (upd H P _) c _ b=Qg o;rw[oN<|qS e d,oN f];exact e
def NT(a:H P=Qg (.tbl ps))(d:H c=Qn)(μ:List af):Ext H μ (yY H P c ps pos q) μ:=
 ⟨⟨[],by simp⟩,λb o e _ f=>Ax a d e f,λ_ m=>.inl m,λb h=>vb b<|vb b h,λg i=>W4 a d g i⟩
def Yr(d:H P=Qg (.tbl ps))(f:H c=Qn)(b:nu K H Qb μ O):nu K (yY H P c ps pos q) Qb μ O:=by refine⟨b.len,b.nd,b.nh,λa m=>vb a (vb a<|b.ht a m),λk a e=>?_⟩;obtain⟨g,h,i,j,l⟩:=b.at_ k a e;exact⟨g,h,i,Ax d f j (by intro ps z;cases z),l.ext<|NT d f μ⟩
def Pa{h h':aJ}{c:af}{q:ao}(x:h.CodeRec (.ref c) q)(k:∀o,h.get? c=Qg o->h'.get? c=Qg o):h'.CodeRec (.ref c) q:=by obtain⟨d,o,a,t,e,b,r⟩:=x;cases e;exact⟨c,o,a,t,rfl,k o b,r⟩
def LN{c P:af}{a:fc}{body:aZ}{d:cC}{g:Pos}{y:List (ao×af)}{Q:ae->aj->Prop}(I:L2.Inv X Qc a_ H s)(L:qJ X.mg X.base c P)(qz:X.env.code=.ref c)(ti:nJ H P)
  (qh:closureFor d X.env=pure y) (sN:defaultsOf a X.env=([],[]))
  (h:∀(k:af)(cd l:ae)(h':aJ)(B:Tok)(C:Hp),L2.Inv X Qc a_ C { s with heap:=h',toks:=B }->(∀μ,Ext H μ C μ)->(∀Qb μ O,nu X.K H Qb μ O->nu X.K C Qb μ O)->C k=Qn->s.heap.objs.size<=k->
   h'.get? k=Qg { cls:=.type "function",data:=.func (b9 "<lambda>" (X.env.qual ++ "<lambda>") a body d y ((X.mg "__name__").getD .none) cd l) }->(∃c M,cd=.ref c/\C c=Qg (.ext M)/\∀h:aJ,M h->∃q,h.CodeRec (.ref c) q)->Q (.ref k) { s with heap:=h',toks:=B }):
  am (aq X.prog X.w) X.A (eval (.Lambda a body d g) X.env) Q E s:=by
 obtain⟨j,i,h2,h3⟩:=id ti;have U:=I.hok P _ i;have Y:=I.mod.glob.keeps I.bk;have Z:bt≠P:=λz=>by
  obtain⟨o,es,ep,e,N,_⟩:=Y;rw[z,U] at e;cases e;cases N
 have S:s.heap.BuiltinsAt X.mg P:=by
  obtain⟨bm,ob,b1,G,b3,b4,b5,r⟩:=L.bl;exact⟨bm,ob,b1,G,b3,b4,I.bk _ _ b5,r⟩
 have N:=L.hd.keeps I.bk;refine PySem.W.kla_eval sN ?_;cases JF:codeAmong g j.toList with
 | some cv=>
  obtain⟨f,M,rfl,k1,k2⟩:=h3 g cv JF;refine wT I (PySem.W.kla_makeFunctionHit qh I.ok.glob Y qz N U h2 JF S λl h' B hk pd pB=>?_);have x:∀b u,s.heap.get? b=Qg u->(h'.push { cls:=.type "function",data:=.func (b9 "<lambda>" (X.env.qual ++ "<lambda>") a body d y ((X.mg "__name__").getD .none) (.ref f) l) }).get? b=Qg u:=λb u e=>ai _<|hk b u e;exact h h'.objs.size (.ref f) l _ B H (I.kept x) (λμ=>.refl) (λ_ _ _ z=>z) (I.hok.fresh pd) pd (aA _ rfl) ⟨f,M,rfl,k1,k2⟩
 | none=>
  refine wT I (PySem.W.kla_makeFunction qh I.ok.glob Y qz N U h2 JF Z S λf l h' B hx T qt sJ htb pB=>?_);have v:=I.hok.fresh T;have J:∀{b:af},H b=Qn->b≠P:=λe=>bO<|qS i e;have x:∀b u,b≠P->s.heap.get? b=Qg u->(h'.push<|jW "<lambda>" (X.env.qual ++ "<lambda>") a body d y ((X.mg "__name__").getD .none) f l).get? b=Qg u:=λb u n e=>ai _<|hx b u n e;have FD:(h'.push<|jW "<lambda>" (X.env.qual ++ "<lambda>") a body d y ((X.mg "__name__").getD .none) f l).get? P=Qg (kE<|j ++ #[bB g.line,bB g.col,.ref f]):=ai _ htb;have yK:(h'.push<|jW "<lambda>" (X.env.qual ++ "<lambda>") a body d y ((X.mg "__name__").getD .none) f l).CodeRec (.ref f) (X.env.qual ++ "<lambda>"):=Pa sJ λo e=>ai _ e;have zu:∀{b:af},s.heap.objs.size<=b->b≠f->yY H P f j g (X.env.qual ++ "<lambda>") b=Qn:=λ{b}S n=>by
   have e:=I.hok.fresh S;show upd (upd H P _) f _ b=Qn;rw[oN n,oN<|J e];exact e
  refine h h'.objs.size (.ref f) l _ B (yY H P f j g<|X.env.qual ++ "<lambda>") ?_ (NT i v) (λ_ _ _ z=>Yr i v z) (zu (fx<|i0 T qt)<|dQ qt) (fx<|i0 T qt) (aA _ rfl) ⟨f,_,rfl,pK,λh z=>⟨_,z⟩⟩;have o4:∀b o,s.heap.get? b=Qg o->H b=Qn->yY H P f j g (X.env.qual ++ "<lambda>") b=Qn:=λb o e n=>by
   show upd (upd H P _) f _ b=Qn;rw[oN (bb<|aV (aC e) T),oN<|J n];exact n
  refine I.step (ch:=[]) (λ_ z=>nomatch z) (λb o _ _ _ e n=>x b o (J n) e) (λb o _ _ _ e n=>⟨o.slots,x b o (J n) e⟩) (λb o _ e n=>o4 b o e n) (λb o _ e=>?_)
   (λb xs e=>Ax i v e (by intro j z;cases z)) (λb o u e=>Ax i v e (by intro j z;cases z)) (λb PM e=>?_) (λm hm=>?_) ?_ I.bare pB
  .by_cases p:b=P
   .subst p;exact⟨_,FD⟩
   .exact⟨o,x b o p e⟩
  .by_cases p:b=P
   .subst p;rw[i] at e;cases e;exact⟨_,by show upd (upd H b _) f _ b=_;rw[oN<|qS i v,pK]⟩
   .exact⟨#[],by show upd (upd H P _) f _ b=_;rw[oN<|qS e v,oN p,e];simp⟩
  .obtain⟨o,es,ep,e,r⟩:=hm;exact⟨o,es,ep,x _ o (J I.free) e,r⟩
  .intro b u e;by_cases Qr:b=f
   .subst Qr;have e':yY H P b j g (X.env.qual ++ "<lambda>") b=_:=pK;rw[e'] at e;cases e;refine⟨yK,?_,λha tQ za zk=>Pa za zk⟩;obtain⟨c2,o,vs,t,z,ho,_⟩:=yK;cases z;exact⟨o,ho⟩
   .have e1:=(oN Qr).symm.trans e;by_cases p:b=P
    .subst p;rw[pK] at e1;cases e1;exact FD
    .have e2:=(oN p).symm.trans e1;refine(I.hok b u e2).stay (λG u2 uh z=>x G u2 (λzz=>?_) z) (λG z=>Ax i v z (by intro j z;cases z)) λG xs z=>Ax i v z (by intro j z;cases z);rcases uh with rfl|uh
     .exact p zz
     .rw[zz,i] at uh;cases uh
end
abbrev q0(q:ao)(scope:cC)(L f:af)(cd:ae)(cl:List (ao×af)):Env:={ scope,locals:=L,globals:=bt,cells:=cl,qual:=q ++ ".<locals>.",func:=Qg f,code:=cd,frame:=Qg L,builtins:=builtinsNs }
section
variable{prog:aE}{w:aG}{A:aY}{s:aj}{R:Result->aj->Prop}
def UA(i:A.depth<recursionLimit)
  (j:s.heap.get? lam=Qg { cls:=.type "function",data:=.func (b9 name qual params body scope cl pm cd ct) }) (k:s.heap.CodeRec cd q) (l:scope.isCoroutine=Qp) (n:scope.isGenerator=Qp) (p:scope.kind=.function) (r:∀x∈scope.names,x.2 ≠ .cell)
  (t:bindArgs (b9 name qual params body scope cl pm cd ct) ⟨[],[]⟩=pure []) (u:s.heap.NoLimit)
  (h:∀h',h'.Ns s.heap.objs.size (λ_=>Qn)->(∀b o,s.heap.get? b=Qg o->h'.get? b=Qg o)->
   am (aq prog w) (A.deeper<|q0 q scope s.heap.objs.size lam cd cl) (eval body<|q0 q scope s.heap.objs.size lam cd cl) (λv a=>R (.ok<|.ret v) a)
    (λe a=>am (aq prog w) (A.deeper<|q0 q scope s.heap.objs.size lam cd cl) (leaving (q0 q scope s.heap.objs.size lam cd cl) e) (λ_ d=>R (.error e) d) (λy d=>R (.error y) d) a) { s with heap:=h' }):
  codeAny (aq prog w) A (.call (.ref lam) ⟨[],[]⟩) R s:=by refine jS ?_;show am _ A.in1 (callAny (.ref lam) ⟨[],[]⟩) _ _ s;simp only[callAny];refine aa<|kP j ?_;obtain⟨c,L,M,N,B,C,E,G⟩:=k;subst B;simp only[callFunction,l,n];refine aa (m:=field (.ref c) 1)<|bC C E G (aa<|ak ?_);rw[t];refine aa (ak<|aa ?_);refine kS r (λx H=>nomatch H) (λf I J=>?_) p;have g:∀b o,s.heap.get? b=Qg o->f.get? b=Qg o:=λb o e=>J.extBut b o (bb<|aC e)<|ai _ e;refine aa (wpAny_enterFrame (u.keeps g) i<|ak ⟨rfl,?_⟩);exact kT<|h f I g
end
def T3{X}{E}{Cl}(j:X.xe=λe y=>am (aq X.prog X.w) X.A (leaving X.env e) (λ_ f=>pZ X.prog X.w Cl X.outer X.H₀ X.s₀ E e f) (λk f=>pZ X.prog X.w Cl X.outer X.H₀ X.s₀ E k f) y)
  (l:X.stack=X.env::X.outer) (t:X.env.frame=Qg X.env.locals) (m:X.ex=[]):Ds X (Xk Cl E) Cl:=by
 intro u N p r a c I x q;have B:X.A.frames=Qg (X.env::X.outer):=by rw[<- l];exact I.ok.frames
 have C:r.heap.FunFrames X.base (X.env::X.outer):=by rw[<- l];exact I.stack
 have G:∀b∈qf (X.env::X.outer),p b=Qn:=by rw[<- l];exact I.stkFree
 have g:Un X.fs [] X.H₀ p X.s₀.heap r.heap:=by have:=I.base;rw[m] at this;exact this
 have v:qf (X.env::X.outer)=X.env.locals::X.fs:=by unfold qf;rw[dF,t];rfl
 rw[j];show am (aq X.prog X.w) X.A (leaving X.env<|.ref a) (λ_ f=>pZ X.prog X.w Cl X.outer X.H₀ X.s₀ E (.ref a) f) (λk f=>pZ X.prog X.w Cl X.outer X.H₀ X.s₀ E k f) r;unfold leaving;refine aa (GG B C t x (λb d=>I.hok.fresh d) (λb d=>h8<|aP I.sz d) λO i H=>?_);refine⟨a,c,p,rfl,I.os,I.tk,I.bare,?_,i.hok I.hok G,H,q⟩;refine⟨λb o e n d h=>?_,λb o e n d h=>?_,λb o e n h=>g.free b o e n h,λb o e h=>?_,g.tups,g.frzs,g.tbls⟩
 .refine i.keep b o (g.keep b o e n d h) (λz=>?_) (.inr (by rw[e];exact λz=>nomatch z));rw[v] at z;rcases av.mp z with z2|z2
  .exact absurd (aV (aC e) I.ok.above) (by rw[z2];exact bV _)
  .exact d z2
 .obtain⟨P,s⟩:=g.slot b o e n d h;obtain⟨J,L⟩:=i.slot b _ s (by rw[v];exact ar _ d);exact⟨J,L⟩
 .obtain⟨M,s⟩:=g.there b o e h;exact i.there b M s
noncomputable def zM(CX:uD)(P:aE)(w:aG)(K:ag)(mg:ao->Option ae)(base:aJ)(N:List ao)(env:Env)(A:aY)(outer:List Env)(s:aj)(H:Hp)(E:XK):Cx where
 prog:=P
 w:=w
 K:=K
 mg:=mg
 base:=base
 A:=A.deeper env
 N:=N
 s₀:=s
 H₀:=H
 env:=env
 outer:=outer
 stack:=env::outer
 ex:=[]
 calm:=Qo
 fn:=λ_=>Qp
 pn:=[]
 xe:=λe s'=>am (aq P w) (A.deeper env) (leaving env e) (λ_ q9=>CX outer H s E e q9) (λe' q9=>CX outer H s E e' q9) s'
section
variable{CX:uD}{P:aE}{w:aG}{K:ag}{mg:ao->Option ae}{base:aJ}{N:List ao}{A:aY}{outer:List Env}{s:aj}{H:Hp}{E:XK}{Cl:Nat->ae}{q:ao}{scope:cC}{lam:af}{cd:ae}{cl:List (ao×af)}{σ:St}{h':aJ}
def BB:Ds (zM (pZ P w Cl) P w K mg base N (q0 q scope s.heap.objs.size lam cd cl) A outer s H E) (Xk Cl E) Cl:=T3 rfl rfl rfl rfl
def UP(d:nV P w K mg base A outer s H)(t:A.handled=Qn)(B:scope.kind=.function)(f:∀x,qu scope x->scope.names.lookup x=Qg .free)
  (cells:∀x c,cl.lookup x=Qg c->(∃v,s.heap.IsCell c v)/\H c=Qn) (h:∀x y c,cl.lookup x=Qg c->cl.lookup y=Qg c->x=y) (j:∀x,scope.names.lookup x=Qg .free->∃c,cl.lookup x=Qg c)
  (e:∀(i:Nat)x v,N[i]?=Qg x->σ[i]?=Qg (Qg v)->scope.names.lookup x=Qg .free->∃u c,RelV v u/\cl.lookup x=Qg c/\s.heap.IsCell c (Qg u)) (k:σ.length=N.length)
  (C:h'.Ns s.heap.objs.size (λ_=>Qn)) (l:∀b o,s.heap.get? b=Qg o->h'.get? b=Qg o):
  L2.Inv (zM CX P w K mg base N (q0 q scope s.heap.objs.size lam cd cl) A outer s H E) [] σ H { s with heap:=h' }:=by
 have a:∀{c:af}{v:Option ae},s.heap.IsCell c v->h'.IsCell c v:=λ{c v}⟨o,ho,r⟩=>⟨o,l c o ho,r⟩;have m:∀b:af,b∉(zM CX P w K mg base N (q0 q scope s.heap.objs.size lam cd cl) A outer s H E).ex:=λb z=>absurd (show b∈([]:List af) from z) 'k';refine⟨⟨d.mod,B,rfl,rfl,ay _,h,λy G=>?_,λy c z _=>absurd (show Qp=Qo from z) 'b',λ_=>t,il d.frames,.inr ⟨rfl,rfl⟩,λb z=>absurd z<|m b,d.bs,d.bsz,λb _ _=>m b,λb z=>absurd z<|m b,d.funs,d.frf⟩,
  rfl,d.bare,Un.kept l,⟨_,C,λi y v I J n=>?_⟩,λy c g=>?_,d.hok.fresh<|ay _,λy c g=>(cells y c g).2,λp L=>absurd (show p∈([]:List (af×Obj)) from L) 'k',d.hok.kept l,k,d.tk⟩
 .have M:scope.names.lookup y=Qg .cell\/scope.names.lookup y=Qg .free:=G;exact j y<|f y (M.elim (λz=>.inr<|.inl z) λz=>.inr<|.inr z)
 .obtain⟨u,c,r,O,Q⟩:=e i y v I J<|f y n;exact⟨u,r,.inr ⟨.inr<|f y n,c,O,a Q⟩⟩
 .obtain⟨⟨v,z⟩,_⟩:=cells y c g;exact⟨v,a z⟩
def RT(d:nB (k+1) A)(f:nV P w K mg base A outer s H)
  (m:s.heap.get? lam=Qg { cls:=.type "function",data:=.func (b9 name qual params body scope cl pm cd ct) }) (n:s.heap.CodeRec cd q) (p:scope.isCoroutine=Qp) (r:scope.isGenerator=Qp) (l:scope.kind=.function) (B:∀x∈scope.names,x.2 ≠ .cell)
  (C:bindArgs (b9 name qual params body scope cl pm cd ct) ⟨[],[]⟩=pure []) (G:∀x,qu scope x->scope.names.lookup x=Qg .free)
  (cells:∀x c,cl.lookup x=Qg c->(∃v,s.heap.IsCell c v)/\H c=Qn) (g:∀x y c,cl.lookup x=Qg c->cl.lookup y=Qg c->x=y) (h:∀x,scope.names.lookup x=Qg .free->∃c,cl.lookup x=Qg c)
  (a:∀(i:Nat)x v,N[i]?=Qg x->σ[i]?=Qg (Qg v)->scope.names.lookup x=Qg .free->∃u c,RelV v u/\cl.lookup x=Qg c/\s.heap.IsCell c (Qg u)) (j:σ.length=N.length)
  (I:nB k (A.deeper<|q0 q scope s.heap.objs.size lam cd cl)->PD (zM (pZ P w Cl) P w K mg base N (q0 q scope s.heap.objs.size lam cd cl) A outer s H E) (Xk Cl E) body t)
  (L:ny K H Qb μ AW σ) (M:nu K H Qb μ O) (S:pf (Xk Cl E) K H Qb μ (t AW O) Q):codeAny (aq P w) A (.call (.ref lam) ⟨[],[]⟩) (CR (pZ P w Cl) outer P w H s Q E) s:=by refine UA d.depth m n p r l B C (f.mod.nolimit.keeps λb o e=>(f.bs b o e).1) λh' T U=>?_;refine bQ ((I<|d.deeper _).out [] _ σ H Q (UP f d.hd l G cells g h a j T U) ⟨Qb,μ,AW,O,L,M,S⟩) (λv Y ⟨Z,H',J,rv,z⟩=>?_) λe Y z=>z;exact⟨⟨Z,H',J.os,J.bare,J.base,J.hok,rv,z⟩,J.tk⟩
end
section
variable{s:aj}{H:Hp}
def Kp.refl:Kp h0 H fs h h:=⟨λ_ _ e _ _=>e,λb o e _=>⟨o.slots,e⟩,λ_ o e=>⟨o,e⟩,ay _⟩
def Kp.trans(x:Kp h0 H fs h h1)(y:Kp h0 H fs h1 h2):Kp h0 H fs h h2:=
 ⟨λb o e n k=>y.keep b o (x.keep b o e n k) n k,λb o e n=>by
  obtain⟨g,a⟩:=x.slot b o e n;obtain⟨c,d⟩:=y.slot b _ a n;exact⟨c,d⟩,λb o e=>by
  obtain⟨f,a⟩:=x.there b o e;exact y.there b f a,aP x.size y.size⟩
def Wv(w:s.heap.FunFrames base frames)(x:uB h0 H s.heap a C)(h:∀h',Kp h0 H (qf frames) s.heap h'->uB h0 H h' a C->Q () { s with heap:=h' }):am M A (setFlight (.ref a) Qn) Q E s:=by
 obtain⟨⟨y,B,l,G,m,I,J⟩,n,g⟩:=id x;unfold setFlight;rcases J with j|⟨T,P,L,j,r,c,t,k,i,u⟩
 .refine aa<|bC l m j ?_;rw[Qu 'b'];exact ak<|h s.heap .refl x
 .refine aa<|bC l m j ?_;rw[Qs (show(bJ T !=bW)=Qo by simp)];refine ei k i (dL.mp u).1<|h _ ?_ ?_
  .have p:∀b,b≠T->(s.heap.update T<|e9 (·.setIfInBounds 3 ((Qn).elim bW λf=>bB f))).get? b=s.heap.get? b:=λb d=>bg _ _<|bO d;refine⟨λb o e d N=>(p b λz=>?_).trans e,λb o e d=>⟨o.slots,(p b λz=>?_).trans e⟩,λb o e=>?_,by rw[fO];exact ay _⟩
   .subst z;rcases N with q|q
    .exact q t
    .exact q c
   .subst z;obtain⟨_,S,v,O⟩:=w.mem d;rw[k] at v;cases v;exact O L i
   .by_cases d:b=T
    .subst d;exact⟨_,bj _ k (cS<|cw i _)⟩
    .exact⟨o,(p b d).trans e⟩
  .refine⟨⟨y,B,(bg _ _ r).trans l,G,m,I,.inr ⟨T,_,_,j,r,c,t,bj _ k (cS<|cw i _),cw i _,?_⟩⟩,n,g⟩;rw[gM,Qs (dL.mp u).1];rfl
end
section
variable{X:Cx}{Qc:List (af×Obj)}{σ:St}{H H1:Hp}{s s1:aj}
abbrev Cx.mk'(X:Cx)(a:af):Cx:={ X with A:=X.A.mark (Qg<|.ref a),calm:=Qp,xe:=λ_ _=>False }
def Inv.mk'(I:L2.Inv X Qc σ H s)(a):L2.Inv (Cx.mk' X a) Qc σ H s:=
 ⟨⟨I.ok.mod,I.ok.kind,I.ok.glob,I.ok.blt,I.ok.above,I.ok.inj,I.ok.has,I.ok.cab,λz=>absurd (show Qp=Qo from z) 'b',I.ok.frames,I.ok.stk,I.ok.exf,I.ok.bs,I.ok.bsz,I.ok.noex,I.ok.exfs,I.ok.funs,I.ok.frf⟩,I.os,I.bare,I.base,I.loc,I.cell,I.free,I.freeC,I.pin,I.hok,I.len,I.tk⟩
def Inv.unmk'(ok:X.Ok)(I:L2.Inv (Cx.mk' X a) Qc σ H s):L2.Inv X Qc σ H s:=
 ⟨ok,I.os,I.bare,I.base,I.loc,I.cell,I.free,I.freeC,I.pin,I.hok,I.len,I.tk⟩
def Inv.raised(I:L2.Inv X Qc σ H s)(j:s1.os=s.os)(q:0<s1.toks)(a:fw s1.gens)(c:Un (qf X.stack) [] H H1 s.heap s1.heap)(d:HOk X.prog X.w H1 s1.heap)(h:Kp s.heap H1 (qf X.stack) s1.heap h'):L2.Inv X Qc σ H1 { s1 with heap:=h' }:=by
 have k:L2.Inv X Qc σ H1 s1:=I.call' (ch:=[]) j c d a (λb z=>absurd z 'k');refine I.call' (ch:=[]) j ?_ (h.hok d k.stkFree) a (λb z=>absurd z 'k');refine⟨λb o e n f g=>h.keep b o (c.keep b o e n f g) f (.inr (by rw[e];exact λz=>nomatch z)),λb o e n f g=>?_,c.free,λb o e g=>?_,c.tups,c.frzs,c.tbls⟩
 .obtain⟨r,i⟩:=c.slot b o e n f g;obtain⟨l,m⟩:=h.slot b _ i f;exact⟨l,m⟩
 .obtain⟨p,i⟩:=c.there b o e g;exact h.there b p i
def Inv.track(I:L2.Inv X Qc σ H1 s1)(x:uB s.heap H1 s1.heap a (.ref C))(j:L2.Inv X Qc σ H s):L2.Inv X Qc σ (upd H1 a (.ext λh=>∃f,cA h a f C Qn)) s1:=by
 obtain⟨⟨t,U,B,E,L,Y,_⟩,w,i⟩:=x;have k:∀b o,s.heap.get? b=Qg o->b≠a:=λb o e z=>by rw[z,w] at e;cases e
 have M:cA s1.heap a t C Qn:=⟨B,E.1,by unfold PySem.W.notCls;rw[L],by rw[E.2];trivial⟩;have d:∀{b}{u},H1 b=Qg u->upd H1 a (.ext λh=>∃f,cA h a f C Qn) b=Qg u:=λ{b u}e=>by rw[oN<|qS e i];exact e
 have l:∀{b},H1 b=Qn->b≠a->upd H1 a (.ext λh=>∃f,cA h a f C Qn) b=Qn:=λ{b}e n=>by rw[oN n];exact e
 have g:∀b,b∉X.ex->(∃o,X.s₀.heap.get? b=Qg o)->b≠a:=λb q ⟨o,e⟩=>by
  obtain⟨N,O⟩:=j.base.there b o e q;exact k b N O
 refine⟨I.ok,I.os,I.bare,⟨I.base.keep,I.base.slot,λb o e n q=>l (I.base.free b o e n q)<|g b q ⟨o,e⟩,I.base.there,λb P e=>d<|I.base.tups b P e,λb o u e=>d<|I.base.frzs b o u e,λb Q e=>?_⟩,I.loc,I.cell,?_,λx c e=>?_,λp G=>?_,λb u e=>?_,I.len,I.tk⟩
 .obtain⟨m,y⟩:=I.base.tbls b Q e;exact⟨m,d y⟩
 .obtain⟨m,⟨o,_,_,A,_⟩,_⟩:=j.loc;exact l I.free<|k _ o A
 .obtain⟨v,o,A,_⟩:=j.cell x c e;exact l (I.freeC x c e)<|k c o A
 .obtain⟨y,S,r⟩:=I.pin p G;exact⟨y,l S<|k _ _ (j.pin p G).1,r⟩
 .by_cases J:b=a
  .subst J;rw[pK] at e;cases e;exact⟨⟨t,M⟩,⟨t,B⟩,λZ h2 ⟨f,z⟩ T=>⟨f,T f z.at_,z.cls,z.no,by
    have:=z.dict;revert this;cases f.dict with
    |none=>exact λ_=>trivial
    |some _=>exact λz=>z.elim⟩⟩
  .rw[oN J] at e;exact(I.hok b u e).stay (λ_ _ _ z=>z) (λ_ z=>d z) λ_ _ z=>d z
end
section
def W7(I:L2.Inv X Qc σ H s)(Z:X.N.Nodup)(G:X.N[i]?=Qg x)(d:X.env.scope.names.lookup x=Qg .local)(J:σ[i]?=Qg (Qg v))
  (h:∀L,L2.Inv X Qc (σ.set i Qn) H L->Q () L):am M A (unbindName X.env x) Q E s:=by
 obtain⟨m,hn,O⟩:=id I.loc;obtain⟨u,_,lk⟩:=O i x v G J<|.inl d;have hm:m x=Qg u:=by
  rcases lk with⟨_,z⟩|⟨z,_⟩
  .exact z
  .have z':X.env.scope.names.lookup x=Qg .cell\/X.env.scope.names.lookup x=Qg .free:=z;rw[d] at z';rcases z' with z'|z'<;>cases z'
 refine wT I (wpAny_unbindName_local d hn hm (by rw[I.ok.kind];rfl) λP u' yN hs pB=>h _ ?_);have g:∀b o,b≠X.env.locals->s.heap.get? b=Qg o->P.get? b=Qg o:=λb o n e=>(hs.2 b n).trans e;have t:∀b o,X.s₀.heap.get? b=Qg o->b≠X.env.locals:=λb o e=>bb<|aV (aC e) I.ok.above;have S:∀b o,H b=Qg o->b≠X.env.locals:=λb o e=>qS e I.free;have a:∀y c,X.env.cells.lookup y=Qg c->∀w,s.heap.IsCell c w->P.IsCell c w:=λy c e w ⟨o,ho,hd⟩=>⟨o,g c o (I.cne y c e) ho,hd⟩;refine⟨I.ok,I.os,I.bare,⟨λb o e n B d=>g b o (t b o e)<|I.base.keep b o e n B d,λb o e n B d=>?_,I.base.free,λb o e d=>?_,I.base.tups,I.base.frzs,I.base.tbls⟩,⟨_,yN,λj y w f k e3=>?_⟩,λy c e=>?_,I.free,I.freeC,λp hp=>?_,λb o e=>?_,by rw[dS];exact I.len,pB⟩
 .obtain⟨sl,f⟩:=I.base.slot b o e n B d;exact⟨sl,g b _ (t b o e) f⟩
 .obtain⟨T,f⟩:=I.base.there b o e d;exact⟨T,g b T (t b o e) f⟩
 .have U:j≠i:=by
   rintro rfl;have qt:j<σ.length:=(al.mp J).1;rw[aX qt] at k;cases k
  rw[aQ<|bO U] at k;have hy:y≠x:=by rintro rfl;exact U<|Hf Z f G
  obtain⟨l,r2,l2⟩:=O j y w f k e3;refine⟨l,r2,?_⟩;rcases l2 with⟨C,q⟩|⟨C,c,q,k3⟩
  .exact .inl ⟨C,by show(if y=x then u' else m y)=Qg l;rw[Qu hy];exact q⟩
  .exact .inr ⟨C,c,q,a y c q _ k3⟩
 .obtain⟨w,z⟩:=I.cell y c e;exact⟨w,a y c e w z⟩
 .obtain⟨f,n1,Y,r⟩:=I.pin p hp;exact⟨g _ _ Y f,n1,Y,r⟩
 .refine(I.hok b o e).stay (λb2 l uh z=>g b2 l ?_ z) (λ_ z=>z) λ_ _ z=>z;rcases uh with rfl|uh
  .exact S _ _ e
  .exact S _ _ uh
end
section
variable{X:Cx}{Qc:List (af×Obj)}{σ:St}{H H1:Hp}{s s1:aj}
set_option tactic.hygienic true in
def WY(I:L2.Inv X Qc σ H s)(G:s1.os=s.os)(J:0<s1.toks)(b:fw s1.gens)(L:Un (qf X.stack) [] H H1 s.heap s1.heap)(f:HOk X.prog X.w H1 s1.heap)
  (M:Kp s.heap H1 (qf X.stack) s1.heap h2) (O:uB s.heap H1 h2 a (.ref C)) (Z:el X.K (.ref C) (.ref T)=Qg Qo) (vN:Gl X xT) (vH:X.mg xT=Qg (.ref T))
  (l:X.N.Nodup) (c:X.N[i]?=Qg n) (P:X.N[j]?=Qg y) (sV:i≠j) (d:X.env.scope.names.lookup n=Qg .local) (Q:X.env.scope.names.lookup y=Qg .local)
  (h:∀S,L2.Inv X Qc ((σ.set j (Qg<|.ref a)).set i Qn) (upd H1 a (.ext λh=>∃q,cA h a q C Qn)) S->Qf .next S)
  (r:pL n:=by decide) (g:(n==("__classdict__":ao))=Qp:=by decide) (t:pL xT:=by decide)
  (hs:i9 [.Name y p5] (.Name n p6) p7.line X.env=pure Qp:=by rfl) (hw:ja [.Name y p5] (.Name n p6) X.env=pure Qn:=by rfl):
  am (aq X.prog X.w) X.A (handleBy (.ref a) X.env [.ExceptHandler (Qg<|.Name xT p4) (Qg n) [.Assign [.Name y p5] (.Name n p6) p7] p8]) Qf X.xe { s1 with heap:=h2 }:=by
 have x:L2.Inv X Qc σ H1 { s1 with heap:=h2 }:=Inv.raised I G J b L f M;refine wpAny_handleBy_cons (codeAny_handlers_test<|Aj (X:=Cx.mk' X a) (Inv.mk' x a) vN vH ?_ t) (by intro z;cases z);have LT:PySem.W.Looks (aq X.prog X.w) h2 (typeOf<|.ref a) (.ref C):=by
  obtain⟨⟨oe,vs,he,hC,_⟩,_⟩:=O;exact hC.1▸(PySem.W.Looks.ld he).andThen .now
 refine(PySem.W.exm_one x.kIn LT Z).at ?_;show codeAny _ _ (.handlers (.ref a) [.ExceptHandler Qn (Qg n) [.Assign [.Name y p5] (.Name n p6) p7] p8] X.env) _ _;refine codeAny_handlers_suite_as (Wv x.stack O λh3 B x3=>?_);have I3:L2.Inv X Qc σ H1 { s1 with heap:=h3 }:=Inv.raised I G J b L f<|M.trans B;have I4:=Inv.track I3 x3 I;refine BE (X:=Cx.mk' X a) (v:=.ref a) (Inv.mk' I4 a) l c (.inl d) rfl (λs5 I5=>?_)<|.inr d;have ps:qH (Cx.mk' X a) [.Assign [.Name y p5] (.Name n p6) p7] _:=Aw (Sa (Ad c (.inl d) r g) (EH l P (.inl Q)<|.inr Q) hs hw) L_;refine bQ (ps Qc s5 _ _ { nx:=λE H'=>E=(σ.set i (Qg<|.ref a)).set j (Qg<|.ref a)/\H'=upd H1 a (.ext λh=>∃q,cA h a q C Qn),rt:=λ_ _=>False } I5 ?_) (λfl s6 m=>?_) λ_ _ z=>z.elim
 .refine⟨.ref a,?_,?_⟩
  .rw[aX (by rw[I.len];exact(al.mp c).1)]
  .exact⟨rfl,rfl⟩
 cases fl with
 |ret u=>obtain⟨_,_,_,_,_,z⟩:=m;exact z.elim
 |brk=>obtain⟨_,_,_,z⟩:=m;exact z.elim
 |cont=>obtain⟨_,_,_,z⟩:=m;exact z.elim
 | next=>
  obtain⟨J2,H6,I6,rfl,rfl⟩:=m;have U:=Inv.unmk' I.ok I6;show am _ X.A (do bindName X.env n .none;unbindBehindTheSuite X.env n p8) _ _ s6;unfold bindName unbindBehindTheSuite;refine aa (aa<|bD (wpAny_point<|aa (BE (v:=.non) U l c (.inl d) rfl (λs8 I8=>wpAny_point ?_)<|.inr d)));refine wpAny_onRaise (W7 I8 l c d (aX (by rw[U.len];exact(al.mp c).1)) λs9 I9=>h s9 ?_);refine I9.weak 'k' λk v e=>?_;by_cases o:k=i
  .subst o;have p:k<(σ.set j (Qg<|.ref a)).length:=by rw[dS,I.len];exact(al.mp c).1
   rw[aX p] at e;cases e
  .rw[aQ<|bO o] at e ⊢;rw[aQ<|bO o];by_cases Y:k=j
   .subst Y;have p:k<σ.length:=by rw[I.len];exact(al.mp P).1
    rw[aX p] at e;rw[aX (by rw[dS];exact p)];exact e
   .rw[aQ<|bO Y] at e ⊢;rw[aQ<|bO o];exact e
end
section
def Sm{T lam}{Cl}{nf xT n y}{i j M:Nat}{p1 p2 p3 p4 p5 p6 p7 p8 pos}{D}(I:L2.Inv X Qc σ H s)(hex:X.ex=[])
  (qM:codeAny (aq X.prog X.w) X.A (.call (.ref lam) ⟨[],[]⟩) (CR (pZ X.prog X.w Cl) X.stack X.prog X.w H s (λ_ O=>D.nx σ O)
   (λCv _ L=>∃C,Cv=.ref C/\el X.K (.ref C) (.ref T)=Qg Qo/\∀a,L a=Qn->D.nx ((σ.set j (Qg<|.ref a)).set i Qn) (upd L a (.ext λh=>∃ox,cA h a ox C Qn)))) s)
  (ua:jE lam s.heap) (P:X.N[M]?=Qg nf) (xS:σ[M]?=Qg (Qg<|.ref lam)) (qr:qu X.env.scope nf) (vN:Gl X xT) (vH:X.mg xT=Qg (.ref T)) (S:X.stack=X.env::X.outer) (tP:X.env.frame=Qg X.env.locals)
  (hN:X.N.Nodup) (hi:X.N[i]?=Qg n) (hj:X.N[j]?=Qg y) (sV:i≠j) (hn:X.env.scope.names.lookup n=Qg .local) (hy:X.env.scope.names.lookup y=Qg .local)
  (f:pL nf:=by decide) (p:(nf==("__classdict__":ao))=Qp:=by decide)
  (U:pL n:=by decide) (t:(n==("__classdict__":ao))=Qp:=by decide) (Y:pL xT:=by decide)
  (Z:swapsWith (.Call (.Name nf p1) [] [] p2) Qn p3.line X.env=pure Qp:=by rfl)
  (hs:i9 [.Name y p5] (.Name n p6) p7.line X.env=pure Qp:=by rfl) (hw:ja [.Name y p5] (.Name n p6) X.env=pure Qn:=by rfl):
  am (aq X.prog X.w) X.A (exec (.Try [.Expr (.Call (.Name nf p1) [] [] p2) p3] [.ExceptHandler (Qg<|.Name xT p4) (Qg n) [.Assign [.Name y p5] (.Name n p6) p7] p8] [] [] pos) X.env) (SP X Qc D) X.xe s:=by
 have B:∀(Q)(E),Q (.ref lam) s->am (aq X.prog X.w) X.A (eval (.Name nf p1) X.env) Q E s:=λQ E g=>by
  obtain⟨m,yN,hl⟩:=I.loc;obtain⟨u,r,l⟩:=hl M nf _ P xS qr;cases r;rcases l with⟨hk,hm⟩|⟨hk,c,hc,pN⟩
  .exact h9 (ic I.ok.kind hk yN hm g) f
  .rcases hk with hk|hk
   .exact h9 (iC I.ok.kind hk hc pN g) f
   .exact h9 (lg I.ok.kind hk hc pN g p) f
 refine wpAny_Try_except (fH<|wpAny_Expr_any ?_ I.quiet Z);refine dk<|B _ _ (PySem.W.callWith_F0 ua<|gm (dG qM λr s1 G=>?_));cases r with
 | ok fl=>
  cases fl with
  |next=>exact ah G
  |brk=>exact ah G
  |cont=>exact ah G
  | ret u=>
   obtain⟨v,O,J,_,q⟩:=I.after G;exact fb<|fb ⟨σ,O,J,q⟩
 | error e=>
  obtain⟨a,c,L,rfl,os,pB,d,un,k,x,C,hC,hm,q⟩:=G;have I1:L2.Inv X Qc σ L s1:=I.call' (ch:=[]) os un k d (λb z=>absurd z 'k');rw[hC] at x;refine GG (h0:=s.heap) (by rw[<- S];exact I.ok.frames) (by rw[<- S];exact I1.stack) tP x (λb hb=>k.fresh hb) ?_ λh2 kp x2=>?_
  .intro b hb;cases z:s.heap.get? b with
   |none=>rfl
   | some o=>
    obtain⟨o',e'⟩:=un.there b o z 'k';exact absurd (aC e')<|kQ.mpr hb
  .rw[<- S] at kp;exact WY I os pB d un k kp x2 hm vN vH hN hi hj sV hn hy (λs' J=>⟨_,_,J,q a x.free⟩) U t Y hs hw
end
structure DZ(nf n y xT:ao)(p0 p1 p2 p3 p5 p6 p7 pq pc:Pos)(kc):Prop where
 hfd:pL nf:=by decide
 hfcd:(nf==("__classdict__":ao))=Qp:=by decide
 hnd:pL n:=by decide
 hncd:(n==("__classdict__":ao))=Qp:=by decide
 hTd:pL xT:=by decide
 hs0:∀env:Env,swapsWith (.Call (.Name nf p1) [] [] p2) Qn p3.line env=pure Qp:=by intro _;rfl
 hsA:∀env:Env,swapsWith (.Constant .none kc pc) (Qg<|.Name y pq) p0.line env=pure Qp:=by intro _;rfl
 hs:∀env:Env,i9 [.Name y p5] (.Name n p6) p7.line env=pure Qp:=by intro _;rfl
 hw:∀env:Env,ja [.Name y p5] (.Name n p6) env=pure Qn:=by intro _;rfl
section
def Yj{Y}{d:St}{H}{s1}{Cl}{lam T}{nf n y xT}{rest}{i j}{Q}{W:St->Hp->Prop}{t}{p0 p1 p2 p3 p4 p5 p6 p7 p8 pq pc pos}{p:_}
  (E:L2.Inv Y [] d H s1) (g:Y.ex=[]) (G:Y.stack=Y.env::Y.outer) (I:Y.env.frame=Qg Y.env.locals) (J:∀(q:St)(c),L2.Inv Y [] q H c->jE lam c.heap) (L:Y.N[0]?=Qg nf) (k:d[0]?=Qg (Qg<|.ref lam))
  (r:Y.N.Nodup) (M:Y.N[i]?=Qg n) (s:Y.N[j]?=Qg y) (O:i≠j) (P:j≠0) (S:Y.env.scope.names.lookup n=Qg .local) (l:Y.env.scope.names.lookup y=Qg .local) (U:qu Y.env.scope nf) (vN:Gl Y xT) (vH:Y.mg xT=Qg (.ref T))
  (qM:∀c:aj,L2.Inv Y [] (d.set j<|Qg .non) H c->codeAny (aq Y.prog Y.w) Y.A (.call (.ref lam) ⟨[],[]⟩) (CR (pZ Y.prog Y.w Cl) Y.stack Y.prog Y.w H c (λ_ b=>W (d.set j<|Qg .non) b)
    (λCv _ v=>∃C,Cv=.ref C/\el Y.K (.ref C) (.ref T)=Qg Qo/\∀a,v a=Qn->W (((d.set j<|Qg .non).set j (Qg<|.ref a)).set i Qn) (upd v a (.ext λh=>∃ox,cA h a ox C Qn)))) c)
  (rD:qH Y rest t) (hW:∀σ' b,W σ' b->t { nx:=λ_ b=>Q .non b,rt:=Q } σ' b)
  (Z:DZ nf n y xT p0 p1 p2 p3 p5 p6 p7 pq pc p):
  am (aq Y.prog Y.w) Y.A (execs (.Assign [.Name y pq] (.Constant .none p pc) p0 :: .Try [.Expr (.Call (.Name nf p1) [] [] p2) p3] [.ExceptHandler (Qg<|.Name xT p4) (Qg n) [.Assign [.Name y p5] (.Name n p6) p7] p8] [] [] pos::rest) Y.env) (SP Y [] { nx:=λ_ b=>Q .non b,rt:=Q }) Y.xe s1:=by
 refine fH ?_;refine oO (GI r s (.inl l) (LV) (Z.hsA _) (.inr l) [] s1 d H { nx:=λσ' b=>σ'=d.set j (Qg .non)/\b=H,rt:=λ_ _=>False } E ⟨rfl,rfl⟩) λm c e=>?_;cases m with
 |ret u=>obtain⟨_,_,_,_,_,z⟩:=e;exact z.elim
 |brk=>obtain⟨_,_,_,z⟩:=e;exact z.elim
 |cont=>obtain⟨_,_,_,z⟩:=e;exact z.elim
 |next=>
 obtain⟨q,H2,o,rfl,rfl⟩:=e;refine fH (oO (Sm (D:={ nx:=W,rt:=λ_ _=>False }) o g (qM c o) (J _ c o) L (by rw[aQ P];exact k) U vN vH G I r M s O S l Z.hfd Z.hfcd Z.hnd Z.hncd Z.hTd (Z.hs0 _) (Z.hs _)<|Z.hw _) λm s3 f=>?_);cases m with
 |ret u=>obtain⟨_,_,_,_,_,z⟩:=f;exact z.elim
 |brk=>obtain⟨_,_,_,z⟩:=f;exact z.elim
 |cont=>obtain⟨_,_,_,z⟩:=f;exact z.elim
 | next=>
  obtain⟨x,B,I3,w3⟩:=f;exact rD [] s3 x B _ I3<|hW x B w3
end
section
def US{Cl}{k}{f}{name qual}{params}{body}{scope}{dV kV doc pm g_ ct oc}{an od}{qx}{N ps}{us}{vs}{Q}
  (I:L2.Inv X Qc σ H s) (j:nB (k+1) X.A) (p:X.K.lookup f=Qg ⟨oc,od,.func<|a8 name qual params body scope dV kV doc pm an g_ ct,qx⟩)
  (t:cg X.K g_ qual=Qo) (S:oZ N ps scope) (y:gk s (a8 name qual params body scope dV kV doc pm an g_ ct) ⟨us,[]⟩ (ps.zip us)) (B:vs.length=ps.length) (C:nz vs us)
  (E:∀d:aj,nB k (X.A.deeper<|aU qual scope s.heap.objs.size f g_)->L2.Inv (sR Cl X.prog X.w X.K X.mg X.base N qual scope f g_ X.A X.stack s H E0) [] (L2.start N vs) H d->
   am (aq X.prog X.w) (sR Cl X.prog X.w X.K X.mg X.base N qual scope f g_ X.A X.stack s H E0).A (execs body (sR Cl X.prog X.w X.K X.mg X.base N qual scope f g_ X.A X.stack s H E0).env) (SP (sR Cl X.prog X.w X.K X.mg X.base N qual scope f g_ X.A X.stack s H E0) [] { nx:=λ_ b=>Q .non b,rt:=Q }) (sR Cl X.prog X.w X.K X.mg X.base N qual scope f g_ X.A X.stack s H E0).xe d):
  am (aq X.prog X.w) X.A (call (.ref f) us) (EP X Qc σ Q) X.xe s:=by
 have G:=I.env0;have o:=I.kIn;have L:∀z∈ps.zip us,scope.names.lookup z.1=Qg .local\/(scope.names.lookup z.1=Qg .cell/\((bX (s.heap.objs.size+1) scope.names []).lookup z.1).isSome=Qo):=λ⟨m,v⟩ M=>by
  rcases S.par m (ik M).1 with q|q
  .exact .inl q
  .exact .inr ⟨q,fk _ _ _<|.inl q⟩
 refine gm (dG (?_:codeAny (aq X.prog X.w) X.A (.call (.ref f) ⟨us,[]⟩) (CR (pZ X.prog X.w Cl) X.stack X.prog X.w H s Q E0) s) λr g h=>?_)
 .refine kr j.depth (o _ _ p) rfl S.co S.gen rfl (lD o t)<|y _ _ _ _ ?_;refine wT I (jb S.kind L λO P d x T=>?_);subst P;refine⟨I.nolimit.keeps x.toInCall.keep,codeAny_func ?_⟩;have U:L2.Inv (sR Cl X.prog X.w X.K X.mg X.base N qual scope f g_ X.A X.stack s H E0) [] (L2.start N vs) H d:=NU S j.hd G B C x T;refine bQ (E d (j.deeper _) U) (λl g c=>?_) λe g c=>c;have i:∀{a}{b}{v}{u},L2.Inv (sR Cl X.prog X.w X.K X.mg X.base N qual scope f g_ X.A X.stack s H E0) [] a b g->RelV v u->Q v b->CE X.stack X.prog X.w H s Q u g:=
   λ{a b v u}J n q=>⟨⟨v,b,J.os,J.bare,J.base,J.hok,n,q⟩,J.tk⟩
  cases l with
  | ret u=>
   obtain⟨v,a,b,J,n,q⟩:=c;exact i J n q
  | next=>
   obtain⟨a,b,J,q⟩:=c;exact i (v:=V.non) J rfl q
  | brk=>
   obtain⟨_,_,_,q⟩:=c;exact ah q
  | cont=>
   obtain⟨_,_,_,q⟩:=c;exact ah q
 .cases r with
  |error e=>exact Au Qc σ H s e g I h
  | ok l=>
   cases l with
   |ret u=>exact I.after h
   |next=>exact ah h
   |brk=>exact ah h
   |cont=>exact ah h
end
section
def XZ{Cl}{k}{f lam T}{name qual nf n y xT}{params}{rest}{scope}{dV kV doc pm g_ ct oc}{an od}{qx}{N}{i j}{Q}{W:St->Hp->Prop}{p0 p1 p2 p3 p4 p5 p6 p7 p8 pq pc pos}{e:_}
  (I:L2.Inv X Qc σ H s) (m:nB (k+1) X.A)
  (o:X.K.lookup f=Qg ⟨oc,od,.func<|a8 name qual params (.Assign [.Name y pq] (.Constant .none e pc) p0 :: .Try [.Expr (.Call (.Name nf p1) [] [] p2) p3] [.ExceptHandler (Qg<|.Name xT p4) (Qg n) [.Assign [.Name y p5] (.Name n p6) p7] p8] [] [] pos::rest) scope dV kV doc pm an g_ ct,qx⟩)
  (p:cg X.K g_ qual=Qo) (S:oZ N [nf] scope)
  (q:gk s (a8 name qual params (.Assign [.Name y pq] (.Constant .none e pc) p0 :: .Try [.Expr (.Call (.Name nf p1) [] [] p2) p3] [.ExceptHandler (Qg<|.Name xT p4) (Qg n) [.Assign [.Name y p5] (.Name n p6) p7] p8] [] [] pos::rest) scope dV kV doc pm an g_ ct) ⟨[.ref lam],[]⟩ ([nf].zip [.ref lam]))
  (r:∀b:aj,Un (qf X.stack) [] H H s.heap b.heap->HOk X.prog X.w H b.heap->jE lam b.heap) (u:N.Nodup) (v:N[0]?=Qg nf) (x:N[i]?=Qg n) (B:N[j]?=Qg y) (E:i≠j) (G:j≠0) (J:scope.names.lookup n=Qg .local) (L:scope.names.lookup y=Qg .local) (M:qu scope nf)
  (O:scope.names.lookup xT=Qg .globalImplicit) (P:X.mg xT=Qg (.ref T))
  (U:∀b:aj,nB k (X.A.deeper<|aU qual scope s.heap.objs.size f g_)->nV X.prog X.w X.K X.mg X.base (X.A.deeper<|aU qual scope s.heap.objs.size f g_) (aU qual scope s.heap.objs.size f g_::X.stack) b H->Un (qf X.stack) [] H H s.heap b.heap->
   codeAny (aq X.prog X.w) (X.A.deeper<|aU qual scope s.heap.objs.size f g_) (.call (.ref lam) ⟨[],[]⟩) (CR (pZ X.prog X.w Cl) (aU qual scope s.heap.objs.size f g_::X.stack) X.prog X.w H b (λ_ c=>W ((L2.start N [.ref lam]).set j<|Qg .non) c)
    (λY _ g=>∃C,Y=.ref C/\el X.K (.ref C) (.ref T)=Qg Qo/\∀a,g a=Qn->W ((((L2.start N [.ref lam]).set j<|Qg .non).set j (Qg<|.ref a)).set i Qn) (upd g a (.ext λh=>∃ox,cA h a ox C Qn)))) b)
  (rD:nB k (X.A.deeper<|aU qual scope s.heap.objs.size f g_)->∃t,qH (sR Cl X.prog X.w X.K X.mg X.base N qual scope f g_ X.A X.stack s H E0) rest t/\∀σ' c,W σ' c->t { nx:=λ_ c=>Q .non c,rt:=Q } σ' c)
  (Z:DZ nf n y xT p0 p1 p2 p3 p5 p6 p7 pq pc e):
  am (aq X.prog X.w) X.A (call (.ref f) [.ref lam]) (EP X Qc σ Q) X.xe s:=by refine US (Cl:=Cl) (vs:=[.ref lam]) I m o p S q rfl (.cons rfl .nil) λs1 l I1=>?_;obtain⟨t,ht,hW⟩:=rD l;exact Yj (Cl:=Cl) (Q:=Q) I1 rfl rfl rfl (λqQ b d=>r b d.base d.hok) v (by rfl) u x B E G J L M O P (λb d=>U b l d.env0 d.base) ht hW Z
end
section
variable{X:Cx}{Qc:List (af×Obj)}{σ:St}{H:Hp}{s s2:aj}
def Mi(a:Un fs [] H H h h')(z:h.IsCell c v)(n:H c=Qn):h'.IsCell c v:=by obtain⟨o,b,d⟩:=z;obtain⟨f,e⟩:=a.any b n 'k';exact⟨_,e,d⟩
def OC{b:List (ao×af)}(I:L2.Inv X Qc σ H s)(d:Un (qf X.stack) [] H H s.heap s2.heap)(a:∀x c,b.lookup x=Qg c->X.env.cells.lookup x=Qg c):∀x c,b.lookup x=Qg c->(∃v,s2.heap.IsCell c v)/\H c=Qn:=λx c e=>by
 obtain⟨v,z⟩:=I.cell x c<|a x c e;exact⟨⟨v,Mi d z (I.freeC x c<|a x c e)⟩,I.freeC x c<|a x c e⟩
def Nt{a:List (ao×af)}(I:L2.Inv X Qc σ H s)(b:∀x c,a.lookup x=Qg c->X.env.cells.lookup x=Qg c):∀x y c,a.lookup x=Qg c->a.lookup y=Qg c->x=y:=λx y c d e=>I.ok.inj x y c (b x c d)<|b y c e
def Ob{b:List (ao×af)}{a:cC}(I:L2.Inv X Qc σ H s)(j:Un (qf X.stack) [] H H s.heap s2.heap)(k:∀x c,b.lookup x=Qg c->X.env.cells.lookup x=Qg c)(d:∀x,a.names.lookup x=Qg .free->∃c,b.lookup x=Qg c)
  (f:∀x,a.names.lookup x=Qg .free->X.env.scope.names.lookup x=Qg .cell\/X.env.scope.names.lookup x=Qg .free):
  ∀(i:Nat)x v,X.N[i]?=Qg x->σ[i]?=Qg (Qg v)->a.names.lookup x=Qg .free->∃u c,RelV v u/\b.lookup x=Qg c/\s2.heap.IsCell c (Qg u):=λi x v n o e=>by
 obtain⟨m,y,p⟩:=I.loc;obtain⟨u,r,l⟩:=p i x v n o (.inr<|f x e);obtain⟨c,g⟩:=d x e;refine⟨u,c,r,g,?_⟩;rcases l with⟨z,_⟩|⟨_,A,h,t⟩
 .have w:X.env.scope.names.lookup x=Qg .local:=z;rcases f x e with q|q<;>(rw[w] at q;cases q)
 .have:=k x c g;rw[h] at this;cases this;exact Mi j t<|I.freeC x _ h
end
structure EK(out sc:cC):Prop where
 kind:sc.kind=.function
 co:sc.isCoroutine=Qp
 gen:sc.isGenerator=Qp
 nd:(sc.names.map (·.1)).Nodup
 cell:∀x∈sc.names,x.2 ≠ .cell
 loc:∀x∈sc.names,x.2 ≠ .local
 frees:∀y∈sc.names,y.2=.free->out.names.lookup y.1=Qg .cell\/out.names.lookup y.1=Qg .free
def FW(r:RS):R D:=match r with
 |.nx _ O=>.ok .non O
 |.rt d O=>.ok d O
 |_=>.bad
def F7(Ca:Nat->Nat)(n j:Nat)(tR:DS)(r:R D):R D:=match r with
 |.ok _ O=>FW<|tR ((aN n Qn).set j<|Qg .non) O
 |.exc c O=>FW<|tR ((aN n Qn).set j<|Qg (.exn<|Ca c)) O
 |.bad=>.bad
def Av(Pt iT:Nat)(Ca:Nat->Nat)(n j:Nat)(tE:DE)(tR:DS):DE:=λσ O=>match σ[iT]? with
 |some (Qg (.tab p))=>if p=Pt then F7 Ca n j tR (tE σ O) else .bad
 |_=>.bad
def Od(c:a_.length=n)(a:a_[j]?=Qg (Qg v))(q:Qe K H Qb μ d v):ny K H Qb μ ((aN n Qn).set j<|Qg d) a_:=by
 refine⟨by simp[c],λi x e=>?_⟩;by_cases b:j=i
 .subst b;have f:j<n:=by have:=(al.mp a).1;lia
  rw[aX ⇑f] at e;cases e;exact⟨v,a,q⟩
 .rw[aQ b] at e;rw[d7] at e;split at e<;>cases e
def NN(q:pf Ex K H Qb μ (FW r) Q):nE E' K H Qb μ r { nx:=λ_ a=>Q .non a,rt:=Q }:=by
 cases r with
 |nx σ O'=>exact λd a c x e b=>q .non a c x b xg
 |rt d' O'=>exact λv a c x b r=>q v a c x b r
 |bk σ O'=>exact ah q
 |ct σ O'=>exact ah q
 |exc b O'=>exact ah q
 |bad=>exact ah q
def ER(h:0<N.length):(L2.start N [a]).length=N.length:=by unfold L2.start;simp;lia
def Thk(Cl:Nat->ae)(P:aE)(w:aG)(K:ag)(mg:ao->Option ae)(base:aJ)(fs:List af)(H:Hp)(h:aJ)(lam:af)(kk:Nat)(Qb μ:List af)(r:R D):Prop:=
 ∀(A:aY)(outer:List Env)(s2:aj)(Q:VK)(E:XK),nB kk A->nV P w K mg base A outer s2 H->Un fs [] H H h s2.heap->pf (Xk Cl E) K H Qb μ r Q->codeAny (aq P w) A (.call (.ref lam) ⟨[],[]⟩) (CR (pZ P w Cl) outer P w H s2 Q E) s2
section
variable{Y:Cx}{Ex:Nat->Hp->Prop}{Cl:Nat->ae}{Ca:Nat->Nat}
def V1{k i j:Nat}{T e:af}{x nf n y xT:ao}{b:cN}{N:List ao}{l:List cN}{J:DS}{p0 p1 p2 p3 p4 p5 p6 p7 p8 pq pc L:Pos}{kc:_}{m:List (af×Obj)}{pJ:St}{H:Hp}{s:aj}{f:af}{fd:cV}{fs:List af}{h0:aJ}{Qb μ:List af}{r:R D}{Q:VK}
  (I:L2.Inv Y m pJ H s) (F:L2.Fun Y.K x x b f fd) (hr:nB (k+1) Y.A)
  (C6:qK b=.Assign [.Name y pq] (.Constant .none kc pc) p0 :: .Try [.Expr (.Call (.Name nf p1) [] [] p2) p3] [.ExceptHandler (Qg<|.Name xT p4) (Qg n) [.Assign [.Name y p5] (.Name n p6) p7] p8] [] [] L::l)
  (S:oZ N [nf] (l_ b)) (hN:N.Nodup) (rF:N[0]?=Qg nf) (hi:N[i]?=Qg n) (hj:N[j]?=Qg y) (sV:i≠j) (zx:j≠0) (hn:(l_ b).names.lookup n=Qg .local) (hy:(l_ b).names.lookup y=Qg .local) (xS:qu (l_ b) nf)
  (hb:∀(t g u:ae)(B:Option af)(o C:ae)(us:List ae),us.length=1->bindArgs (a8 x x (sG b) (qK b) (l_ b) .none t g u B o C) ⟨us,[]⟩=pure ([nf].zip us))
  (vN:(l_ b).names.lookup xT=Qg .globalImplicit) (vH:Y.mg xT=Qg (.ref T)) (ue:∀c,Cl c=.ref (Ca c)/\yf Y.K (Ca c)/\el Y.K (.ref<|Ca c) (.ref T)=Qg Qo)
  (rD:∀(f:af)(o:ae)(s:aj)(H:Hp),nB k (Y.A.deeper<|aU x (l_ b) s.heap.objs.size f o)->qv (sR Cl Y.prog Y.w Y.K Y.mg Y.base N x (l_ b) f o Y.A Y.stack s H E0) (Xk Cl E0) l J)
  (ua:∀p:aj,Un (qf Y.stack) [] H H s.heap p.heap->HOk Y.prog Y.w H p.heap->jE e p.heap) (th:Thk Cl Y.prog Y.w Y.K Y.mg Y.base fs H h0 e k Qb μ r) (M:∀s3:aj,Un (qf Y.stack) [] H H s.heap s3.heap->Un fs [] H H h0 s3.heap)
  (q:pf Ex Y.K H Qb μ (F7 Ca N.length j J r) Q)
  (Z:DZ nf n y xT p0 p1 p2 p3 p5 p6 p7 pq pc kc:=by exact {}):
  am (aq Y.prog Y.w) Y.A (call (.ref f) [.ref e]) (EP Y m pJ Q) Y.xe s:=by
 have E:0<N.length:=(al.mp rF).1;have AK:j<N.length:=(al.mp hj).1;obtain⟨oc,od,t,g,u,B,o,C,qx,rfl,lk,o6⟩:=F.ex;have FA:gk s (a8 x x (sG b) (qK b) (l_ b) .none t g u B o C) ⟨[.ref e],[]⟩ ([nf].zip [.ref e]):=.of_eq<|hb t g u B o C [.ref e] rfl;rw[C6] at lk FA;refine XZ (W:=Fh (Xk Cl E0) Y.K J { nx:=λ_ H'=>Q .non H',rt:=Q }) (Cl:=Cl) I hr lk o6 S FA ua hN rF hi hj sV zx hn hy xS vN vH ?_ ?_ Z
 .intro p O e0 un;refine th _ _ p _ _ O e0 (M p un) ?_;cases r with
  |bad=>exact ah q
  | ok d O'=>
   intro v H3 P U G d3;refine⟨Qb,P,_,O',Od (by rw[dS,ER E]) ?_ xg,G,NN<|post.ext q U⟩;rw[aX (by rw[ER E];exact AK)]
  | exc cc O'=>
   intro H3 P U G;obtain⟨h1,h2,h3⟩:=ue cc;refine⟨Ca cc,h1,h3,λa ha=>⟨Qb,P,_,O',Od (v:=.ref a) (d:=.exn<|Ca cc) (by simp[ER E]) ?_ ?_,G.laid ha,NN<|post.ext q (U.trans<|.laid ha)⟩⟩
   .rw[aQ sV,aX (by simp[ER E];exact AK)]
   .unfold Qe;exact⟨a,_,rfl,⟨h2,λh z=>z⟩,.inl pK,G.not_in ha⟩
 .intro O;exact⟨_,(rD f o _ H O).out,λσ' H' z=>z⟩
end
section
variable{X:Cx}{Ex:Nat->Hp->Prop}{Cl:Nat->ae}{Ca:Nat->Nat}
set_option tactic.hygienic true in
def XR{k iT i j:Nat}{Pt c:af}{T:af}{x nf n y xT:ao}{l:cN}{N:List ao}{u:List cN}{U:DS}{Y:DE}{b:fc}{body:aZ}{a:cC}{p0 p1 p2 p3 p4 p5 p6 p7 p8 pq pc pos pn pl pp:Pos}{kc:_}
  (h:pD X.K X.mg x l) (hr:nB (k+2) X.A)
  (C6:qK l=.Assign [.Name y pq] (.Constant .none kc pc) p0 :: .Try [.Expr (.Call (.Name nf p1) [] [] p2) p3] [.ExceptHandler (Qg<|.Name xT p4) (Qg n) [.Assign [.Name y p5] (.Name n p6) p7] p8] [] [] pos::u)
  (S:oZ N [nf] (l_ l)) (hN:N.Nodup) (rF:N[0]?=Qg nf) (hi:N[i]?=Qg n) (hj:N[j]?=Qg y) (sV:i≠j) (zx:j≠0) (hn:(l_ l).names.lookup n=Qg .local) (hy:(l_ l).names.lookup y=Qg .local) (xS:qu (l_ l) nf)
  (hb:∀(kV doc pm:ae)(an:Option af)(P ct:ae)(us:List ae),us.length=1->bindArgs (a8 x x (sG l) (qK l) (l_ l) .none kV doc pm an P ct) ⟨us,[]⟩=pure ([nf].zip us))
  (vN:(l_ l).names.lookup xT=Qg .globalImplicit) (vH:X.mg xT=Qg (.ref T)) (ue:∀c,Cl c=.ref (Ca c)/\yf X.K (Ca c)/\el X.K (.ref<|Ca c) (.ref T)=Qg Qo)
  (rD:∀(f:af)(P:ae)(s:aj)(H:Hp),nB (k+1) (X.A.deeper<|aU x (l_ l) s.heap.objs.size f P)->qv (sR Cl X.prog X.w X.K X.mg X.base N x (l_ l) f P X.A X.stack s H E0) (Xk Cl E0) u U)
  (L:qJ X.mg X.base c Pt) (qz:X.env.code=.ref c) (t:EK X.env.scope a) (sN:defaultsOf b X.env=([],[]))
  (ug:∀(name G:ao)(cl:List (ao×af))(pm J ct:ae),bindArgs (b9 name G b body a cl pm J ct) ⟨[],[]⟩=pure [])
  (hE:∀(q:ao)(g:af)(J:ae)(cl:List (ao×af))(A:aY)(r:List Env)(s:aj)(H:Hp)(E:XK),nB k (A.deeper<|q0 q a s.heap.objs.size g J cl)->PD (zM (pZ X.prog X.w Cl) X.prog X.w X.K X.mg X.base X.N (q0 q a s.heap.objs.size g J cl) A r s H E) (Xk Cl E) body Y)
  (hg:Gl X x)
  (qy:pL x:=by decide)
  (Z:DZ nf n y xT p0 p1 p2 p3 p5 p6 p7 pq pc kc:=by exact {}):
  PD X Ex (.Call (.Name x pn) [.Lambda b body a pl] [] pp) (Av Pt iT Ca N.length j Y U):=by
 refine⟨?_⟩;rintro Qc s a_ H Q I ⟨M,μ,σ,O,e1,c1,q⟩;obtain⟨f,fd,hm,F⟩:=h;have Dc:0<N.length:=(al.mp rF).1;have AK:j<N.length:=(al.mp hj).1;have hil:i<N.length:=(al.mp hi).1
 -- the table
 obtain⟨ti,q⟩:nJ H Pt/\pf Ex X.K H M μ (F7 Ca N.length j U<|Y σ O) Q:=by
  unfold Av at q;split at q
  .rename_i p hp;by_cases sM:p=Pt
   .rw[Qs sM] at q;obtain⟨v,_,d⟩:=e1.at_ iT _ hp;unfold Qe at d;rw[sM] at d;exact⟨d.2,q⟩
   .rw[Qu sM] at q;exact ah q
  .exact ah q
 have o4:∀y∈a.names,y.2=.free->∃c,X.env.cells.lookup y.1=Qg c:=λy hy hf=>I.ok.has y.1<|t.frees y hy hf;have qh:∀x c,(qo X.env.cells a.names []).lookup x=Qg c->X.env.cells.lookup x=Qg c:=λx c e=>by
  rcases BN _ _ (be e) with m|⟨m,z⟩
  .cases m
  .obtain⟨c',x_⟩:=o4 (x,.free) m rfl;have vQ:X.env.cells.lookup x=Qg c':=x_;rw[vQ] at z ⊢;rw[z];rfl
 have vS:∀x,a.names.lookup x=Qg .free->∃c,(qo X.env.cells a.names []).lookup x=Qg c:=λx e=>by
  have m:=BO (cells:=X.env.cells) a.names []<|be e;exact⟨_,vt (BM _ _ t.nd 'k' (by intro p hp;cases hp)) m⟩
 have AM:∀x,a.names.lookup x=Qg .free->X.env.scope.names.lookup x=Qg .cell\/X.env.scope.names.lookup x=Qg .free:=λx e=>t.frees (x,.free) (be e) rfl;have qr:∀x,qu a x->a.names.lookup x=Qg .free:=λx hx=>by
  rcases hx with z|z|z
  .exact absurd rfl (t.loc _<|be z)
  .exact absurd rfl (t.cell _<|be z)
  .exact z
 refine dk<|Aj I hg hm ?_ qy;refine gc (h₀:=X.base) I.ok.mod.kin F.kp ?_ (by rfl) (by rfl);show am _ _ (spliced<|(Qp,eval (.Lambda b body a pl) X.env)::backTo pp (au [] X.env)) _ _ s;refine iX (LN I L qz ti (Ib o4) sN λg J vV h' tk H' C ext cells Fy vM pk sJ=>?_);refine jk ⟨C.kIn,?_⟩;have CK:g∉qf X.stack:=by
  intro hb;obtain⟨_,o,ho,_⟩:=I.stack.mem hb;exact absurd (aC ho)<|kQ.mpr vM
 obtain⟨cc,φ,rfl,uf,IZ⟩:=sJ;refine V1 (μ:=μ) C F hr C6 S hN rF hi hj sV zx hn hy xS hb vN vH ue rD (λs2 B _=>⟨_,_,_,_,B.keep g _ pk Fy CK 'k'⟩) ?_ (λ_ B=>B) (post.ext q<|ext μ) Z;intro A r s2 Q2 E2 CG e0 B qq;obtain⟨qn,Jj⟩:=IZ _ (e0.hok cc _ uf).1;exact RT (μ:=μ) CG e0 (B.keep g _ pk Fy CK 'k') Jj t.co t.gen t.kind t.cell (ug _ _ _ _ _ _) qr (OC C B qh) (Nt C qh) vS (Ob C B qh vS AM) C.len (hE _ _ _ _ _ _ _ _ _) (e1.ext<|ext μ) (cells M μ O c1) qq
end
def SR{K:ag}{c:XK->Nat->Hp->Prop}{Pt:af}{F:oU}{H:Hp}{a:af}{b:List Int}(h:∃O,F [.lst<|b.map .int] []=.ok (.bl Qo) O)(d:H Pt=Qg (.tbl #[]))(f:pI K H a (b.map V.int)):xv K c 1 Pt F [.ref a] H (λv _=>v=.bl Qo) λ_ _ _=>False:=by
 obtain⟨O,h⟩:=h;have g:∀(l:List Int),nv K H [] [] (l.map D.int) (l.map V.int):=λl=>by
  induction l with
  |nil=>exact .nil
  |cons x r ih=>exact .cons rK ih
 refine⟨rfl,[],[],[.lst<|b.map .int],[],.cons ?_ .nil,⟨rfl,by simp,by simp,by simp,λk a e=>by simp at e⟩,nJ.empty d,?_⟩
 .unfold Qe;exact⟨a,_,rfl,f.imp (λz=>⟨z,by simp,by simp⟩) id,g b⟩
 .rw[h];intro v i j _ _ r;unfold Qe at r;exact r
section
end
def um(h:sc.names.lookup z=Qn):¬ qu sc z:=by intro v;rcases v with v|v|v<;>(rw[h] at v;cases v)
noncomputable def J4(out sc:cC):Bool:=(match sc.kind with|.function=>Qo|_=>Qp) && !sc.isCoroutine && !sc.isGenerator&&decide ((sc.names.map (·.1)).Nodup)&&(sc.names.all λy=>!(y.2 == .cell) && !(y.2 == .local))&&(sc.names.all λy=>!(y.2 == .free)||out.names.lookup y.1==Qg .cell||out.names.lookup y.1==Qg .free)
def Rt(h:J4 out sc=Qo):EK out sc:=by
 unfold J4 at h;simp only[ck,decide_eq_true_eq,cE] at h;obtain⟨⟨⟨⟨⟨b,d⟩,f⟩,g⟩,c⟩,i⟩:=h;refine⟨?_,by simpa using d,by simpa using f,g,λy a=>?_,λy a=>?_,λy a j=>?_⟩
 .cases e:sc.kind<;>rw[e] at b<;>first|rfl|cases b
 .have:=(c y a).1;simpa using this
 .have:=(c y a).2;simpa using this
 .have:=i y a;rw[j] at this;simpa using this
set_option tactic.hygienic true in
def Ve(X:K.In base)(g:mg x=Qg (.ref C))(q:lc K C F4 "ValueError.__new__" = Qo):F8 mg base x C:=by
 unfold lc at q;split at q
 next dd cd sl ho=>
  split at q
  next C' bm k0 k1 k2 k3 n k5 hm hs=>
   simp only[ck,beq_iff_eq,jn] at q;obtain⟨⟨⟨⟨⟨d,e⟩,b⟩,f⟩,a⟩,c⟩:=q;subst d;subst e;cases cd with
   | mk nm bs mro ns qn hd sn sub ab col del=>
    dsimp only at hm b a c;subst hm;subst b;cases sl with
    | mk l=>
     dsimp only at hs;subst hs;exact⟨g,bm,ns,nm,qn,bs,hd,sn,sub,ab,col,dd,k0,k1,k2,k3,k5,_,X _ _ ho,.of_isNs<|PySem.W.isNs_of_in X a,PySem.W.nsMap_none_of_in X a c,PySem.W.tail_of_in X f⟩
  next=>cases q
 next=>cases q
def xck_of(d:bu K (.ref C) "__getattribute__" = Qg (Qg<|.builtin "BaseException.__getattribute__"))(e:bu K (.ref C) "__getattr__" = Qg Qn)(f:mU K C=Qg cd)
  (a:bu K (.ref C) "__class__" = Qg (Qg<|.builtin "object.__class__")) (g:gF K (.builtin "object.__class__") "__get__" = Qg (Qg<|.builtin "getset_descriptor.__get__")) (h:jP K (.builtin "object.__class__")=Qg Qo)
  (i:gR K C (.type "object")=Qg Qo) (j:gR K C (.type "BaseException")=Qg Qo)
  (k1:aH K (.ref C) (.type "int")=Qg Qp) (k2:aH K (.ref C) (.type "bool")=Qg Qp) (k3:aH K (.ref C) (.type "str")=Qg Qp) (k:aH K (.ref C) (.type "list")=Qg Qp) (k5:aH K (.ref C) (.type "tuple")=Qg Qp) (l:aH K (.ref C) (.type "dict")=Qg Qp):yf K C:=
 ⟨d,e,⟨cd,f⟩,a,g,h,i,j,λc b=>by
  simp only[av,fM,or_false] at b;rcases b with rfl|rfl|rfl|rfl|rfl|rfl<;>assumption⟩
def K5{K}{x name qual}{f c Pt}{params}{body}{scope}{dV kV doc pm ct oc PR}{an od od'}{qx IF}{vs}(a:fy K bt x=Qg (Qg<|.ref f))
  (b:K.lookup f=Qg ⟨oc,od,.func<|a8 name qual params body scope dV kV doc pm an (.ref c) ct,qx⟩) (d:K.lookup c=Qg ⟨PR,od',.fields vs,IF⟩) (e:vs[11]?=Qg (.ref Pt)):eI K x=Qg (c,Pt):=by unfold eI;rw[a];simp only[b];show(match K.lookup c with|some ⟨_,_,.fields vs,_⟩=>_|_=>Qn)=_;simp only[d,e]
def YJ:bi "ValueError" = Qg (.type "ValueError"):=by boot_by_name
structure n6(P:aE)(w:aG)(ia:af)(fp:List af)(n:Nat)(Pv:Nat->ae->Prop)(Sx:Nat->aJ->Prop):Prop where
 stab:∀i h h',Sx i h->(∀b∈ia::fp,∀o,h.get? b=Qg o->h'.get? b=Qg o)->Sx i h'
 item:∀(A:aY)(i:Nat)(s:aj)(Q:ae->aj->Prop)(E:ae->aj->Prop),i<n->Sx i s.heap->(∀v h' tk,Pv i v->Sx (i+1) h'->cn ia s.heap h'->Q v { s with heap:=h',toks:=tk })->am (aq P w) A (di<|.ref ia) Q E s
 done:∀(A:aY)(i:Nat)(s:aj)(Q:ae->aj->Prop)(E:ae->aj->Prop),A.handled=Qn->n<=i->Sx i s.heap->(∀h' e,iU ia s.heap h'->(∃o,h'.get? e=Qg o/\o.cls=.type "StopIteration")->E (.ref e) { s with heap:=h' })->am (aq P w) A (di<|.ref ia) Q E s
section
variable{P:aE}{w:aG}{A:aY}{E:ae->aj->Prop}{s:aj}
def Nd{α:Type}{Q:α->aj->Prop}(c:A.handled=Qn)(h:∀h' e,(∀b o,s.heap.get? b=Qg o->h'.get? b=Qg o)->(∃o,h'.get? e=Qg o/\o.cls=.type "StopIteration")->E (.ref e) { s with heap:=h' }):
  am (aq P w) A (newExc (.type "StopIteration") [] >>= λe=>(raiseNew e:Sem α)) Q E s:=by refine aa ?_;simp only[newExc,newTuple];refine aa (cb (?_) (by size_fits));refine aa (m:=firstArgMember _ _) (j9 (a:=.none) (by first|rfl|(simp only[firstArgMember];rfl)) (cb ?_ (by size_fits)));simp only[raiseNew];refine aa (wpAny_handled ?_);rw[c];refine aa (ak (wpAny_throw (h _ _ (λb o e=>ai _<|ai _ e) ⟨_,aA _ rfl,rfl⟩)))
def WH(l g:af)(a:Array ae)(M:g≠l):n6 P w l [g] a.size (λi v=>a[i]?=Qg v) (λi h=>h.IsTupleIter l g i/\h.IsTuple g a) where
 stab:=by
  rintro i h B ⟨⟨o,e,c,d⟩,⟨C,N,r⟩⟩ k;exact⟨⟨o,k l 'k' o e,c,d⟩,⟨C,k g 'k' C N,r⟩⟩
 item:=by
  rintro A i s Q E t ⟨f,u⟩ y;obtain⟨O,m,G,j⟩:=id f;obtain⟨H,n,I,J,p⟩:=id u;have q:a[i]?=Qg a[i]:=aS t;unfold di;refine aa<|cm (name := "__next__") f.typeIs eJ (bF eJ f.typeIs i3 ?_<|iM _);show am _ _ (field (.ref l) 0 >>= _) _ _ s;refine aa<|bC m j (x:=.ref g) rfl ?_;show am _ _ (if (bJ g==bW)=Qo then _ else _) _ _ s;rw[Qu (by exact bo)];show am _ _ (field (.ref l) 1 >>= _) _ _ s;refine aa<|bC m j (x:=.int i 0) rfl ?_;show am _ _ (seqItems? (.ref g) >>= _) _ _ s;refine aa<|fz n p ?_;simp only[eL,q];refine aa (ei m j 'k'<|ak ⟨_,rfl,ak<|y _ _ s.toks q ⟨?_,?_⟩ (cF ..)⟩)
  .exact⟨_,bj _ m (cS<|cw j _),(jm ..).trans G,by rw[cw j];simp[bB]⟩
  .exact⟨H,(cF ..).extBut _ _ M n,I,J,p⟩
 done:=by
  rintro A i s Q E L t ⟨f,u⟩ y;obtain⟨O,m,G,j⟩:=id f;obtain⟨H,n,I,J,p⟩:=id u;have q:a[i]?=Qn:=by simp[t]
  unfold di;refine aa<|cm (name := "__next__") f.typeIs eJ (bF eJ f.typeIs i3 ?_<|iM _);show am _ _ (field (.ref l) 0 >>= _) _ _ s;refine aa<|bC m j (x:=.ref g) rfl ?_;show am _ _ (if (bJ g==bW)=Qo then _ else _) _ _ s;rw[Qu (by exact bo)];show am _ _ (field (.ref l) 1 >>= _) _ _ s;refine aa<|bC m j (x:=.int i 0) rfl ?_;show am _ _ (seqItems? (.ref g) >>= _) _ _ s;refine aa<|fz n p ?_;simp only[eL,q];refine aa<|dh (aa<|ei m j 'k' ?_);refine Nd (by first|exact L|(show A.in1.handled=Qn;exact L)) λB e k S=>y B e (λb o T z=>k b o<|(cF ..).extBut _ _ T z) S
def WT(j:af)(x:ao)(t:Tok):n6 P w j [] x.cps.size (λi v=>∃c u,x.cps[i]?=Qg c/\v=.str ⟨#[c]⟩ u) (λi h=>h.IsStrIter j "str_ascii_iterator" x t i) where
 stab:=by
  rintro i h p ⟨o,e,c,d⟩ k;exact⟨o,k j 'k' o e,c,d⟩
 item:=by
  rintro A i s Q E m a n;obtain⟨y,g,q,f⟩:=id a;have l:x.cps[i]?=Qg x.cps[i]:=aS m;unfold di;refine aa<|cm (name := "__next__") a.typeIs dU (bF dU a.typeIs hV ?_<|gZ _);show am _ _ (field (.ref j) 0 >>= _) _ _ s;refine aa<|bC g f (x:=.str x t) rfl ?_;show am _ _ (field (.ref j) 1 >>= _) _ _ s;refine aa<|bC g f (x:=.int i 0) rfl ?_;simp only[eL,l];refine aa (ei g f 'k' (aa (wpAny_mkStr (ak ⟨_,rfl,ak<|n _ _ _ ⟨_,_,l,rfl⟩ ?_ (cF ..)⟩) (by show 1<=aK;decide))));exact⟨_,bj _ g (cS<|cw f _),(jm ..).trans q,by rw[cw f];simp[bB]⟩
 done:=by
  rintro A i s Q E r m a n;obtain⟨y,g,q,f⟩:=id a;have l:x.cps[i]?=Qn:=by simp[m]
  unfold di;refine aa<|cm (name := "__next__") a.typeIs dU (bF dU a.typeIs hV ?_<|gZ _);show am _ _ (field (.ref j) 0 >>= _) _ _ s;refine aa<|bC g f (x:=.str x t) rfl ?_;show am _ _ (field (.ref j) 1 >>= _) _ _ s;refine aa<|bC g f (x:=.int i 0) rfl ?_;simp only[eL,l];refine aa<|dh (aa<|ei g f 'k' (aa<|gN ?_));refine Nd (by first|exact r|(show A.in1.handled=Qn;exact r)) λp e k B=>n p e (λb o C z=>k b o<|(cF ..).extBut _ _ C z) B
end
structure ZAp(z ti to:af)(i1 i2:af)(QE QD:List af):Prop where
 a1:ti≠z
 a2:to≠z
 a3:ti≠to
 b1:∀b∈i1::QE,b≠z/\b≠to
 b2:∀b∈i2::QD,b≠z/\b≠to
 c1:i1∉i2::QD
 c2:i2∉i1::QE
 d1:ti≠i1
 d2:ti≠i2
section
def n6.but(J:n6 P w ia fp n Pv Sx)(x:Sx i h)(e:iU c h h')(a:∀b∈ia::fp,b≠c):Sx i h':=J.stab i h h' x λb d o z=>e b o (a b d) z
end
inductive ZK where
 |tup (t:af) (items:Array ae)
 |str (x:ao) (t:Tok)
 |lst (l:af) (items:Array ae)
def ZK.val:ZK->ae
 |.tup t _=>.ref t
 |.str x t=>.str x t
 |.lst l _=>.ref l
noncomputable def ZK.obj:ZK->Obj
 |.tup t _=>{ cls:=.type "tuple_iterator",data:=.fields #[.ref t,.int 0 0] }
 |.str x t=>{ cls:=.type "str_ascii_iterator",data:=.fields #[.str x t,.int 0 0] }
 |.lst l _=>{ cls:=.type "list_iterator",data:=.fields #[.ref l,.int 0 0] }
def ZK.pre(h:aJ):ZK->Prop
 |.tup t items=>h.IsTuple t items
 |.str x _=>x.cps.all (· < 128)=Qo
 |.lst l items=>h.IsList l items
def ZK.keep(k:∀b o,h.get? b=Qg o->h'.get? b=Qg o):∀(q:ZK),q.pre h->q.pre h'
 |.tup t items,⟨o,e,r⟩=>⟨o,k _ _ e,r⟩
 |.str x t,e=>e
 |.lst l items,⟨o,e,r⟩=>⟨o,k _ _ e,r⟩
section
end
def oA(X:Cx)(H:Hp)(h:aJ)(b:af):Prop:=H b≠Qn \/ ∃o,X.base.get? b=Qg o
def oA.far{X:Cx}{a:List (af×Obj)}{c:St}{H:Hp}{s:aj}{b q:af}(I:L2.Inv X a c H s)(x:oA X H s.heap b)(f:qV X a H q):b≠q:=by
 rintro rfl;rcases x with x|⟨o,e⟩
 .exact x f.1
 .rcases f.2.2.2.1 with z|z
  .exact I.ok.noex b o e z
  .exact absurd (aV (aC e) I.ok.bsz)<|kQ.mpr z
structure FU(P:aE)(w:aG)(K:ag)(J:It)(ia:af)(S:Nat->aJ->Prop):Prop where
 obj:∀i h,S i h->∃o,h.get? ia=Qg o/\∀v,o.data ≠ .cell v
 keep:∀i h h',S i h->(∀o,h.get? ia=Qg o->h'.get? ia=Qg o)->S i h'
 got:∀(X:Cx),X.prog=P->X.w=w->X.K=K->∀(i:Nat)(Qc:List (af×Obj))(s:aj)(σ:St)(H:Hp),L2.Inv X Qc σ H s->qV X Qc H ia->S i s.heap->(J.go i H\/J.stop i H)->
  ∃fp n Pv Sx,n6 P w ia fp n Pv Sx/\Sx i s.heap/\(∀j h,Sx j h->S j h)/\(J.go i H->i<n)/\(J.stop i H->n<=i)/\(∀v,Pv i v->∃x,RelV x v/\J.yld i H x H)/\∀b∈fp,oA X H s.heap b
section
variable{P:aE}{w:aG}{K:ag}
def La{X:Cx}{b:List (af×Obj)}{c:St}{H:Hp}{s:aj}{a:af}{d:List V}(I:L2.Inv X b c H s)(h:qP X.K H a d):oA X H s.heap a:=by
 rcases h with h|⟨o,f,n,e,_⟩
 .exact .inl (by rcases h with h|⟨_,h⟩<;>(rw[h];simp))
 .exact .inr ⟨o,I.ok.mod.kin a o e⟩
def W0{a:List V}{b:List ae}{i:Nat}{v:ae}(r:nz a b)(e:b[i]?=Qg v):∃x,a[i]?=Qg x/\RelV x v:=by
 have g:=r.length;have c:i<a.length:=by have:=(al.mp e).1;lia
 obtain⟨u,d,f⟩:=r.get<|aB c;rw[e] at d;cases d;exact⟨_,aB c,f⟩
def Ui(a l:af):FU P w K (JY K a) l (λi h=>h.IsTupleIter l a i) where
 obj:=λi h ⟨o,e,c,d⟩=>⟨o,e,λv z=>by rw[d] at z;cases z⟩
 keep:=λi h U ⟨o,e,c,d⟩ k=>⟨o,k o e,c,d⟩
 got:=by
  intro X A B C i n s Y H I E G J;subst A B C;have L:∃g,qP X.K H a g:=by
   rcases J with⟨g,x,h,_⟩|⟨g,h,_⟩<;>exact⟨g,h⟩
  obtain⟨g,f⟩:=L;obtain⟨q,r,p,Z⟩:=I.tuple f;have hl:=r.length;refine⟨[a],_,_,_,WH l a q.toArray<|(La I f).far I E,⟨G,p⟩,λj h z=>z.1,λ⟨t,y,m,u⟩=>?_,λ⟨t,m,u⟩=>?_,λv M=>?_,λb N=>?_⟩
  .have e:=I.tuple_inj m f;subst e;have:=(al.mp u).1;simp;lia
  .have e:=I.tuple_inj m f;subst e;simp;lia
  .have O:q[i]?=Qg v:=⇑M
   obtain⟨x,Q,S⟩:=W0 r O;exact⟨x,S,rfl,λt T=>by rw[I.tuple_inj T f];exact Q⟩
  .have:b=a:=⇑N
   subst this;exact La I f
def in_str(x:ao)(t:Tok)(a:af):FU P w K (FP x) a (λi h=>h.IsStrIter a "str_ascii_iterator" x t i) where
 obj:=λi h ⟨o,e,c,d⟩=>⟨o,e,λv z=>by rw[d] at z;cases z⟩
 keep:=λi h r ⟨o,e,c,d⟩ k=>⟨o,k o e,c,d⟩
 got:=by intro X g l m i f s u H I y n A;subst g l m;refine⟨[],_,_,_,WT a x t,n,λj h z=>z,λz=>z,λz=>z,λv ⟨c,B,e,p⟩=>?_,λb q=>by cases q⟩;subst p;exact⟨.str ⟨#[c]⟩,⟨_,rfl⟩,rfl,c,e,rfl⟩
end
end DL
namespace DL
open PySem L2
open AutoSeq1 (wpAny_loadPart')
set_option maxHeartbeats 1000000 in
set_option tactic.hygienic true in
def WC(b:af)(a:Array ae)(i:Nat)(e:Option af)(k:Array (Option ae)):
  Meets (dN.«enumerate.__new__» ⟨[.type "enumerate",.ref b],[]⟩) (λ_ R s=>s.heap.get? b=Qg { cls:=.type "tuple",dict:=e,data:=.seq a i,slots:=k }/\
   R (.ok (.ret<|.ref (s.heap.push (ZK.tup b a).obj).objs.size)) { s with heap:=(s.heap.push (ZK.tup b a).obj).push { cls:=.type "enumerate",data:=.fields #[.none,.bool Qp,.ref s.heap.objs.size,bB 0,.none,.none] } }):=
 .of_wp λP w A R s h=>by
  obtain⟨l,g,d,m,n⟩:=s;obtain⟨c,h⟩:=h;have j:=sub_enumerate;have f:Heap.IsTuple (nq ⟨l,g,d,m,n⟩) b a:=⟨_,c,rfl,i,rfl⟩
  wp_walk using wpAny_loadPart' c
  refine wpAny_stack_any λp=>ak<|?_;split
  .rename_i o _ _ _ _ _;cases (o==dJ "enumerate")
   .wp_walk using wpAny_loadPart' c,gh f
    exact⟨_,rfl,h⟩
   .wp_walk using wpAny_loadPart' c,gh f
    exact⟨_,rfl,h⟩
  .wp_walk using wpAny_loadPart' c,gh f
   exact⟨_,rfl,h⟩
section
def Xw(j:s.heap.IsTuple tt items)
  (h:∀h',gi h' (s.heap.objs.size+1) s.heap.objs.size 0 .none->h'.get? s.heap.objs.size=Qg (ZK.tup tt items).obj->(∀b o,s.heap.get? b=Qg o->h'.get? b=Qg o)->Q (.ref<|s.heap.objs.size+1) { s with heap:=h' }):
  am (aq P w) A (call (.type "enumerate") [.ref tt]) Q E s:=by
 obtain⟨⟨k,a,l,m⟩,n,c,f,d⟩:=j;have c:k=.type "tuple":=c;have d:l=.seq items f:=d;subst c;subst d;refine callType_new F.called_enumerate 'b' (F.typeCall_enumerate_1 _) (F.newCall_enumerate_1 _) (λe=>F.args_object_init_2 e _) F.entry_enumerate_new (WC tt items f a m) ⟨n,?_⟩;have g:(s.heap.push (ZK.tup tt items).obj).objs.size=s.heap.objs.size+1:=cB ..;show _/\_;rw[g];have i:gi ((s.heap.push (ZK.tup tt items).obj).push { cls:=.type "enumerate",data:=.fields #[.none,.bool Qp,.ref s.heap.objs.size,bB 0,.none,.none] }) (s.heap.objs.size+1) s.heap.objs.size 0 .none:=by
  have q:=aA (s.heap.push (ZK.tup tt items).obj) (o:={ cls:=.type "enumerate",data:=.fields #[.none,.bool Qp,.ref s.heap.objs.size,bB 0,.none,.none] }) rfl;rw[g] at q;exact q
 exact⟨⟨_,i,rfl⟩,h _ i (ai _<|aA _ rfl) λb o x=>ai _<|ai _ x⟩
def V9(J:n6 P w ia fp n Pv Sx)(u:gi s.heap ea ia (k:Nat) old)(hx:Sx k s.heap)(hk:k<n)(j:∀b∈ia::fp,b≠ea)
  (hq:∀x h' Z ti,Pv k x->IsEnumOut h' ea ia ((k:Int)+1) x s.heap.objs.size->Sx (k+1) h'->h'.get? s.heap.objs.size=Qg { cls:=.type "tuple",data:=.seq #[.int (k:Nat) ti,x] }->(∀b o,b≠ea->b≠ia->s.heap.get? b=Qg o->h'.get? b=Qg o)->Q (Qg<|.ref s.heap.objs.size) { s with heap:=h',toks:=Z }):
  am (aq P w) A (pyNext<|.ref ea) Q E s:=by
 have ht:s.TypeIs (.ref ea) "enumerate":=⟨_,u,rfl⟩;have C:ea≠ia:=bO<|j ia aL;unfold pyNext;refine aa (fR<|cm ht eD (bF eD ht kg ?_<|jK _));obtain⟨e,g,d,Z,f⟩:=s;show am _ _ (field (.ref ea) 2 >>= _) _ _ _;refine aa (bC u rfl rfl<|aa (J.item _ k _ _ _ hk hx λx h a px G l=>?_));have l:cn ia e h:=l;have H:gi h ea ia (k:Nat) old:=(l.2 ea C).trans u;show am _ _ (field (.ref ea) 3 >>= _) _ _ ⟨h,g,d,a,f⟩;refine aa<|bC H rfl rfl ?_;show am _ _ (field (.ref ea) 4 >>= _) _ _ ⟨h,g,d,a,f⟩;refine aa<|bC H rfl rfl ?_;show am _ _ (mkInt (k:Nat) >>= _) _ _ ⟨h,g,d,a,f⟩;refine aa<|wpAny_mkInt ?_;show am _ _ (setField (.ref ea) 3 (bB<|(k:Int)+1) >>= _) _ _ ⟨h,g,d,a+1,f⟩;refine aa (cx H 'k' λv I m=>?_);have m:cn ea h v:=m;have I:gi v ea ia ((k:Int)+1) old:=I;show am _ _ (setField (.ref ea) 4 .none >>= _) _ _ ⟨v,g,d,a+1,f⟩;refine aa (cx I 'k' λc L p=>?_);have p:cn ea v c:=p;have L:gi c ea ia ((k:Int)+1) old:=L;show am _ _ (newTuple [.int (k:Nat) a,x] >>= _) _ _ ⟨c,g,d,a+1,f⟩;refine aa<|iN ?_;have y:gi (c.push { cls:=.type "tuple",data:=.seq #[.int (k:Nat) a,x] }) ea ia ((k:Int)+1) old:=ai _ L;have pd:c.objs.size=e.objs.size:=by rw[p.1,m.1,l.1]
 have M:ea<e.objs.size:=aC u;have t4:(c.push { cls:=.type "tuple",data:=.seq #[.int (k:Nat) a,x] }).get? e.objs.size=Qg { cls:=.type "tuple",data:=.seq #[.int (k:Nat) a,x] }:=by rw[<- pd];exact aA _ rfl
 have k4:∀b o,b≠ea->b≠ia->e.get? b=Qg o->(c.push { cls:=.type "tuple",data:=.seq #[.int (k:Nat) a,x] }).get? b=Qg o:=λb o i N z=>ai _<|p.extBut b o i (m.extBut b o i<|l.extBut b o N z);have x4:Sx (k+1) (c.push { cls:=.type "tuple",data:=.seq #[.int (k:Nat) a,x] }):=J.stab _ _ _ (J.but (J.but G m.extBut j) p.extBut j) λb _ o z=>ai _ z;generalize c.push { cls:=.type "tuple",data:=.seq #[.int (k:Nat) a,x] } = h4 at y t4 k4 x4;show am _ _ (gp (.ref ea) >>= _) _ _ ⟨h4,g,d,a+1,f⟩;rw[pd];refine aa ?_;unfold gp;refine aa (bC y rfl rfl<|ak ?_);simp only[if_true];refine aa (dh<|aa (bC y rfl rfl<|aa (cx y 'k' λB O q=>?_)));have q:cn ea h4 B:=q;have O:gi B ea ia ((k:Int)+1) x:=O;show am _ _ (gj (.ref ea) (.ref e.objs.size) >>= _) _ _ ⟨B,g,d,a+1,f⟩;refine aa ?_;unfold gj;refine aa (cx O 'k' λS T r=>?_);have r:cn ea B S:=r;have T:IsEnumOut S ea ia ((k:Int)+1) x e.objs.size:=T;refine cx T 'k' λU Y t=>?_;have t:cn ea S U:=t;have Y:IsEnumOut U ea ia ((k:Int)+1) x e.objs.size:=Y;refine aa (gN<|ak ⟨_,rfl,ak (hq x U _ a px Y (J.but (J.but (J.but x4 q.extBut j) r.extBut j) t.extBut j) ?_ λb o i N z=>t.extBut b o i<|r.extBut b o i (q.extBut b o i<|k4 b o i N z))⟩);exact t.extBut _ _ (dQ M) (r.extBut _ _ (dQ M)<|q.extBut _ _ (dQ M) t4)
def Uw(c:A.handled=Qn)(J:n6 P w ia fp n Pv Sx)(a:gi s.heap ea ia (k:Nat) old)(d:Sx k s.heap)(f:n<=k)(g:∀h',iU ia s.heap h'->Q Qn { s with heap:=h' }):am (aq P w) A (pyNext<|.ref ea) Q E s:=by have b:s.TypeIs (.ref ea) "enumerate":=⟨_,a,rfl⟩;unfold pyNext;refine aa (fR<|cm b eD (bF eD b kg ?_<|jK _));show am _ _ (field (.ref ea) 2 >>= _) _ _ _;refine aa (bC a rfl rfl<|aa (J.done _ k _ _ _ c f d λh' e h i=>?_));obtain⟨j,l,m⟩:=i;exact aa<|jF ⟨j,l,m⟩ isSubtype_stop (ak<|g _ h)
end
end DL
namespace DL
open PySem L2
def QT(J:It):It:=⟨J.go,λi H v H'=>∃p x,H p=Qn/\v=.ref p/\J.yld i H x H/\H'=upd H p (.tup [.int (i:Nat),x]),J.stop⟩
def Rv(ea ia:af)(S:Nat->aJ->Prop)(n:Nat)(h:aJ):Prop:=(∃old,gi h ea ia (n:Nat) old)/\S n h
def W8(f i:af)(ap:f≠i)(N:FU P w K J i S)(CF:∀(A:aY)(n:Nat)(s:aj)(Q E:ae->aj->Prop),(∃o,gi s.heap f i (n:Nat) o)->Q (.ref f) s->am (aq P w) A (pyIter<|.ref f) Q E s):vi P w K (.Tuple es kt pt) (QT J) [f,i] f (Rv f i S):=by
 refine⟨by simp,λn h t b r=>?_,λn h h' t k=>?_,?_,?_,λA n s Q E t q=>CF A n s Q E t.1 q⟩
 .obtain⟨⟨o,y⟩,B⟩:=t;simp at r;rcases r with rfl|rfl
  .exact⟨_,y,λv e=>by cases e⟩
  .exact N.obj n h B
 .obtain⟨⟨o,y⟩,B⟩:=t;exact⟨⟨o,k f 'k' _ y⟩,N.keep n h h' B<|k i 'k'⟩
 .intro X hP hw hK d n j s O H E I C t L;obtain⟨⟨o,y⟩,B⟩:=t;obtain⟨fp,m,Pv,T,Z,s1,u1,QA,pP,y1,U⟩:=N.got X hP hw hK n j s O H I (C i 'k') B<|.inl L;have ne:∀b∈i::fp,b≠f:=λb r=>(av.mp r).elim (λe=>by rw[e];exact bO ap) λr=>(U b r).far I<|C f 'k';refine wT I (V9 Z y s1 (QA L) ne λx h' tk tki px q1 q2 q3 hk pB=>⟨_,rfl,?_⟩);obtain⟨Y,rx,yx⟩:=y1 x px;refine wpAny_letOwnedTupleGo_enum q1 λFG e1 e2=>?_;have nb:∀q∈[f,i],s.heap.objs.size≠q:=λq hq e=>by
   have:∃a,s.heap.get? q=Qg a:=by
    simp at hq;rcases hq with rfl|rfl
    .exact⟨_,y⟩
    .obtain⟨a,g,_⟩:=N.obj n _ B;exact⟨_,g⟩
   obtain⟨a,g⟩:=this;exact absurd (aC g) (by rw[e];exact bV _)
  have l:∀c a,c∉[f,i]->s.heap.get? c=Qg a->FG.get? c=Qg a:=λc a d e=>by
   simp at d;exact e2.extBut _ _ d.1<|hk c a d.1 d.2 e
  have I1:=Inv.turns [f,i] I l C;have zu:=e2.extBut _ _ (nb f 'k') q3;have G:=I.hok.fresh<|ay _;have I2:L2.Inv X j O (upd H s.heap.objs.size<|.tup [.int (n:Nat),Y]) { s with heap:=FG,toks:=tk }:=by
   have un:Un (qf X.stack) [f,i] H (upd H s.heap.objs.size<|.tup [.int (n:Nat),Y]) s.heap FG:=by
    refine⟨λc a e _ _ d=>l c a d e,λc a e _ _ d=>⟨a.slots,l c a d e⟩,λc a e hn _=>?_,λc a e d=>⟨a,l c a d e⟩,λc zs e=>?_,λc a u e=>?_,λc ps e=>⟨#[],?_⟩⟩
    .rw[oN (bb<|aC e)];exact hn
    .rw[oN<|qS e G];exact e
    .rw[oN<|qS e G];exact e
    .rw[oN<|qS e G,e];simp
   have hok:HOk X.prog X.w (upd H s.heap.objs.size<|.tup [.int (n:Nat),Y]) FG:=by
    intro c u' e;by_cases d:c=s.heap.objs.size
    .subst d;rw[pK] at e;cases e;exact⟨by show 2<=aK;decide,[.int (n:Nat) tki,x],.cons ⟨_,rfl⟩ (.cons rx .nil),⟨_,zu,rfl,⟨_,rfl⟩,rfl⟩⟩
    .rw[oN d] at e;refine(I1.hok c u' e).stay (λ_ _ _ q=>q) (λp q=>?_) λp zs q=>?_
     .by_cases M:p=s.heap.objs.size
      .subst M;rw[G] at q;cases q
      .rw[oN M];exact q
     .by_cases M:p=s.heap.objs.size
      .subst M;rw[G] at q;cases q
      .rw[oN M];exact q
   exact I.call un hok I.bare λb r=>let ⟨_,U,_,f3,f4,f5⟩:=C b r;⟨f3,U,f4,f5⟩
  refine⟨.ref s.heap.objs.size,_,I2,rfl,⟨_,Y,G,rfl,yx,rfl⟩,⟨⟨_,by exact_mod_cast e1⟩,?_⟩,λb r=>?_⟩
  .exact u1 _ _<|Z.but q2 e2.extBut ne
  .rw[oN (bO<|nb b r)];exact(C b r).1
 .intro X hP hw hK d n j s O H E I C t L;obtain⟨⟨o,y⟩,B⟩:=t;obtain⟨fp,m,Pv,T,Z,s1,u1,QA,pP,y1,U⟩:=N.got X hP hw hK n j s O H I (C i 'k') B<|.inr L;refine Uw (I.ok.hd d) Z y s1 (pP L) λh' eb=>⟨rfl,?_⟩;refine Inv.turns [f,i] I (λc a d e=>?_) C;simp at d;exact eb c a d.2 e
noncomputable def z8(ds:List D):List D:=ds.zipIdx.map λq=>.tup [.int (q.2:Nat),q.1]
def Wi(ds:List D)(i:Nat):(z8 ds)[i]?=(ds[i]?).map λd=>D.tup [.int (i:Nat),d]:=by unfold z8;rw[bE,List.getElem?_zipIdx];cases ds[i]?<;>simp
def nH.enum(l:nH K J (.val ds) H Qb μ):nH K (QT J) (.val<|z8 ds) H Qb μ:=by
 intro a b e j m c i;have f:match ds[i]? with|some d=>J.go i b/\∀x g,J.yld i b x g->Ext b e g e/\nu K g a e j/\Qe K g a e d x|none=>J.stop i b:=l a b e j m c i
 show match (z8 ds)[i]? with|some d=>_|none=>_
 rw[Wi];cases k:ds[i]? with
 |none=>rw[k] at f;exact f
 | some d1=>
  rw[k] at f;refine⟨f.1,λv g n=>?_⟩;obtain⟨p,x,h,rfl,o,rfl⟩:=n;exact⟨.laid h,c.laid h,Qe.newT c h (.cons rK<|.cons (f.2 x b o).2.2 .nil)⟩
def GQ(t:DA):DI:=λσ O=>(t σ O).bnd λxs O1=>match xs with
 |[.tup ds]=>.ok (.val<|z8 ds) O1
 |_=>.bad
section
def WQ:bi "enumerate" = Qg (.type "enumerate"):=by boot_by_name
def NX(b d:af)(A:aY)(n:Nat)(s:aj)(Q E:ae->aj->Prop)(h:∃a,gi s.heap b d (n:Nat) a)(q:Q (.ref b) s):am (aq P w) A (pyIter<|.ref b) Q E s:=by obtain⟨a,h⟩:=h;have c:s.TypeIs (.ref b) "enumerate":=⟨_,h,rfl⟩;refine jo c kF (bF kF c F.entry_enumerate_iter ?_<|F.args_enumerate_iter_1 _);exact ak ⟨_,rfl, "enumerate",_,c,eD.lookup,q⟩
set_option tactic.hygienic true in
def WK(E:Gl X "enumerate")(G:X.mg "enumerate" = Qn)(L:qW X Ex [a] t)(M:au [a] X.env=[(Qp,eval a X.env)]:=by rfl):
  rn X Ex (.Tuple sQ kt pt) (.Call (.Name "enumerate" p) [a] [] pos) (GQ t):=by
 refine⟨?_⟩;rintro e s u H N I ⟨c,μ,σ,O,P,Q,q⟩;refine m9 (Ag I E G WQ (fE (oO (L.out pos e s u H _ I (r9.go P Q q (Q1:=λm g=>∃c i j h,nu X.K g c i j/\nv X.K g c i h m/\
   post Ex X.K (λS T s J=>nH X.K J s S c T) g c i (match h with|[.tup h]=>.ok (.val<|z8 h) j|_=>.bad) N)
  λh j m g i e2 x n d p=>⟨c,i,j,h,n,d,p⟩)) λus f ⟨m,g,k,U,c,i,j,h,n,d,p⟩=>?_) (by rw[M];rfl) (by rfl)))
 split at p
 .rename_i ts;unfold nv at d;obtain⟨v,r,rfl,w,y⟩:=d;unfold nv at y;subst y;unfold Qe at w;obtain⟨Y,Z,rfl,l,dd⟩:=w;obtain⟨u1,rfl,o⟩:=sD U;cases o;obtain⟨f_,_,pT,_⟩:=k.tuple l.sq;refine Xw pT λh' A g2 hk=>?_;refine NX (f.heap.objs.size+1) f.heap.objs.size _ 0 _ _ _ ⟨_,A⟩ ?_;have I2:L2.Inv X e u g { f with heap:=h',toks:=f.toks }:=k.kept hk;refine⟨f.heap.objs.size+1,[f.heap.objs.size+1,f.heap.objs.size],_,_,g,rfl,I2,W8 _ _ (Nat.succ_ne_self _) (Ui Y _)<|NX _ _,⟨⟨_,A⟩,⟨_,g2,rfl,rfl⟩⟩,λb B=>?_,post.here p n (.enum<|.tup l dd)⟩;have C:f.heap.objs.size<=b:=by
   simp only[av,fM,or_false] at B;rcases B with rfl|rfl<;>lia
  exact k.fpOk C<|k.hok.fresh C
 .exact ah p
end
end DL
namespace DL
open PySem L2
open PyProof.Rows hiding St
section
def KN(K:ag):R2:=λx y H Q=>∃a b ys,x=.ref a/\y=.ref b/\qP K H a []/\qP K H b ys/\Q (.ref b) H
def Vh:pY X (eU .Add) (KN X.K):=by
 intro a s M H x y v u Q I d e h;obtain⟨p,q,N,rfl,rfl,f,g,i⟩:=h;cases d;cases e;obtain⟨j,k,⟨⟨O,l,m,n⟩,b,o,r,t⟩,_⟩:=I.tuple f;obtain⟨w,P,⟨⟨S,A,B,C⟩,c,E,G,J⟩,_⟩:=I.tuple g;have L:j=[]:=by cases k;rfl
 subst L;subst o;subst E;subst t;subst J;exact iY ⟨_,b,rfl⟩ ⟨_,c,rfl⟩ jB k7 gJ gu (ge _ _) (PyProof.Rows.tuple_addW0 p q #[] w.toArray r G l A n C rfl) ⟨b,c,⟨.ref q,H,I,rfl,i⟩⟩
def y0:Ow->D->D->R D:=λO x y=>match x,y with
 |.tup [],.tup ys=>.ok (.tup ys) O
 |x,y=>ri O x y
set_option tactic.hygienic true in
def VJ:sj X Ex (λx y H Q=>KN X.K x y H Q\/Gs X.K x y H Q) y0:=by
 intro H a g O x y v w Q c e b q;unfold y0 at q;split at q
 .rename_i k;have d:=b;obtain⟨p,m,rfl,l,f⟩:=e;obtain⟨h,i,rfl,j,n⟩:=b;unfold nv at f;subst f;exact .inl ⟨p,h,i,rfl,rfl,l.sq,j.sq,post.here q c d⟩
 .exact .inr<|MR H a g O _ _ v w Q c e b q
def Uk(c:PD X Ex a ta)(d:PD X Ex b tb):PD X Ex (.BinOp a .Add b pos) (oK y0 ta tb):=z_ (pY.or Vh Me) VJ c d
noncomputable def Rq(K:ag):V->Option Int->Option Int->Hp->VK->Prop:=λx lo hi H Q=>∃a xs,x=.ref a/\qP K H a xs/\(HT.sIx xs.length 0 lo=0/\HT.sIx xs.length xs.length hi=xs.length)/\Q (.ref a) H
def Zg{P:aE}{w:aG}{A:aY}{E:ae->aj->Prop}{s:aj}{t d:af}{a:Array ae}{f g:ae}{b c:Option Int}{Q:ae->aj->Prop}(ht:IsTup s.heap t a)(i:s.heap.IsSliceOf d f g .none)(pl:gf f b)(k:gf g c)
  (j:HT.sIx a.size 0 b=0/\HT.sIx a.size a.size c=a.size) (h:Q (.ref t) s):am (aq P w) A (getItem (.ref t)<|.ref d) Q E s:=by
 obtain⟨l,m,e,p⟩:=id i;have n:s.TypeIs (.ref d) "slice":=⟨l,m,e⟩;unfold getItem
 try with_reducible refine bD ?_
 first|refine aa (ak ?_)|skip
 refine aa<|wpAny_sequenceKey ht.typeIs 'b' (aa<|cm ht.typeIs cq (bF cq ht.typeIs li ?_<|lE _ _));show am _ _ (jc (.ref t) >>= _) _ _ s;refine aa<|tupleItemsOf_ ht (aa<|im n ?_);refine aa<|HT.sliceApplied_gen i pl k ?_;have o:(((HT.sIx a.size 0 b:Nat):Int)==0&&(1:Int)==1&&(HT.sIx a.size a.size c-HT.sIx a.size 0 b)==a.size)=Qo:=by
  rw[j.1,j.2];simp
 show am _ _ (if (((HT.sIx a.size 0 b:Nat):Int)==0&&(1:Int)==1&&(HT.sIx a.size a.size c-HT.sIx a.size 0 b)==a.size)=Qo then _ else _) _ _ s;rw[Qs o];refine aa ?_;refine aa (im ht.typeIs<|ak ?_);exact aa (dh<|ak ⟨_,rfl,ak h⟩)
def VV:uC X (Rq X.K):=by
 intro b s m H x v n o t u w Q I d e f g h;obtain⟨p,i,rfl,j,k,q⟩:=h;cases d;obtain⟨l,r,c,y⟩:=I.tuple j;have a:l.toArray.size=i.length:=by rw[aM];exact r.length.symm
 exact⟨"tuple",_,cq.lookup,c.typeIs,Zg c e f g (by rw[a];exact k) ⟨.ref p,H,I,rfl,q⟩⟩
def Ry(O:Ow)(x:D)(lo hi:Option Int):R D:=match x with
 |.tup ds=>if HT.sIx ds.length 0 lo=0/\HT.sIx ds.length ds.length hi=ds.length then .ok (.tup ds) O else .ok (.tup<|vX ds lo hi) O
 |x=>AS O x lo hi
def DF(te:DE)(tl th:DO):DE:=λσ O=>(te σ O).bnd λx O1=>(tl σ O1).bnd λlo O2=>(th σ O2).bnd λhi O3=>Ry O3 x lo hi
set_option tactic.hygienic true in
def T9{y A:Option aZ}{B C:DO}{L:Pos}(M:PD X Ex e te)(N:xo X Ex y B)(P:xo X Ex A C):PD X Ex (.Subscript e (.Slice y A Qn L) pos) (DF te B C):=
 qd (MZ (uC.or VV (uC.or K_<|uC.or Lk L3)) M.out N.out P.out) λn μ σ O a_ H Q S T q=>rd.go S T q λd O1 v H1 c_ U x Y r p=>zh.go U Y p λl O2 H2 n_ Z x3 c3 p3=>zh.go Z c3 p3 λu s E G e4 x4 c o=>by
  have h:=(r.ext x3).ext x4;cases d with
  | tup f=>
   have rr:=h;obtain⟨j,m,rfl,I,g⟩:=h;have a:pf Ex X.K E n G (if HT.sIx f.length 0 l=0/\HT.sIx f.length f.length u=f.length then .ok (.tup f) s else .ok (.tup<|vX f l u) s) Q:=o;split at a
   .rename_i t;exact .inl ⟨j,m,rfl,I.sq,by rw[<- g.length];exact t,post.here a c rr⟩
   .rename_i t;exact .inr (.inr<|.inl ⟨j,m,rfl,I.sq,by rw[<- g.length];exact t,λJ b=>post.ok a (.laid b) (c.laid b) (Qe.newT c b<|BC g l u)⟩)
  | str i=>
   unfold Qe at h;subst h;have a:=o;obtain⟨Jr,a⟩:=post.ite a;refine .inr<|.inl ⟨_,rfl,?_,post.here a c ?_⟩
   .show i.toArray.size<=_;rw[aM];exact uM Jr
   .unfold Qe;rw[EJ]
  | lst f=>
   have a:=o;obtain⟨j,m,rfl,w,g⟩:=tL c h<|rfl;exact .inr (.inr<|.inr ⟨j,m,rfl,w,λJ b=>post.ok a (.laid b) (c.laid b) (Qe.newL c b<|BC g l u)⟩)
  | own k=>
   have a:pf Ex X.K E n G (match s[k]? with|some f=>.ok (.lst<|vX f l u) s|none=>.bad) Q:=o;split at a
   .rename_i f JQ;obtain⟨j,m,rfl,w,g⟩:=tL c h<|JQ;exact .inr (.inr<|.inr ⟨j,m,rfl,w,λJ b=>post.ok a (.laid b) (c.laid b) (Qe.newL c b<|BC g l u)⟩)
   .exact ah a
  |_=>exact ah o
end
end DL
namespace DL
open PySem L2
section
end
section
structure zkX(mg:ao->Option ae)(x:ao)(i:Int):Prop where
 ex:∃t,mg x=Qg (.int i t)
end
section
end
end DL
namespace DL
open PySem L2 PySem.Spec PyProof.Rows
end DL
namespace DL
open PySem L2 PySem.Spec PyProof.Rows
open Sem (wp)
section
end
end DL
namespace DL
open PySem L2 PySem.Spec PyProof.Rows
section
end
end DL
namespace DL
open PySem L2
open AutoSeq1 (wpAny_loadPart')
section
def Wy(l:af)(a:Array ae)(n:Nat)(b:af)(c:Array ae)(m:Nat)(f:Array (Option ae))(g:¬(!a.isEmpty&&gg (a.size+c.size))=Qo)(i:a.size<=aK)(j:a.size+c.size<=aK+1):
  Meets (dN.«list.extend» ⟨[.ref l,.ref b],[]⟩) (λ_ R s=>s.heap.get? l=Qg { cls:=.type "list",data:=.seq a n }/\s.heap.get? b=Qg { cls:=.type "list",data:=.seq c m,slots:=f }/\R (.ok<|.ret .none) { s with heap:=s.heap.update l (br λx=>x++c) }):=
 .of_wp λd w A R s h=>by
  obtain⟨e,k,h⟩:=h;have o:(a++c).size<=aK+1:=by rw[fu];exact j
  wp_walk using(fg e rfl),wpAny_loadPart' e,wpAny_loadPart' k
  exact⟨_,rfl,h⟩
def Rz(K:ag):V->List V->Hp->VK->Prop:=λx vs H Q=>∃l b xs zs,x=.ref l/\vs=[.ref b]/\H l=Qg (.lst xs)/\pI K H b zs/\xs.length+zs.length<=aK/\Q .non (upd H l (.lst<|xs++zs))
def T_:QR X "list.extend" (Rz X.K):=by
 intro f s J H x L v M Q I j k h;obtain⟨l,b,N,O,rfl,rfl,g,m,P,q⟩:=h;cases j;obtain⟨u,rfl,o⟩:=k.one;cases o;obtain⟨z,a,n,r,S,e⟩:=I.lstM g;obtain⟨c,i,⟨p,t,w,y,d,A⟩,_⟩:=I.list m;obtain⟨T,B,U,C⟩:=p;subst y;subst d;subst A;have Y:=i.length;have E:a.toArray.size+c.toArray.size<=aK:=by rw[aM,aM];lia
 have G:¬ (!a.toArray.isEmpty&&gg (a.toArray.size+c.toArray.size))=Qo:=by
  rw[Wn E,Bool.and_false];exact bo
 refine ip kG ⟨_,e,rfl⟩ F.entry_list_extend (F.args_list_extend_2 _ _)
  (Wy l a.toArray n b c.toArray t C G (by rw[aM];lia) 'd') ⟨e,w,?_⟩
 refine⟨.non,_,I.lset g e 'k' (r.append i) ?_,rfl,q⟩;rw[aI];lia
def F0(to:DE)(t:DA):DE:=λσ O=>(to σ O).bnd λx O1=>match x with
 | .own k=>(t σ O1).bnd λys O2=>match ys,O2[k]? with
  | [y],Qg ds=>match tN O2 y with
   |some es=>if ds.length+es.length<=4000000 then .ok .non (O2.set k<|ds++es) else .bad
   |none=>.bad
  |_,_=>.bad
 |_=>.bad
set_option tactic.hygienic true in
def Wc(l:PD X Ex o to)(m:qW X Ex (e::es) t)(n:attributeBase o "extend" X.env (eval o X.env)=eval o X.env:=by rfl)
  (s:((backTo k_<|au (e::es) X.env).all (λx=>!x.1)&&(backToKw k_<|keywordEach [] X.env).all (λx=>x.1.isSome)&&decide ((e::es).length+([]:List dB).length+(if ([]:List dB).isEmpty then 0 else 1)<30))=Qo:=by rfl)
  (u:(apos.endLine==k_.line)=Qo:=by rfl) (B:au (e::es) X.env=(Qp,eval e X.env)::au es X.env:=by rfl) (C:(backTo k_<|au es X.env).any (·.1)=Qp:=by rfl):
  PD X Ex (.Call (.Attribute o "extend" apos) (e::es) [] k_) (F0 to t):=
 qd (A_ gz kG PySem.F.type_list_extend T_ l.out m.out n s u B C) λE μ σ O a_ H Q G I q=>rd.go G I q λd O1 v H1 c_ J x f r p=>by
  cases d with
  | own k=>
   have L:=r;obtain⟨A,rfl,M⟩:=r;obtain⟨ds,N,h1,P,h3⟩:=f.at_ k A M;refine⟨.inl ⟨rfl,N,.of P⟩,r9.go J f p λys O2 ws H2 S e3 T b U a=>?_⟩;split at a
   .rename_i y sQ Y;split at a
    .rename_i zs Z;obtain⟨hl,a⟩:=post.ite a;obtain⟨w,rfl,dw⟩:=rQ U;have c:S[k]?=Qg A:=by
      have:=L.ext T;obtain⟨A',e',uw⟩:=this;cases e';exact uw
     obtain⟨FJ,tZ,g,h,i⟩:=b.at_ k A c;rw[Y] at g;cases g;obtain⟨pb,vz,rfl,sq,j⟩:=tL b dw Z;refine⟨A,pb,tZ,vz,rfl,rfl,h,sq,aP (by rw[<- i.length,<- j.length];exact hl) 'b',?_⟩;exact post.ok a (.put (aR c) ⟨_,h⟩) (b.put c<|i.append j) xg
    .exact ah a
   .exact ah a
  |_=>exact ah p
end
section
end
section
end
end DL
namespace TS
open PySem PyProof.Rows
abbrev G1:=Bool->a9->Array a9->Nat->Nat->Nat->StateT bS Sem (Option Nat)
abbrev M1:=Array a9->Array a9->StateT bS Sem (Array a9)
def lay(xs:Array a9)(at_:Nat)(m:List a9):Array a9:=m.zipIdx.foldl (λa x=>a.setIfInBounds (at_+x.2) x.1) xs
structure nX where
 g:G1
 lo:M1
 hi:M1
 at_:∀{M:jt}{A:aY}{E:ae->aj->Prop}{s:aj}{i:Nat}{st:bS}{Q:Bool->bS->Prop}{sa na pw sb nb Fi:Nat}{kb:a9},
  (Qz st)[i]?=Qg (sa,na,pw)->(Qz st)[i+1]?=Qg (sb,nb,Fi)->(Qw st)[sb]?=Qg kb->
  wpS M A E s (g Qp kb (Qw st) sa na 0) (λr pP=>∃k,r=Qg k/\(na-k=0->Q Qo pP)/\(na-k≠0->∃ka,(Qw st)[sa+k+(na-k)-1]?=Qg ka/\
   wpS M A E s (g Qo ka (Qw st) sb nb<|nb-1) (λr2 pC=>∃m,r2=Qg m/\(m=0->Q Qo pC)/\(m≠0->
    wpS M A E s (if na-k<=m then lo ((Qw st).extract (sa+k) sb) ((Qw st).extract sb<|sb+m) else hi ((Qw st).extract (sa+k) sb) ((Qw st).extract sb<|sb+m))
     (λmg o5=>Q (failedOf o5).isNone (setArr o5<|lay (Qw o5) (sa+k) mg.toList)) pC)) pP)) (setPending st (((Qz st).setIfInBounds i (sa,na+nb,pw)).eraseIdxIfInBounds<|i+1))->
  wpS M A E s (mergeAt' i) Q st
def rj{M:jt}{A:aY}{E:ae->aj->Prop}{s:aj}{b:bS}{a:Array a9}{i:Nat}{x:a9}{Q:a9->bS->Prop}(h:a[i]?=Qg x)(q:Q x b):wpS M A E s (elem' a i) Q b:=by rw[elem'_eq,h];exact aF q
def U8{M:jt}{A:aY}{E:ae->aj->Prop}{s:aj}{b:Type}{c a:b}{Q:PUnit->b->Prop}(q:Q ⟨⟩ a):wpS M A E s (set a) Q c:=eQ (f:=λ_=>a) q
noncomputable def nY:nX:=by
 apply nX.mk
 case at_=>
  intro M A E s i st Q sa na pw sb nb Fi kb h1 h2 h3 h;show wpS M A E s (get >>= _) Q st;refine az<|fV ?_;rw[show(Qz st)[i]?=_ from h1,show(Qz st)[i+1]?=_ from h2];refine az<|U8 (az<|rj h3 (az<|dW h ?_));rintro _ pP ⟨k,rfl,e0,e1⟩;by_cases hk:na-k=0
  .show wpS M A E s (if (na-k==0)=Qo then _ else _) Q pP;rw[Qs (by rw[hk];rfl)];exact aF<|e0 hk
  .show wpS M A E s (if (na-k==0)=Qo then _ else _) Q pP;rw[Qu ⇑hk];obtain⟨ka,q1,q2⟩:=e1 hk;refine az<|rj q1 (az<|dW q2 ?_);rintro _ pC ⟨m,rfl,f0,f1⟩;by_cases hm:m=0
   .subst hm;exact aF<|f0 rfl
   .show wpS M A E s (if (m==0)=Qo then _ else _) Q pC;rw[Qu ⇑hm];have f2:=f1 hm;by_cases hc:na-k<=m
    .rw[Qs hc] at f2;show wpS M A E s (if na-k<=m then _ else _) Q pC;rw[Qs hc];exact az (dW f2 λmg o5 q=>az (eQ<|az (fV<|aF q)))
    .rw[Qu hc] at f2;show wpS M A E s (if na-k<=m then _ else _) Q pC;rw[Qu hc];exact az (dW f2 λmg o5 q=>az (eQ<|az (fV<|aF q)))
section
variable{prog:aE}{w:aG}{A:aY}{E:ae->aj->Prop}{s:aj}{κ:aT}{st:bS}{kd:KT}
noncomputable def ky(κ:aT)(x:a9):κ.α:=(κ.keyOf x.1).getD κ.dflt
def rG(κ:aT)(x:a9):Prop:=∃a,κ.keyOf x.1=Qg a
abbrev Ty{α β:Type}(_:α->β):Type:=β
abbrev KT:Type:=Ty kindOf
def tU(prog:aE)(w:aG)(A:aY)(s:aj)(κ:aT)(kd:KT):Prop:=∀(x y:a9)(E':ae->aj->Prop){Q:Bool->aj->Prop},rG κ x->rG κ y->Q (κ.blt (ky κ x)<|ky κ y) s->am (aq prog w) A (keyLt' kd x.1 y.1) Q E' s
def tU.one(e:κ.OneLt):tU prog w A s κ oneType':=λx y f Q ⟨a,c⟩ ⟨b,d⟩ q=>by
 have g:ky κ x=a:=by unfold ky;rw[c];rfl
 have h:ky κ y=b:=by unfold ky;rw[d];rfl
 rw[g,h] at q;exact e prog w A f s x.1 y.1 a b c d q
def Bt(a:tU prog w A s κ kd)(b:kindOf st=kd)(c:rG κ x)(d:rG κ y)(q:Q (Qg (κ.blt (ky κ x)<|ky κ y)) st):wpS (aq prog w) A E s (lt' x y) Q st:=by rw[lt'_eq];refine az (fV<|az (iO<|fR ?_));rw[b];exact a x y _ c d ⟨rfl,aF q⟩
def rM(κ:aT)(left:Bool)(key x:a9):Bool:=if left=Qo then κ.blt (ky κ x) (ky κ key) else !κ.blt (ky κ key) (ky κ x)
def Bk{α β:Type}{G:Prop}{H:α->β->Prop}(P:α->β->Prop)(h:(∀x y,H x y->P x y)->G)(k:∀x y,H x y->P x y):G:=h k
def UW(ho:tU prog w A s κ kd){left:Bool}{f:a9}{M:Array a9}{base n hint:Nat}{b:Nat->Bool}(hk:kindOf st=kd)(rE:rG κ f)(hb:∀i,i<n->∃x,M[base+i]?=Qg x/\rG κ x/\rM κ left f x=b i)(hh:hint<n)(u:∀i j,i<=j->j<n->b j=Qo->b i=Qo)
  {Q:Option Nat->bS->Prop} (q:∀k,k<=n->(∀i,i<k->b i=Qo)->(∀i,k<=i->i<n->b i=Qp)->Q (Qg k) st):wpS (aq prog w) A E s ((nX.g nY) left f M base n hint) Q st:=by
 have C:∀i,i<n->∀{Q:Option Bool->bS->Prop},Q (Qg<|b i) st->wpS (aq prog w) A E s (elem' M (base+i) >>= λx=>if left=Qo then lt' x f else lt' f x >>= λr=>pure (r.map λx=>!x)) Q st:=λi a Q hq=>by
  obtain⟨x,v,G,t⟩:=hb i a;refine az<|rj v ?_;unfold rM at t;cases left with
  | true=>
   rw[Qs rfl] at t;rw[Qs rfl];exact Bt ho hk G rE (by rw[t];exact hq)
  | false=>
   rw[Qu 'b'] at t;rw[Qu 'b'];exact az (Bt ho hk rE G (aF (by show Q (Qg<|!κ.blt (ky κ f) (ky κ x)) st;rw[t];exact hq)))
 have B:∀i j,i<=j->i<n->j<n->b i=Qp->b j=Qp:=λi j sV a hj J=>by
  cases e:b j with
  |false=>rfl
  |true=>rw[u i j sV hj e] at J;cases J
 show wpS _ _ _ _ (_ >>= _) Q st;refine az<|C hint hh ?_;apply Bk (β:=Nat) (H:=λd a=>d<=a/\a<=n/\(∀i,i<d->b i=Qo)/\(∀i,a<=i->i<n->b i=Qp));intro f;cases Qq:b hint with
 | true=>
  refine az<|dW (dI (I:=λk c p=>p=st/\∃l o,c=(Qn,l,o)/\l<o/\k+1<=o/\hint+l<n/\b (hint+l)=Qo) (Q:=λc p=>p=st/\∃l o,c=(Qn,l,o)/\l<o/\hint+l<n/\b (hint+l)=Qo/\(hint+o<n->b (hint+o)=Qp)) ?_ ?_ ?_) ?_
  .rintro k c p _ vJ ⟨S,l,o,rfl,v,G,t,y⟩;subst p;show wpS _ _ _ _ (if o ≥ n-hint then _ else _) _ st;by_cases L:o ≥ n-hint
   .rw[Qs L];exact aF ⟨rfl,l,o,rfl,v,t,y,λh=>by lia⟩
   .rw[Qu L];refine az<|C (hint+o) 'd' ?_;cases T:b (hint+o) with
    |true=>exact aF ⟨rfl,o,2*o+1,rfl,by lia,by lia,by lia,T⟩
    |false=>exact aF ⟨rfl,l,o,rfl,v,t,y,λ_=>T⟩
  .rintro c p ⟨S,l,o,rfl,v,G,t,y⟩;subst p;exact⟨rfl,l,o,rfl,v,t,y,λh=>by rw[dq] at G;lia⟩
  .exact⟨rfl,0,1,rfl,by lia,by lia,by lia,Qq⟩
  .rintro c p ⟨S,l,o,rfl,v,t,y,h5⟩;subst p;have U:hint+l+1<=hint+min o (n-hint):=by lia
   have Y:hint+min o (n-hint)<=n:=by lia
   have Z:∀i,i<hint+l+1->b i=Qo:=λi a=>u i (hint+l) 'd' t y;have J:∀i,hint+min o (n-hint)<=i->i<n->b i=Qp:=λi a tw=>by
    have:hint+o<n:=by lia
    exact B (hint+o) i 'd' this tw<|h5 this
   show wpS _ _ _ _ (forIn [:n] (Qn,hint+l+1,hint+min o (n-hint)) _ >>= _) Q st;generalize hint+l+1=d at *;generalize hint+min o (n-hint)=a at *;exact f _ _ ⟨U,Y,Z,J⟩
 | false=>
  refine az<|dW (dI (I:=λk c p=>p=st/\∃l o,c=(Qn,l,o)/\l<o/\k+1<=o/\l<=hint/\b (hint-l)=Qp) (Q:=λc p=>p=st/\∃l o,c=(Qn,l,o)/\l<o/\l<=hint/\b (hint-l)=Qp/\(o<=hint->b (hint-o)=Qo)) ?_ ?_ ?_) ?_
  .rintro k c p _ vJ ⟨S,l,o,rfl,v,G,t,y⟩;subst p;show wpS _ _ _ _ (if o ≥ hint+1 then _ else _) _ st;by_cases L:o ≥ hint+1
   .rw[Qs L];exact aF ⟨rfl,l,o,rfl,v,t,y,λh=>by lia⟩
   .rw[Qu L];refine az<|C (hint-o) 'd' ?_;cases T:b (hint-o) with
    |true=>exact aF ⟨rfl,l,o,rfl,v,t,y,λ_=>T⟩
    |false=>exact aF ⟨rfl,o,2*o+1,rfl,by lia,by lia,by lia,T⟩
  .rintro c p ⟨S,l,o,rfl,v,G,t,y⟩;subst p;exact⟨rfl,l,o,rfl,v,t,y,λh=>by rw[dq] at G;lia⟩
  .exact⟨rfl,0,1,rfl,by lia,by lia,by lia,Qq⟩
  .rintro c p ⟨S,l,o,rfl,v,t,y,h5⟩;subst p;have U:hint+1-min o (hint+1)<=hint-l:=by lia
   have Y:hint-l<=n:=by lia
   have Z:∀i,i<hint+1-min o (hint+1)->b i=Qo:=λi a=>by
    have:o<=hint:=by lia
    exact u i (hint-o) 'd' 'd'<|h5 this
   have J:∀i,hint-l<=i->i<n->b i=Qp:=λi a tw=>B (hint-l) i a 'd' tw y;show wpS _ _ _ _ (forIn [:n] (Qn,hint+1-min o (hint+1),hint-l) _ >>= _) Q st;generalize hint+1-min o (hint+1)=d at *;generalize hint-l=a at *;exact f _ _ ⟨U,Y,Z,J⟩
 rintro d a ⟨U,Y,Z,J⟩;refine az<|dW (dI (I:=λk c zf=>zf=st/\∃d a,c=(Qn,d,a)/\d<=a/\a<=n/\a-d<=n-k/\(∀i,i<d->b i=Qo)/\(∀i,a<=i->i<n->b i=Qp)) (Q:=λc zf=>zf=st/\∃m,c=(Qn,m,m)/\m<=n/\(∀i,i<m->b i=Qo)/\(∀i,m<=i->i<n->b i=Qp)) ?_ ?_ ?_) ?_
 .rintro k c pC _ vJ ⟨rfl,d,a,rfl,g1,N,g3,O,P⟩;show wpS _ _ _ _ (if d ≥ a then _ else _) _ pC;by_cases L:d ≥ a
  .rw[Qs L];have:d=a:=by lia
   subst this;exact aF ⟨rfl,d,rfl,N,O,P⟩
  .rw[Qu L];refine az<|C (d+(a-d)/2) 'd' ?_;cases si:b (d+(a-d)/2) with
   |true=>exact aF ⟨rfl,d+(a-d)/2+1,a,rfl,by lia,N,by lia,λi ux=>u i (d+(a-d)/2) 'd' 'd' si,P⟩
   |false=>exact aF ⟨rfl,d,d+(a-d)/2,rfl,by lia,by lia,by lia,O,λi ux tw=>B (d+(a-d)/2) i ux 'd' tw si⟩
 .rintro c pC ⟨rfl,d,a,rfl,g1,N,g3,O,P⟩;rw[dq] at g3;have:d=a:=by lia
  subst this;exact⟨rfl,d,rfl,N,O,P⟩
 .exact⟨rfl,d,a,rfl,U,Y,by lia,Z,J⟩
 .rintro c pC ⟨rfl,m,rfl,N,O,P⟩;exact aF<|q m N O P
end
section
def Le(κ:aT)(x y:a9):Prop:=κ.blt (ky κ y) (ky κ x)=Qp
def Le.refl(x:a9):Le κ x x:=κ.irrefl _
def Le.trans(a:Le κ x y)(b:Le κ y z):Le κ x z:=by
 unfold Le at *;cases e:κ.blt (ky κ z) (ky κ x) with
 |false=>rfl
 | true=>
  rcases κ.negTrans _ (ky κ y) _ e with h|h
  .rw[b] at h;cases h
  .rw[a] at h;cases h
def Le.of(h:κ.blt (ky κ x) (ky κ y)=Qo):Le κ x y:=by
 unfold Le;cases e:κ.blt (ky κ y) (ky κ x) with
 |false=>rfl
 | true=>
  have:=κ.trans _ _ _ h e;rw[κ.irrefl] at this;cases this
def pA(κ:aT)(l:List a9):Prop:=l.Pairwise<|Le κ
structure Out(κ:aT)(a b r:List a9):Prop where
 perm:r.Perm (a++b)
 srt:pA κ r
structure Mg(κ:aT)(a b o:List a9)(i j:Nat):Prop where
 perm:o.Perm (a.take i++b.take j)
 srt:pA κ o
 la:∀x∈o,∀y∈a.drop i,Le κ x y
 lb:∀x∈o,∀y∈b.drop j,Le κ x y
def Mg.len(h:Mg κ a b o i j)(c:i<=a.length)(d:j<=b.length):o.length=i+j:=by rw[h.perm.length_eq,aI,bK,bK];lia
def Nm{α:Type}(l:List α)(i k:Nat){x:α}(h:x∈l.drop (i+k)):x∈l.drop i:=by rw[<- dO] at h;exact cM h
def pA.take_drop(h:pA κ l)(k:Nat):∀x∈l.take k,∀y∈l.drop k,Le κ x y:=by unfold pA at h;rw[<- ci k l,bT] at h;exact h.2.2
def Mg.addA(h:Mg κ a b o i j)(f:pA κ a)(k:Nat)(d:∀y∈(a.drop i).take k,∀z∈b.drop j,Le κ y z):Mg κ a b (o++(a.drop i).take k) (i+k) j:=by
 have e:pA κ (a.drop i):=f.sublist<|cP i a;refine⟨?_,?_,λx hx y c=>?_,λx hx y c=>?_⟩
 .rw[mV];refine(h.perm.append_right _).trans ?_;rw[bd,bd];exact(cG).append_left _
 .unfold pA;rw[bT];exact⟨h.srt,e.sublist<|cI k _,λx hx y c=>h.la x hx y<|cu c⟩
 .rcases aO.mp hx with hx|hx
  .exact h.la x hx y<|Nm a i k c
  .exact e.take_drop k x hx y (by rw[dO];exact c)
 .rcases aO.mp hx with hx|hx
  .exact h.lb x hx y c
  .exact d x hx y c
def Mg.addB(h:Mg κ a b o i j)(f:pA κ b)(k:Nat)(d:∀y∈(b.drop j).take k,∀z∈a.drop i,Le κ y z):Mg κ a b (o++(b.drop j).take k) i (j+k):=by
 have e:pA κ (b.drop j):=f.sublist<|cP j b;refine⟨?_,?_,λx hx y c=>?_,λx hx y c=>?_⟩
 .rw[mV];refine(h.perm.append_right _).trans ?_;rw[bd]
 .unfold pA;rw[bT];exact⟨h.srt,e.sublist<|cI k _,λx hx y c=>h.lb x hx y<|cu c⟩
 .rcases aO.mp hx with hx|hx
  .exact h.la x hx y c
  .exact d x hx y c
 .rcases aO.mp hx with hx|hx
  .exact h.lb x hx y<|Nm b j k c
  .exact e.take_drop k x hx y (by rw[dO];exact c)
def Mg.fin(h:Mg κ a b o i j)(d:pA κ a)(e:pA κ b)(f:∀x∈a.drop i,∀y∈b.drop j,Le κ x y):Out κ a b (o++a.drop i++b.drop j):=by
 refine⟨?_,?_⟩
 .refine((h.perm.append_right _).append_right _).trans ?_
  conv=>rhs;rw[<- ci i a,<- ci j b]
  simp only[bd];refine eE _ ?_;rw[<- bd,<- bd];exact cG.append_right _
 .unfold pA;rw[bT,bT];refine⟨⟨h.srt,d.sublist<|cP i a,h.la⟩,e.sublist<|cP j b,λx g y c=>?_⟩;rcases aO.mp g with h'|h'
  .exact h.lb x h' y c
  .exact f x h' y c
def Mg.fin'(h:Mg κ a b o i j)(c:pA κ a)(d:pA κ b)(e:∀y∈b.drop j,∀x∈a.drop i,Le κ y x):Out κ a b (o++b.drop j++a.drop i):=by have f:Mg κ b a o j i:=⟨h.perm.trans cG,h.srt,h.lb,h.la⟩;have:=f.fin d c e;exact⟨this.perm.trans cG,this.srt⟩
def yB{l:List a9}{i:Nat}{x:a9}(h:l[i]?=Qg x):(l.drop i).take 1=[x]:=by obtain⟨a,rfl⟩:=al.mp h;rw[dj a];rfl
def Ai(h:pA κ l)(c:l[i]?=Qg x):∀y∈l.drop i,Le κ x y:=by
 obtain⟨a,rfl⟩:=al.mp c;intro y hy;rw[dj a] at hy;have b:pA κ (l.drop i):=h.sublist<|cP i l;rw[dj a] at b;rcases av.mp hy with rfl|hy
 .exact Le.refl _
 .exact(bG.mp b).1 y hy
end
def r_{M:jt}{A:aY}{E:ae->aj->Prop}{s:aj}{e α:Type}{c:Prop}{d:Decidable c}{a b:StateT e Sem α}{Q:α->e->Prop}{f:e}(h:c)(k:wpS M A E s a Q f):wpS M A E s (if c then a else b) Q f:=by rw[Qs h];exact k
def sf{M:jt}{A:aY}{E:ae->aj->Prop}{s:aj}{e α:Type}{c:Prop}{d:Decidable c}{a b:StateT e Sem α}{Q:α->e->Prop}{f:e}(h:¬ c)(k:wpS M A E s b Q f):wpS M A E s (if c then a else b) Q f:=by rw[Qu h];exact k
def Ar{M:jt}{A:aY}{E:ae->aj->Prop}{s:aj}{j β m:Type}{a b:Nat}{f:Nat->β->StateT j Sem (ForInStep β)}{g:β->StateT j Sem m}{R:m->j->Prop}(I:Nat->β->j->Prop)(Q:β->j->Prop)
  (n:∀i c d,a<=i->i<b->I i c d->∀P:ForInStep β->j->Prop,(∀l e,Q l e->P (.done l) e)->(∀l e,I (i+1) l e->P (.yield l) e)->wpS M A E s (f i c) P d)
  (o:∀c d,I (max a b) c d->Q c d) {c:β} {d:j} (h:I a c d) (k:∀c e,Q c e->wpS M A E s (g c) R e):wpS M A E s (forIn [a:b] c f >>= g) R d:=
 az (dW (dI I (λi c d p q r=>n i c d p q r _ (λ_ _ h=>h) λ_ _ h=>h) o h) k)
structure nF(st d_:bS):Prop where
 kind:kindOf d_=kindOf st
 arr:Qw d_=Qw st
 pend:Qz d_=Qz st
 failed:failedOf d_=failedOf st
def nF.refl(a:bS):nF a a:=⟨rfl,rfl,rfl,rfl⟩
def nF.trans(h:nF a b)(g:nF b c):nF a c:=⟨g.kind.trans h.kind,g.arr.trans h.arr,g.pend.trans h.pend,g.failed.trans h.failed⟩
section
variable{prog:aE}{w:aG}{A:aY}{E:ae->aj->Prop}{s:aj}{κ:aT}{st:bS}{kd:KT}
def uL{a:Array a9}{i:Nat}(h:i<a.size):∃x,a[i]?=Qg x/\a.toList[i]?=Qg x:=⟨a[i],by simp[h],by simp[h]⟩
def Mt(b:nF st (f st))(h:∀a,nF st a->Q ⟨⟩ a):wpS M A E s (modify f) Q st:=eQ<|h _ b
def En(a:Array a9)(i:Nat):(a.extract i).toList=a.toList.drop i:=by simp only[kU,jw];exact cy 'k'
def GJ(a:Array a9)(i k:Nat):(a.extract i<|i+k).toList=(a.toList.drop i).take k:=by simp
def KP{a b:List a9}{c:Array a9}{d e:Nat}{x:a9}(m:Mg κ a b c.toList d e)(g:pA κ a)(f:a[d]?=Qg x)(h:∀z∈b.drop e,Le κ x z):Mg κ a b (c.push x).toList (d+1) e:=by have:=m.addA g 1 (by rw[yB f];intro y i;rw[cz.mp i];exact h);rw[yB f] at this;rw[d0];exact this
def KD{a b:List a9}{c:Array a9}{d e:Nat}{x:a9}(m:Mg κ a b c.toList d e)(g:pA κ b)(f:b[e]?=Qg x)(h:∀z∈a.drop d,Le κ x z):Mg κ a b (c.push x).toList d (e+1):=by have:=m.addB g 1 (by rw[yB f];intro y i;rw[cz.mp i];exact h);rw[yB f] at this;rw[d0];exact this
def Aq(H:tU prog w A s κ kd){left:Bool}{c:a9}{d:Array a9}{base n hint:Nat}{L:List a9}(G:(d.toList.drop base).take n=L)(I:kindOf st=kd)(J:rG κ c)(Y:base+n<=d.size)(M:hint<n)(t:∀x∈L,rG κ x)(u:pA κ L)
  {Q:Option Nat->bS->Prop} (q:∀k,k<=n->(∀x∈L.take k,rM κ left c x=Qo)->(∀x∈L.drop k,rM κ left c x=Qp)->Q (Qg k) st):wpS (aq prog w) A E s ((nX.g nY) left c d base n hint) Q st:=by
 have N:L.length=n:=by
  rw[<- G,bK,bR,aw];lia
 have m:∀i,i<n->∃x,d[base+i]?=Qg x/\L[i]?=Qg x:=λi f=>by
  obtain⟨x,v,l⟩:=uL (a:=d) (i:=base+i) 'd';refine⟨x,v,?_⟩;rw[<- G,eV f,List.getElem?_drop];exact l
 refine UW H (b:=λi=>match L[i]? with|some x=>rM κ left c x|none=>Qp) I J (λi f=>?_) M (λi j Z O e=>?_) λk P S T=>q k P (λx o=>?_) λx o=>?_
 .obtain⟨x,v,l⟩:=m i f;exact⟨x,v,t x<|aR l,by rw[l]⟩
 .obtain⟨x,_,o⟩:=m i 'd';obtain⟨y,_,r⟩:=m j O;rw[r] at e;rw[o]
  replace e:rM κ left c y=Qo:=e
  show rM κ left c x=Qo;by_cases h:i=j
  .subst h;rw[o] at r;cases r;exact e
  have p:Le κ x y:=by
   obtain⟨B,rfl⟩:=al.mp o;obtain⟨C,rfl⟩:=al.mp r;exact eR.mp u i j B C 'd'
  unfold rM at e ⊢;cases left with
  | true=>
   rw[Qs rfl] at e ⊢;rcases κ.negTrans _ (ky κ x) _ e with h|h
   .rw[show κ.blt (ky κ y) (ky κ x)=Qp from p] at h;cases h
   .exact h
  | false=>
   rw[Qu 'b'] at e ⊢;have U:Le κ y c:=by unfold Le;simpa using e
   have:Le κ x c:=p.trans U;unfold Le at this;rw[this];rfl
 .obtain⟨i,f,e⟩:=ll o;have B:i<k:=by rw[bK] at f;lia
  have:=S i B;have l:L[i]?=Qg x:=by rw[<- e,l7];exact aB (by rw[bK] at f;lia)
  rw[l] at this;exact this
 .obtain⟨i,f,e⟩:=ll o;rw[bR] at f;have:=T (k+i) 'd' 'd';have l:L[k+i]?=Qg x:=by rw[<- e,l8];exact aB 'd'
  rw[l] at this;exact this
def KQ{α:Type}{G:Prop}(P:α->Prop)(h:(∀x,P x)->G)(k:∀x,P x):G:=h k
def Sn(ho:tU prog w A s κ kd){a b:Array a9}(hk:kindOf st=kd)(ha:∀x∈a.toList,rG κ x)(hb:∀x∈b.toList,rG κ x)(sa:pA κ a.toList)(sb:pA κ b.toList)(pa:1<=a.size)(pb:1<=b.size)
  (h0:∀x∈b.toList.take 1,∀y∈a.toList,Le κ x y) (hl:∀y∈b.toList,∀x∈a.toList.drop (a.size-1),Le κ y x) {Q:Array a9->bS->Prop} (q:∀r G,nF st G->Out κ a.toList b.toList r.toList->Q r G):wpS (aq prog w) A E s ((nX.lo nY) a b) Q st:=by
 have IP:a.toList.length=a.size:=aw;have IM:b.toList.length=b.size:=aw;have rh:∀{l:Array a9}{d f:Nat},Mg κ a.toList b.toList l.toList d f->(f=b.size\/d=a.size)->Out κ a.toList b.toList (l++a.extract d++b.extract f).toList:=λ{l d f}m h=>by
  rw[bI,bI,En,En];refine m.fin sa sb λx n y Y=>?_;rcases h with rfl|rfl
  .rw[ez 'd'] at Y;cases Y
  .rw[ez 'd'] at n;cases n
 have sP:∀{l:Array a9}{d f:Nat},Mg κ a.toList b.toList l.toList d f->d+1=a.size->Out κ a.toList b.toList (l++b.extract f++a.extract d).toList:=λ{l d f}m h=>by
  rw[bI,bI,En,En];refine m.fin' sa sb λy Y x n=>hl y (cM Y) x ?_;have:a.size-1=d:=by lia
  rw[this];exact n
 obtain⟨b0,g0,l0⟩:=uL (a:=b) (i:=0) 'd';have m0:Mg κ a.toList b.toList (#[b0]:Array a9).toList 0 1:=by
  have e:b.toList.take 1=[b0]:=by
   have:=yB l0;simpa using this
  refine⟨by rw[e];exact eo _,jL _ _,λx n y Y=>h0 x (by rw[e];exact n) y Y,λx n y Y=>?_⟩;have:x=b0:=⇑n
  subst this;exact Ai sb l0 y<|cM Y
 show wpS _ _ _ _ (_ >>= _) Q st;refine az (iO<|dh ⟨rfl,az<|rj g0 ?_⟩);by_cases c1:1=b.size
 .refine r_ (c:=(1==b.size)=Qo) ⇑c1 ?_;exact aF<|q _ st (nF.refl st) (rh m0<|.inl c1)
 refine sf (c:=(1==b.size)=Qo) ⇑c1 ?_;by_cases c2:1=a.size
 .refine r_ (c:=(0+1==a.size)=Qo) ⇑c2 ?_;exact aF (q _ st (nF.refl st)<|sP m0 'd')
 refine sf (c:=(0+1==a.size)=Qo) ⇑c2 ?_;refine az (fV<|Ar (I:=λk c G=>nF st G/\∃l d f N,c=(Qn,l,d,f,N)/\Mg κ a.toList b.toList l.toList d f/\d+1<a.size/\f<b.size/\k+1<=l.size) (Q:=λc G=>nF st G/\∃r,c.1=Qg r/\Out κ a.toList b.toList r.toList) ?_ ?_ ?_ ?_)
 .rintro k c pP _ hkt ⟨sm,l,d,f,N,rfl,m,O,J,c5⟩ P M gY;have CQ:kindOf pP=kd:=sm.kind.trans hk;refine Ar (I:=λj c G=>G=pP/\∃o d f t v,c=(Qn,o,d,f,t,v)/\Mg κ a.toList b.toList o.toList d f/\d+1<a.size/\f<b.size/\l.size+j<=o.size) (Q:=λc G=>G=pP/\((∃r,c.1=Qg r/\Out κ a.toList b.toList r.toList) \/ ∃o d f t v,c=(Qn,o,d,f,t,v)/\Mg κ a.toList b.toList o.toList d f/\d+1<a.size/\f<b.size/\l.size+1<=o.size)) ?_ ?_ ?_ ?_
  .rintro j c pC _ Jv ⟨rfl,o,d,f,t,v,rfl,m,O,J,c6⟩ P M gY;obtain⟨y,gy,ly⟩:=uL (a:=b) J;obtain⟨x,gx,lx⟩:=uL (a:=a) (i:=d) 'd';refine az<|rj gy (az<|rj gx (az<|Bt ho CQ (hb y<|aR ly) (ha x<|aR lx) ?_));cases hc:κ.blt (ky κ y) (ky κ x) with
   | true=>
    have m':=KD m sb ly λz S=>(Le.of hc).trans<|Ai sa lx z S;refine az<|rj gy ?_;by_cases e:f+1=b.size
    .refine r_ (c:=(f+1==b.size)=Qo) ⇑e ?_;exact aF<|M _ _ ⟨rfl,.inl ⟨_,rfl,rh m'<|.inl e⟩⟩
    .refine sf (c:=(f+1==b.size)=Qo) ⇑e ?_;split
     .exact aF<|M _ _ ⟨rfl,.inr ⟨o.push y,d,f+1,0,v+1,rfl,m',O,by lia,by rw[bZ];lia⟩⟩
     .exact aF<|gY _ _ ⟨rfl,o.push y,d,f+1,0,v+1,rfl,m',O,by lia,by rw[bZ];lia⟩
   | false=>
    have m':=KP m sa lx λz S=>Le.trans (show Le κ x y from hc)<|Ai sb ly z S;refine az<|rj gx ?_;by_cases e:d+1+1=a.size
    .refine r_ (c:=(d+1+1==a.size)=Qo) ⇑e ?_;exact aF<|M _ _ ⟨rfl,.inl ⟨_,rfl,sP m' e⟩⟩
    .refine sf (c:=(d+1+1==a.size)=Qo) ⇑e ?_;split
     .exact aF<|M _ _ ⟨rfl,.inr ⟨o.push x,d+1,f,t+1,0,rfl,m',by lia,J,by rw[bZ];lia⟩⟩
     .exact aF<|gY _ _ ⟨rfl,o.push x,d+1,f,t+1,0,rfl,m',by lia,J,by rw[bZ];lia⟩
  .rintro c pC ⟨rfl,o,d,f,t,v,rfl,m,O,J,c6⟩;have:=m.len 'd' 'd';rw[aw] at this;rw[dq] at c6;lia
  .exact⟨rfl,l,d,f,0,0,rfl,m,O,J,by lia⟩
  rintro c pC ⟨rfl,h⟩;rcases h with⟨r,e,hr⟩|⟨o,d,f,t,v,rfl,m,O,J,c6⟩
  .obtain⟨c,c'⟩:=c;dsimp only at e;subst e;exact aF<|M _ _ ⟨sm,r,rfl,hr⟩
  refine az (iO<|dh ⟨rfl,Ar (I:=λj c G=>nF st G/\∃B d f N t v,c=(Qn,B,d,f,N,t,v)/\Mg κ a.toList b.toList B.toList d f/\d+1<a.size/\f<b.size/\o.size+j<=B.size) (Q:=λc G=>nF st G/\((∃r,c.1=Qg r/\Out κ a.toList b.toList r.toList) \/ ∃B d f N t v,c=(Qn,B,d,f,N,t,v)/\Mg κ a.toList b.toList B.toList d f/\d+1<a.size/\f<b.size/\o.size<=B.size)) ?_ ?_ ?_ ?_⟩)
  .rintro j c o5 _ Jv ⟨sI,B,d,f,N,t,v,rfl,m,O,J,c6⟩ P M gY;obtain⟨y,gy,ly⟩:=uL (a:=b) J;have Y:=hb y<|aR ly;have zH:∀T,nF st T->∀{Q:Option Nat->bS->Prop},(∀k,k<=a.size-d->(∀x∈(a.toList.drop d).take k,Le κ x y)->(∀x∈a.toList.drop (d+k),Le κ y x)->Q (Qg k) T)->wpS (aq prog w) A E s ((nX.g nY) Qp y a d (a.size-d) 0) Q T:=λT s4 Q h=>
    Aq ho (cy (by rw[bR];lia)) (s4.kind.trans hk) Y 'd' 'd' (λx n=>ha x<|cM n) (sa.sublist<|cP d _) λk h1 h2 h3=>h k h1 (λx n=>by
     have:=h2 x n;unfold rM at this;rw[Qu 'b'] at this;unfold Le;simpa using this) λx n=>by
     rw[<- dO] at n;have:=h3 x n;unfold rM at this;rw[Qu 'b'] at this;exact Le.of ⇑this
   have zG:∀x{C:Nat},a.toList[C]?=Qg x->∀T,nF st T->f+1<b.size->∀{Q:Option Nat->bS->Prop},(∀k,k<=b.size-(f+1)->(∀z∈(b.toList.drop<|f+1).take k,Le κ z x)->(∀z∈b.toList.drop (f+1+k),Le κ x z)->Q (Qg k) T)->wpS (aq prog w) A E s ((nX.g nY) Qo x b (f+1) (b.size-(f+1)) 0) Q T:=λx C lx T s4 h4 Q h=>
    Aq ho (L:=b.toList.drop<|f+1) (cy (by rw[bR];lia)) (s4.kind.trans hk) (ha x<|aR lx) 'd' 'd' (λx n=>hb x<|cM n) (sb.sublist<|cP _ _) λk h1 h2 h3=>h k h1 (λz S=>by
     have:=h2 z S;unfold rM at this;rw[Qs rfl] at this;exact Le.of this) λz S=>by
     rw[<- dO] at S;have:=h3 z S;unfold rM at this;rw[Qs rfl] at this;exact this
   show wpS _ _ _ _ (if N>1 then _ else _) _ o5;apply KQ (α:=Nat)
   .intro p;split
    .generalize N-1=Cp;exact p Cp
    .exact p N
   intro Cp;refine az (Mt ⟨rfl,rfl,rfl,rfl⟩ λT s4=>az<|rj gy (az<|zH T (sI.trans s4) ?_));have r8:=sI.trans s4;intro k vJ kt kf;have m3:=m.addA sa k λx n z S=>(kt x n).trans<|Ai sb ly z S;rw[<- GJ,<- bI] at m3;have n3:B.size<=(B++a.extract d (d+k)).size:=by rw[fu];lia
   show wpS _ _ _ _ (if k>0 then _ else _) _ _;apply Bk (H:=λ(Z:Array a9)(C:Nat)=>Mg κ a.toList b.toList Z.toList C f/\B.size<=Z.size/\C+1<a.size/\∀x∈a.toList.drop C,Le κ y x)
   .intro p;by_cases rF:k>0
    .rw[Qs rF];by_cases e1:d+k+1=a.size
     .refine r_ (c:=(d+k+1==a.size)=Qo) ⇑e1 ?_;exact aF<|M _ _ ⟨r8,.inl ⟨_,rfl,sP m3 e1⟩⟩
     .refine sf (c:=(d+k+1==a.size)=Qo) ⇑e1 ?_;by_cases e2:d+k=a.size
      .refine r_ (c:=(d+k==a.size)=Qo) ⇑e2 ?_;exact aF<|M _ _ ⟨r8,.inl ⟨_,rfl,rh m3<|.inr e2⟩⟩
      .refine sf (c:=(d+k==a.size)=Qo) ⇑e2 ?_;have hh:=eB m3 (eB n3<|eB (show d+k+1<a.size by lia) kf);generalize B++a.extract d (d+k)=Z at hh ⊢;generalize d+k=C at hh ⊢;exact p Z C hh
    .rw[Qu rF];have uc:k=0:=by lia
     rw[uc,Nat.add_zero] at kf;exact p B d ⟨m,ay _,O,kf⟩
   rintro Z C ⟨m3,n3,f3,zj⟩;have m4:=KD m3 sb ly zj;refine az<|rj gy ?_;by_cases e3:f+1=b.size
   .refine r_ (c:=(f+1==b.size)=Qo) ⇑e3 ?_;exact aF<|M _ _ ⟨r8,.inl ⟨_,rfl,rh m4<|.inl e3⟩⟩
   .refine sf (c:=(f+1==b.size)=Qo) ⇑e3 ?_;obtain⟨x,gx,lx⟩:=uL (a:=a) (i:=C) 'd';refine az<|rj gx (az<|zG x lx _ r8 'd' ?_);intro U rL IS yG;have m5:=m4.addB sb U λz S u hu=>(IS z S).trans<|Ai sa lx u hu;rw[<- GJ,<- bI] at m5;have n5:Z.size+1<=(Z.push y++b.extract (f+1) (f+1+U)).size:=by rw[fu,bZ];lia
    show wpS _ _ _ _ (if U>0 then _ else _) _ _;apply Bk (H:=λ(t6:Array a9)(yI:Nat)=>Mg κ a.toList b.toList t6.toList C yI/\Z.size+1<=t6.size/\yI<b.size/\∀z∈b.toList.drop yI,Le κ x z)
    .intro p;by_cases rF:U>0
     .rw[Qs rF];by_cases e4:f+1+U=b.size
      .refine r_ (c:=(f+1+U==b.size)=Qo) ⇑e4 ?_;exact aF<|M _ _ ⟨r8,.inl ⟨_,rfl,rh m5<|.inl e4⟩⟩
      .refine sf (c:=(f+1+U==b.size)=Qo) ⇑e4 ?_;have hh:=eB m5 (eB n5<|eB (show f+1+U<b.size by lia) yG);generalize Z.push y++b.extract (f+1) (f+1+U)=t6 at hh ⊢;generalize f+1+U=yI at hh ⊢;exact p t6 yI hh
     .rw[Qu rF];have uc:U=0:=by lia
      rw[uc,Nat.add_zero] at yG;exact p (Z.push y) (f+1) ⟨m4,by rw[bZ];exact ay _,by lia,yG⟩
    rintro t6 yI ⟨m5,n5,f5,yG⟩;have m6:=KP m5 sa lx yG;refine az<|rj gx ?_;by_cases e5:C+1+1=a.size
    .refine r_ (c:=(C+1+1==a.size)=Qo) ⇑e5 ?_;exact aF<|M _ _ ⟨r8,.inl ⟨_,rfl,sP m6 e5⟩⟩
    .refine sf (c:=(C+1+1==a.size)=Qo) ⇑e5 ?_;split
     .exact aF<|M _ _ ⟨r8,.inr ⟨t6.push x,C+1,yI,_,_,_,rfl,m6,by lia,f5,by rw[bZ];lia⟩⟩
     .exact aF<|gY _ _ ⟨r8,t6.push x,C+1,yI,_,_,_,rfl,m6,by lia,f5,by rw[bZ];lia⟩
  .rintro c o5 ⟨sI,B,d,f,N,t,v,rfl,m,O,J,c6⟩;have:=m.len 'd' 'd';rw[aw] at this;rw[dq] at c6;lia
  .exact⟨sm,o,d,f,_,t,v,rfl,m,O,J,by lia⟩
  rintro c o5 ⟨sI,h⟩;rcases h with⟨r,e,hr⟩|⟨B,d,f,N,t,v,rfl,m,O,J,c7⟩
  .obtain⟨c,c'⟩:=c;dsimp only at e;subst e;exact aF<|M _ _ ⟨sI,r,rfl,hr⟩
  .exact az<|eQ (aF<|gY _ _ ⟨⟨sI.kind,sI.arr,sI.pend,sI.failed⟩,B,d,f,_,rfl,m,O,J,by lia⟩)
 .rintro c pP ⟨sm,l,d,f,N,rfl,m,O,J,c5⟩;have:=m.len 'd' 'd';rw[aw] at this;rw[dq] at c5;lia
 .exact⟨nF.refl st,#[b0],0,1,_,rfl,m0,by lia,by lia,by simp⟩
 .rintro⟨c,c'⟩ pP ⟨sm,r,e,hr⟩;dsimp only at e;subst e;exact aF<|q r pP sm hr
end
section
structure Mh(κ:aT)(a b o:List a9)(i j:Nat):Prop where
 perm:o.Perm (a.drop i++b.drop j)
 srt:pA κ o.reverse
 la:∀x∈a.take i,∀y∈o,Le κ x y
 lb:∀x∈b.take j,∀y∈o,Le κ x y
def Mh.len(h:Mh κ a b o i j):o.length=(a.length-i)+(b.length-j):=by rw[h.perm.length_eq,aI,bR,bR]
def T1{α:Type}{l:List α}{i k:Nat}(h:k<=i){x:α}(a:x∈l.take k):x∈l.take i:=by
 have:l.take k=(l.take i).take k:=by rw[fA,fh h]
 rw[this] at a;exact cu a
def Vt{α:Type}(l:List α)(h:k<=i):l.drop k=(l.take i).drop k++l.drop i:=by
 by_cases a:i<=l.length
 .conv=>lhs;rw[<- ci i l]
  rw[d6 (by rw[bK];lia)]
 .rw[cy 'd',ez (i:=i) 'd',cf]
def pA.mid(h:pA κ l)(b:k<=i):∀x∈l.take k,∀y∈(l.take i).drop k,Le κ x y:=by
 have c:pA κ (l.take i):=h.sublist<|cI i l;intro x a y d;have:l.take k=(l.take i).take k:=by rw[fA,fh b]
 rw[this] at a;exact c.take_drop k x a y d
def Mh.addA(h:Mh κ a b o i j)(f:pA κ a){k:Nat}(d:k<=i)(e:∀z∈b.take j,∀y∈(a.take i).drop k,Le κ z y):Mh κ a b (o++((a.take i).drop k).reverse) k j:=by
 refine⟨?_,?_,λx c y hy=>?_,λx c y hy=>?_⟩
 .rw[Vt a d];refine(h.perm.append<|l9 _).trans ?_;rw[bd];refine cG.trans ?_;rw[bd];exact cG
 .rw[List.reverse_append,List.reverse_reverse];unfold pA;rw[bT];exact⟨(f.sublist<|cI i a).sublist<|cP k _,h.srt,λx c y hy=>h.la x (cM c) y<|fP.mp hy⟩
 .rcases aO.mp hy with hy|hy
  .exact h.la x (T1 d c) y hy
  .exact f.mid d x c y<|fP.mp hy
 .rcases aO.mp hy with hy|hy
  .exact h.lb x c y hy
  .exact e x c y<|fP.mp hy
def Mh.swap(h:Mh κ a b o i j):Mh κ b a o j i:=⟨h.perm.trans cG,h.srt,h.lb,h.la⟩
def Mh.addB(h:Mh κ a b o i j)(d:pA κ b)(e:k<=j)(c:∀z∈a.take i,∀y∈(b.take j).drop k,Le κ z y):Mh κ a b (o++((b.take j).drop k).reverse) i k:=(h.swap.addA d e c).swap
def Mh.fin(h:Mh κ a b o i j)(d:pA κ a)(e:pA κ b)(f:∀x∈a.take i,∀y∈b.take j,Le κ x y):Out κ a b (a.take i++b.take j++o.reverse):=by
 refine⟨?_,?_⟩
 .refine(((l9 o).trans h.perm).append_left _).trans ?_
  conv=>rhs;rw[<- ci i a,<- ci j b]
  simp only[bd];refine eE _ ?_;rw[<- bd,<- bd];exact cG.append_right _
 .unfold pA;rw[bT,bT];refine⟨⟨d.sublist<|cI i a,e.sublist<|cI j b,f⟩,h.srt,λx g y c=>?_⟩;rcases aO.mp g with h'|h'
  .exact h.la x h' y<|fP.mp c
  .exact h.lb x h' y<|fP.mp c
def Mh.fin'(h:Mh κ a b o i j)(c:pA κ a)(d:pA κ b)(e:∀y∈b.take j,∀x∈a.take i,Le κ y x):Out κ a b (b.take j++a.take i++o.reverse):=by have:=h.swap.fin d c e;exact⟨this.perm.trans cG,this.srt⟩
def BH{l:List a9}{i:Nat}{x:a9}(h:l[i]?=Qg x):(l.take<|i+1).drop i=[x]:=by obtain⟨a,rfl⟩:=al.mp h;rw[mK,dE,dj a];rfl
def By{l:List a9}(h:pA κ l){i:Nat}{x:a9}(a:l[i]?=Qg x):∀y∈l.take (i+1),Le κ y x:=by
 intro y hy;have e:=BH a;have:l.take (i+1)=l.take i++[x]:=by
  rw[kH,a];rfl
 rw[this] at hy;rcases aO.mp hy with hy|hy
 .exact h.mid (dH i) y hy x (by rw[e];simp)
 .rw[cz.mp hy];exact Le.refl _
def Et{c:Array a9}{x:a9}(m:Mh κ a b c.toList (i+1) j)(e:pA κ a)(d:a[i]?=Qg x)(h:∀z∈b.take j,Le κ z x):Mh κ a b (c.push x).toList i j:=by have:=m.addA e (k:=i) 'd' (by rw[BH d];intro z f y g;rw[cz.mp g];exact h z f);rw[BH d] at this;rw[d0];exact this
def Lu{c:Array a9}{x:a9}(m:Mh κ a b c.toList i (j+1))(e:pA κ b)(d:b[j]?=Qg x)(h:∀z∈a.take i,Le κ z x):Mh κ a b (c.push x).toList i j:=by have:=m.addB e (k:=j) 'd' (by rw[BH d];intro z f y g;rw[cz.mp g];exact h z f);rw[BH d] at this;rw[d0];exact this
def Eg(a:Array a9)(i:Nat):(a.extract 0 i).toList=a.toList.take i:=by simp
def KU(a:Array a9)(k i:Nat):((a.extract k i).reverse).toList=((a.toList.take i).drop k).reverse:=by simp[mK]
end
section
variable{prog:aE}{w:aG}{A:aY}{E:ae->aj->Prop}{s:aj}{κ:aT}{st:bS}{kd:KT}
def EB{n:Nat}{o:Array a9}{x:a9}(h:n<=o.size):n+1<=(o.push x).size:=by rw[bZ];lia
def Tb(ho:tU prog w A s κ kd)(hk:kindOf st=kd)(ha:∀x∈a.toList,rG κ x)(hb:∀x∈b.toList,rG κ x)(sa:pA κ a.toList)(sb:pA κ b.toList)(pa:1<=a.size)(pb:1<=b.size)
  (h0:∀x∈b.toList.take 1,∀y∈a.toList,Le κ x y) (hl:∀y∈b.toList,∀x∈a.toList.drop (a.size-1),Le κ y x) {Q:Array a9->bS->Prop} (q:∀r H,nF st H->Out κ a.toList b.toList r.toList->Q r H):wpS (aq prog w) A E s ((nX.hi nY) a b) Q st:=by
 have IP:a.toList.length=a.size:=aw;have IM:b.toList.length=b.size:=aw;have rh:∀{l:Array a9}{d f:Nat},Mh κ a.toList b.toList l.toList d f->(d=0\/f=0)->Out κ a.toList b.toList (a.extract 0 d++b.extract 0 f++l.reverse).toList:=λ{l d f}m h=>by
  rw[bI,bI,Eg,Eg,kW];refine m.fin sa sb λx T y hy=>?_;rcases h with rfl|rfl
  .cases T
  .cases hy
 have sP:∀{l:Array a9}{d f:Nat},Mh κ a.toList b.toList l.toList d f->f=1->Out κ a.toList b.toList (b.extract 0 f++a.extract 0 d++l.reverse).toList:=λ{l d f}m h=>by
  rw[bI,bI,Eg,Eg,kW];subst h;exact m.fin' sa sb λy hy x T=>h0 y hy x<|cu T
 obtain⟨x0,g0,l0⟩:=uL (a:=a) (i:=a.size-1) 'd';have m0:Mh κ a.toList b.toList (#[x0]:Array a9).toList (a.size-1) b.size:=by
  have m00:Mh κ a.toList b.toList (#[]:Array a9).toList (a.size-1+1) b.size:=by
   refine⟨?_,dZ,(λx _ y hy=>nomatch hy),(λx _ y hy=>nomatch hy)⟩;rw[ez 'd',ez 'd'];exact eo _
  exact Et m00 sa l0 λz J=>hl z (cu J) x0 (by
   have:=yB l0;exact cu (by rw[this];simp:x0∈(a.toList.drop<|a.size-1).take 1))
 show wpS _ _ _ _ (_ >>= _) Q st;refine az (iO<|dh ⟨rfl,az<|rj g0 ?_⟩);by_cases c1:a.size-1=0
 .refine r_ (c:=(a.size-1==0)=Qo) ⇑c1 ?_;exact aF<|q _ st (nF.refl st) (rh m0<|.inl c1)
 refine sf (c:=(a.size-1==0)=Qo) ⇑c1 ?_;by_cases c2:b.size=1
 .refine r_ (c:=(b.size==1)=Qo) ⇑c2 ?_;exact aF (q _ st (nF.refl st)<|sP m0 c2)
 refine sf (c:=(b.size==1)=Qo) ⇑c2 ?_;refine az (fV<|Ar (I:=λk c H=>nF st H/\∃d f l L,c=(Qn,d,f,l,L)/\Mh κ a.toList b.toList l.toList d f/\1<=d/\d<=a.size/\2<=f/\f<=b.size/\k+1<=l.size) (Q:=λc H=>nF st H/\∃r,c.1=Qg r/\Out κ a.toList b.toList r.toList) ?_ ?_ ?_ ?_)
 .rintro k c pP _ hkt ⟨sm,d,f,l,L,rfl,m,M,N,O,S,c5⟩ P v gY;have CQ:kindOf pP=kd:=sm.kind.trans hk;refine Ar (I:=λj c H=>H=pP/\∃d f t B C,c=(Qn,d,f,t,B,C)/\Mh κ a.toList b.toList t.toList d f/\1<=d/\d<=a.size/\2<=f/\f<=b.size/\l.size+j<=t.size) (Q:=λc H=>H=pP/\((∃r,c.1=Qg r/\Out κ a.toList b.toList r.toList) \/ ∃d f t B C,c=(Qn,d,f,t,B,C)/\Mh κ a.toList b.toList t.toList d f/\1<=d/\d<=a.size/\2<=f/\f<=b.size/\l.size+1<=t.size)) ?_ ?_ ?_ ?_
  .rintro j c pC _ Jv ⟨rfl,d,f,t,B,C,rfl,m,M,N,O,S,c6⟩ P v gY;obtain⟨p,rfl⟩:∃p,d=p+1:=⟨d-1,by lia⟩;obtain⟨r,rfl⟩:∃r,f=r+1:=⟨f-1,by lia⟩;obtain⟨y,gy,ly⟩:=uL (a:=b) (i:=r) 'd';obtain⟨x,gx,lx⟩:=uL (a:=a) (i:=p) 'd';refine az<|rj gy (az<|rj gx (az<|Bt ho CQ (hb y<|aR ly) (ha x<|aR lx) ?_));cases hc:κ.blt (ky κ y) (ky κ x) with
   | true=>
    have m':=Et m sa lx λz J=>(By sb ly z J).trans<|Le.of hc;refine az<|rj gx ?_;by_cases e:p=0
    .refine r_ (c:=(p==0)=Qo) ⇑e ?_;exact aF<|v _ _ ⟨rfl,.inl ⟨_,rfl,rh m'<|.inl e⟩⟩
    .refine sf (c:=(p==0)=Qo) ⇑e ?_;split
     .exact aF<|v _ _ ⟨rfl,.inr ⟨p,r+1,t.push x,B+1,0,rfl,m',by lia,by lia,O,S,by rw[bZ];lia⟩⟩
     .exact aF<|gY _ _ ⟨rfl,p,r+1,t.push x,B+1,0,rfl,m',by lia,by lia,O,S,by rw[bZ];lia⟩
   | false=>
    have m':=Lu m sb ly λz J=>(By sa lx z J).trans (show Le κ x y from hc);refine az<|rj gy ?_;by_cases e:r=1
    .refine r_ (c:=(r==1)=Qo) ⇑e ?_;exact aF<|v _ _ ⟨rfl,.inl ⟨_,rfl,sP m' e⟩⟩
    .refine sf (c:=(r==1)=Qo) ⇑e ?_;split
     .exact aF<|v _ _ ⟨rfl,.inr ⟨p+1,r,t.push y,0,C+1,rfl,m',M,N,by lia,by lia,by rw[bZ];lia⟩⟩
     .exact aF<|gY _ _ ⟨rfl,p+1,r,t.push y,0,C+1,rfl,m',M,N,by lia,by lia,by rw[bZ];lia⟩
  .rintro c pC ⟨rfl,d,f,t,B,C,rfl,m,M,N,O,S,c6⟩;have:=m.len;rw[aw] at this;rw[dq] at c6;lia
  .exact⟨rfl,d,f,l,0,0,rfl,m,M,N,O,S,by lia⟩
  rintro c pC ⟨rfl,h⟩;rcases h with⟨r,e,hr⟩|⟨d,f,t,B,C,rfl,m,M,N,O,S,c6⟩
  .obtain⟨c,c'⟩:=c;dsimp only at e;subst e;exact aF<|v _ _ ⟨sm,r,rfl,hr⟩
  refine az (iO<|dh ⟨rfl,Ar (I:=λj c H=>nF st H/\∃d f G L B C,c=(Qn,d,f,G,L,B,C)/\Mh κ a.toList b.toList G.toList d f/\1<=d/\d<=a.size/\2<=f/\f<=b.size/\t.size+j<=G.size) (Q:=λc H=>nF st H/\((∃r,c.1=Qg r/\Out κ a.toList b.toList r.toList) \/ ∃d f G L B C,c=(Qn,d,f,G,L,B,C)/\Mh κ a.toList b.toList G.toList d f/\1<=d/\d<=a.size/\2<=f/\f<=b.size/\t.size<=G.size)) ?_ ?_ ?_ ?_⟩)
  .rintro j c o5 _ Jv ⟨sI,d,f,G,L,B,C,rfl,m,M,N,O,S,c6⟩ P v gY;obtain⟨r,rfl⟩:∃r,f=r+1:=⟨f-1,by lia⟩;obtain⟨y,gy,ly⟩:=uL (a:=b) (i:=r) 'd';have hy:=hb y<|aR ly;have zH:∀U,nF st U->∀{Q:Option Nat->bS->Prop},(∀k,k<=d->(∀x∈a.toList.take k,Le κ x y)->(∀x∈(a.toList.take d).drop k,Le κ y x)->Q (Qg k) U)->wpS (aq prog w) A E s ((nX.g nY) Qp y a 0 d<|d-1) Q U:=λU s4 Q h=>
    Aq ho (by rw[kI]) (s4.kind.trans hk) hy 'd' 'd' (λx T=>ha x<|cu T) (sa.sublist<|cI d _) λk h1 h2 h3=>h k h1 (λx T=>by
     have:=h2 x (by rw[fA,fh h1];exact T);unfold rM at this;rw[Qu 'b'] at this;unfold Le;simpa using this) λx T=>by
     have:=h3 x T;unfold rM at this;rw[Qu 'b'] at this;exact Le.of ⇑this
   have zG:∀x{n:Nat},a.toList[n]?=Qg x->∀U,nF st U->1<=r->∀{Q:Option Nat->bS->Prop},(∀k,k<=r->(∀z∈(b.toList.take r).drop k,Le κ x z)->(∀z∈b.toList.take k,Le κ z x)->Q (Qg k) U)->wpS (aq prog w) A E s ((nX.g nY) Qo x b 0 r<|r-1) Q U:=λx n lx U s4 h4 Q h=>
    Aq ho (by rw[kI]) (s4.kind.trans hk) (ha x<|aR lx) 'd' 'd' (λx T=>hb x<|cu T) (sb.sublist<|cI _ _) λk h1 h2 h3=>h k h1 (λz J=>by
     have:=h3 z J;unfold rM at this;rw[Qs rfl] at this;exact this) λz J=>by
     have:=h2 z (by rw[fA,fh h1];exact J);unfold rM at this;rw[Qs rfl] at this;exact Le.of this
   show wpS _ _ _ _ (if L>1 then _ else _) _ o5;apply KQ
   .intro Y;split
    .generalize L-1=Cp;exact Y Cp
    .exact Y L
   intro Cp;refine az (Mt ⟨rfl,rfl,rfl,rfl⟩ λU s4=>az<|rj gy (az<|zH U (sI.trans s4) ?_));have Z:=sI.trans s4;intro k vJ zj kt;have m3:=m.addA sa vJ λz J u hu=>(By sb ly z J).trans<|kt u hu;rw[<- KU,<- bI] at m3;have n3:G.size<=(G++(a.extract k d).reverse).size:=by rw[fu];lia
   show wpS _ _ _ _ (if d-k>0 then _ else _) _ _;apply Bk
   .intro Y;by_cases rF:d-k>0
    .rw[Qs rF];by_cases e1:k=0
     .refine r_ (c:=(k==0)=Qo) ⇑e1 ?_;exact aF<|v _ _ ⟨Z,.inl ⟨_,rfl,rh m3<|.inl e1⟩⟩
     .refine sf (c:=(k==0)=Qo) ⇑e1 ?_;have hh:=eB m3<|eB n3 (eB (show 1<=k by lia)<|eB (show k<=a.size by lia) zj);generalize G++(a.extract k d).reverse=pW at hh ⊢;generalize k=q3 at hh ⊢;exact Y pW q3 hh
    .rw[Qu rF];have uc:k=d:=by lia
     rw[uc] at zj ⊢;exact Y G d ⟨m,ay _,M,N,zj⟩
   rintro pW PZ ⟨m3,n3,f3,f3',zj⟩;have m4:=Lu m3 sb ly zj;refine az<|rj gy ?_;by_cases e3:r=1
   .refine r_ (c:=(r==1)=Qo) ⇑e3 ?_;exact aF<|v _ _ ⟨Z,.inl ⟨_,rfl,sP m4 e3⟩⟩
   .refine sf (c:=(r==1)=Qo) ⇑e3 ?_;obtain⟨n,rfl⟩:∃n,PZ=n+1:=⟨PZ-1,by lia⟩;obtain⟨x,gx,lx⟩:=uL (a:=a) (i:=n) 'd';refine az<|rj gx (az<|zG x lx _ Z 'd' ?_);intro o rL IS yG;have m5:=m4.addB sb rL λz J u hu=>(By sa lx z J).trans<|IS u hu;rw[<- KU,<- bI] at m5;have n5:pW.size+1<=(pW.push y++(b.extract o r).reverse).size:=by rw[fu,bZ];lia
    by_cases rF:r-o>0
    .refine r_ (c:=r-o>0) rF ?_;by_cases e4:o=1
     .refine r_ (c:=(o==1)=Qo) ⇑e4 ?_;exact aF<|v _ _ ⟨Z,.inl ⟨_,rfl,sP m5 e4⟩⟩
     .refine sf (c:=(o==1)=Qo) ⇑e4 ?_;by_cases e6:o=0
      .refine r_ (c:=(o==0)=Qo) ⇑e6 ?_;exact aF<|v _ _ ⟨Z,.inl ⟨_,rfl,rh m5<|.inr e6⟩⟩
      .refine sf (c:=(o==0)=Qo) ⇑e6 ?_;have f5:2<=o:=by lia
       have m6:=Et m5 sa lx yG;refine az<|rj gx ?_;by_cases e5:n=0
       .refine r_ (c:=(n==0)=Qo) ⇑e5 ?_;exact aF<|v _ _ ⟨Z,.inl ⟨_,rfl,rh m6<|.inl e5⟩⟩
       .refine sf (c:=(n==0)=Qo) ⇑e5 ?_;split
        .exact aF (v _ _ ⟨Z,.inr ⟨n,o,_,_,_,_,rfl,m6,(by lia:1<=n),(by lia:n<=a.size),f5,(by lia:o<=b.size),aP (by lia:t.size<=pW.size+1+1)<|EB n5⟩⟩)
        .exact aF (gY _ _ ⟨Z,n,o,_,_,_,_,rfl,m6,(by lia:1<=n),(by lia:n<=a.size),f5,(by lia:o<=b.size),aP (by lia:t.size+(j+1)<=pW.size+1+1)<|EB n5⟩)
    .have uc:o=r:=by lia
     subst uc;refine sf (c:=o-o>0) rF ?_;have f5:2<=o:=by lia
     replace m5:=m4
     replace n5:pW.size+1<=(pW.push y).size:=by rw[bZ];exact ay _
     have m6:=Et m5 sa lx yG;refine az<|rj gx ?_;by_cases e5:n=0
     .refine r_ (c:=(n==0)=Qo) ⇑e5 ?_;exact aF<|v _ _ ⟨Z,.inl ⟨_,rfl,rh m6<|.inl e5⟩⟩
     .refine sf (c:=(n==0)=Qo) ⇑e5 ?_;split
      .exact aF (v _ _ ⟨Z,.inr ⟨n,o,_,_,_,_,rfl,m6,(by lia:1<=n),(by lia:n<=a.size),f5,(by lia:o<=b.size),aP (by lia:t.size<=pW.size+1+1)<|EB n5⟩⟩)
      .exact aF (gY _ _ ⟨Z,n,o,_,_,_,_,rfl,m6,(by lia:1<=n),(by lia:n<=a.size),f5,(by lia:o<=b.size),aP (by lia:t.size+(j+1)<=pW.size+1+1)<|EB n5⟩)
  .rintro c o5 ⟨sI,d,f,G,L,B,C,rfl,m,M,N,O,S,c6⟩;have:=m.len;rw[aw] at this;rw[dq] at c6;lia
  .exact⟨sm,d,f,t,_,B,C,rfl,m,M,N,O,S,by lia⟩
  rintro c o5 ⟨sI,h⟩;rcases h with⟨r,e,hr⟩|⟨d,f,G,L,B,C,rfl,m,M,N,O,S,c7⟩
  .obtain⟨c,c'⟩:=c;dsimp only at e;subst e;exact aF<|v _ _ ⟨sI,r,rfl,hr⟩
  .exact az<|eQ (aF<|gY _ _ ⟨⟨sI.kind,sI.arr,sI.pend,sI.failed⟩,d,f,G,_,rfl,m,M,N,O,S,by lia⟩)
 .rintro c pP ⟨sm,d,f,l,L,rfl,m,M,N,O,S,c5⟩;have:=m.len;rw[aw] at this;rw[dq] at c5;lia
 .exact⟨nF.refl st,a.size-1,b.size,#[x0],_,rfl,m0,by lia,by lia,by lia,by lia,by simp⟩
 .rintro⟨c,c'⟩ pP ⟨sm,r,e,hr⟩;dsimp only at e;subst e;exact aF<|q r pP sm hr
end
theorem Ls(p:Nat):∀(m:List a9)(j:Nat)(b:Array a9),p+j+m.length<=b.size->((m.zipIdx j).foldl (λa x=>a.setIfInBounds (p+x.2) x.1) b).toList=b.toList.take (p+j)++m++b.toList.drop (p+j+m.length)
 |[],j,b,_=>by simp
 | x::m,j,b,h=>by
  rw[a7] at h;rw[mm,fZ,Ls p m (j+1) _ (by rw[jG];lia),je,<- le];have c:p+j<b.toList.length:=by rw[aw];lia
  have d:(b.toList.set (p+j) x).take (p+j+1)=b.toList.take (p+j)++[x]:=by
   rw[kH,aX c,List.take_set_of_le<|ay _];rfl
  rw[d,List.drop_set_of_lt 'd',a7,bd,bd,bd];have:p+j+1+m.length=p+j+(m.length+1):=by lia
  rw[this];rfl
def VE(h:p+m.length<=xs.size):(lay xs p m).toList=xs.toList.take p++m++xs.toList.drop (p+m.length):=Ls p m 0 xs h
section
variable{prog:aE}{w:aG}{A:aY}{E:ae->aj->Prop}{s:aj}{κ:aT}{st:bS}{kd:KT}
def Th(L:tU prog w A s κ kd)(t:kindOf st=kd)(T:failedOf st=Qn)(d:(Qw st).toList=P++(X++(Y++R)))(h1:(Qz st)[i]?=Qg (P.length,X.length,pw))(h2:(Qz st)[i+1]?=Qg (P.length+X.length,Y.length,Fi))
  (N:1<=X.length) (U:1<=Y.length) (C:pA κ X) (G:pA κ Y) (H:∀x∈X++Y,rG κ x) {Q:Bool->bS->Prop}
  (q:∀b M,kindOf b=kd->failedOf b=Qn->Qz b=((Qz st).setIfInBounds i (P.length,X.length+Y.length,pw)).eraseIdxIfInBounds (i+1)->(Qw b).toList=P++(M++R)->M.Perm (X++Y)->pA κ M->Q Qo b):wpS (aq prog w) A E s (mergeAt' i) Q st:=by
 have I:(Qw st).size=P.length+(X.length+(Y.length+R.length)):=by
  rw[<- aw,d];simp
 have Z:∀x∈X,rG κ x:=λx h=>H x<|cr _ h;have zE:∀x∈Y,rG κ x:=λx h=>H x<|ax _ h;have f:∀(j:Nat)(x:a9),(P++(X++(Y++R)))[j]?=Qg x->(Qw st)[j]?=Qg x:=λj x h=>by
  rw[<- d] at h;rw[<- h];simp
 obtain⟨g,O⟩:∃g,Y[0]?=Qg g:=⟨Y[0],aB _⟩;have gb:(Qw st)[P.length+X.length]?=Qg g:=f _ _ (by
  rw[bh 'd',dE,bh<|ay _,lJ,aD 'd'];exact O)
 have dX:((Qw st).toList.drop P.length).take X.length=X:=by rw[d];simp
 have dY:((Qw st).toList.drop<|P.length+X.length).take Y.length=Y:=by rw[d,<- bd,d6 'k',<- aI];simp
 have hkb:=zE g<|aR O;have IU:∀y∈Y,Le κ g y:=λy h=>Ai G O y ⇑h;refine(nX.at_ nY) h1 h2 gb ?_;refine Aq (base:=P.length) (n:=X.length) (hint:=0) L dX ?_ hkb 'd' 'd' Z C ?_
 .exact t
 refine λk vJ kt kf=>⟨k,rfl,λrF=>?_,λrF=>?_⟩
 .have hkX:k=X.length:=by lia
  refine q _ (X++Y) t T rfl (by show(Qw st).toList=_;rw[d,bd]) (eo _) ?_;unfold pA;rw[bT];refine⟨C,G,λx h y c=>Le.trans ?_<|IU y c⟩;have:=kt x (by rw[hkX,List.take_length];exact h);unfold rM at this;rw[Qu 'b'] at this;unfold Le;simpa using this
 have IT:∀x∈X.take k,Le κ x g:=λx h=>by
  have:=kt x h;unfold rM at this;rw[Qu 'b'] at this;unfold Le;simpa using this
 have P7:∀x∈X.drop k,Le κ g x:=λx h=>by
  have:=kf x h;unfold rM at this;rw[Qu 'b'] at this;exact Le.of ⇑this
 obtain⟨l,S⟩:∃l,X[X.length-1]?=Qg l:=⟨X[X.length-1],aB _⟩;have ga:(Qw st)[P.length+k+(X.length-k)-1]?=Qg l:=f _ _ (by
  have:P.length+k+(X.length-k)-1=P.length+(X.length-1):=by lia
  rw[this,bh 'd',dE,aD 'd'];exact S)
 have hka:=Z l<|aR S;have QO:∀x∈X,Le κ x l:=λx h=>By C S x (by rw[cy 'd'];exact h);refine⟨l,ga,?_⟩;refine Aq (base:=P.length+X.length) (n:=Y.length) (hint:=Y.length-1) L dY ?_ hka 'd' 'd' zE G ?_
 .exact t
 refine λm hm mt mf=>⟨m,rfl,λQj=>?_,λQj=>?_⟩
 .refine q _ (X++Y) t T rfl (by show(Qw st).toList=_;rw[d,bd]) (eo _) ?_;unfold pA;rw[bT];refine⟨C,G,λx h y c=>Le.trans (QO x h) ?_⟩;have:=mf y (by rw[Qj];exact c);unfold rM at this;rw[Qs rfl] at this;exact this
 have P0:∀y∈Y.take m,Le κ y l:=λy h=>by
  have:=mt y h;unfold rM at this;rw[Qs rfl] at this;exact Le.of this
 have P4:∀y∈Y.drop m,Le κ l y:=λy h=>by
  have:=mf y h;unfold rM at this;rw[Qs rfl] at this;exact this
 have u:((Qw st).extract (P.length+k)<|P.length+X.length).toList=X.drop k:=by
  simp only[kU,jw];rw[d,<- dO,mL,d6 vJ];have:P.length+X.length-(P.length+k)=(X.drop k).length:=by rw[bR];lia
  rw[this,mM]
 have v:((Qw st).extract (P.length+X.length)<|P.length+X.length+m).toList=Y.take m:=by
  rw[GJ];rw[<- dY,fA,fh hm]
 have szX:((Qw st).extract (P.length+k)<|P.length+X.length).size=X.length-k:=by rw[<- aw,u,bR]
 have szY:((Qw st).extract (P.length+X.length)<|P.length+X.length+m).size=m:=by rw[<- aw,v,bK];lia
 have J:∀(B:Array a9)(o:bS),nF (setPending st (((Qz st).setIfInBounds i (P.length,X.length+Y.length,pw)).eraseIdxIfInBounds<|i+1)) o->Out κ (X.drop k) (Y.take m) B.toList->Q (failedOf o).isNone (setArr o<|lay (Qw o) (P.length+k) B.toList):=λB o p a=>by
  have Qi:B.toList.length=(X.length-k)+m:=by rw[a.perm.length_eq,aI,bR,bK];lia
  have AN:failedOf o=Qn:=p.failed.trans T;rw[AN];have tz:Qw o=Qw st:=p.arr;refine q _ (X.take k++(B.toList++Y.drop m)) (p.kind.trans t) AN p.pend ?_ ?_ ?_
  .show(lay (Qw o) (P.length+k) B.toList).toList=_;rw[tz,VE (by rw[Qi,I];lia),d,Qi];have e1:(P++(X++(Y++R))).take (P.length+k)=P++X.take k:=by
    rw[List.take_append,cy 'd',dE,List.take_append_of_le_length vJ]
   have e2:(P++(X++(Y++R))).drop (P.length+k+(X.length-k+m))=Y.drop m++R:=by
    have:P.length+k+(X.length-k+m)=(P++X).length+m:=by rw[aI];lia
    rw[this,<- bd,<- dO,mL,d6 hm]
   rw[e1,e2];simp
  .conv=>rhs;rw[<- ci k X,<- ci m Y]
   rw[bd];refine eE _ ?_;rw[<- bd];exact a.perm.append_right _
  .unfold pA;rw[bT,bT];have Cq:∀z∈B.toList,z∈X.drop k\/z∈Y.take m:=λz hz=>aO.mp<|a.perm.mem_iff.mp hz;refine⟨C.sublist<|cI k X,⟨a.srt,G.sublist<|cP m Y,λz hz y U=>?_⟩,λx N z hz=>?_⟩
   .rcases Cq z hz with h|h
    .exact(QO z<|cM h).trans (P4 y U)
    .exact(P0 z h).trans (P4 y U)
   .rcases aO.mp hz with hz|hz
    .rcases Cq z hz with h|h
     .exact(IT x N).trans (P7 z h)
     .exact(IT x N).trans (IU z<|cu h)
    .exact(IT x N).trans (IU z<|cM hz)
 have p1:∀x∈((Qw st).extract (P.length+k)<|P.length+X.length).toList,rG κ x:=by rw[u];exact λx h=>Z x<|cM h
 have p2:∀x∈((Qw st).extract (P.length+X.length)<|P.length+X.length+m).toList,rG κ x:=by rw[v];exact λx h=>zE x<|cu h
 have p3:pA κ ((Qw st).extract (P.length+k)<|P.length+X.length).toList:=by rw[u];exact C.sublist<|cP k X
 have p4:pA κ ((Qw st).extract (P.length+X.length)<|P.length+X.length+m).toList:=by rw[v];exact G.sublist<|cI m Y
 have p5:∀x∈((Qw st).extract (P.length+X.length)<|P.length+X.length+m).toList.take 1,∀y∈((Qw st).extract (P.length+k)<|P.length+X.length).toList,Le κ x y:=by
  rw[u,v,fA];intro x h y c;have:x=g:=by
   rw[fh 'd'] at h;have e:=yB O;rw[kI] at e;rw[e] at h;simpa using h
  rw[this];exact P7 y c
 have p6:∀y∈((Qw st).extract (P.length+X.length)<|P.length+X.length+m).toList,∀x∈((Qw st).extract (P.length+k)<|P.length+X.length).toList.drop (((Qw st).extract (P.length+k)<|P.length+X.length).size-1),Le κ y x:=by
  rw[u,v,szX,dO];intro y h x c;have:k+(X.length-k-1)=X.length-1:=by lia
  rw[this] at c;have e:=yB S;rw[cy (by rw[bR];lia)] at e;rw[e] at c;rw[cz.mp c];exact P0 y h
 by_cases hc:X.length-k<=m
 .rw[Qs hc];refine Sn L ?_ p1 p2 p3 p4 'd' 'd' p5 p6 λr b p a=>J r b p (by rw[u,v] at a;exact a);exact t
 .rw[Qu hc];refine Tb L ?_ p1 p2 p3 p4 'd' 'd' p5 p6 λr b p a=>J r b p (by rw[u,v] at a;exact a);exact t
end
def KS{G:Prop}{H:bS->Prop}(P:bS->Prop)(h:(∀x,H x->P x)->G)(k:∀x,H x->P x):G:=h k
structure Rl(qi:bS)(lo:Nat)(st:bS):Prop where
 perm:(Qw st).Perm (Qw qi)
 kind:kindOf st=kindOf qi
 failed:failedOf st=failedOf qi
 pend:Qz st=Qz qi
 fix:∀i,i<lo->(Qw st)[i]?=(Qw qi)[i]?
def Rl.refl(a:bS)(b:Nat):Rl a b a:=⟨iw _,rfl,rfl,rfl,λ_ _=>rfl⟩
def Rl.size{a b:bS}{c:Nat}(r:Rl a c b):(Qw b).size=(Qw a).size:=r.perm.size_eq
def Rl.rev{b a:bS}{c i j:Nat}(r:Rl b c a)(h:c<=i)(d:j<=(Qw b).size):Rl b c (setArr a (mirror (Qw a) i j<|(j-i)/2)):=by refine⟨(mirror_perm _ _ _ _).trans r.perm,r.kind,r.failed,r.pend,λk e=>?_⟩;show(mirror (Qw a) i j<|(j-i)/2)[k]?=_;rw[getElem?_mirror_all (by rw[r.size];exact d),Qu 'd'];exact r.fix k e
section
variable{prog:aE}{w:aG}{A:aY}{E:ae->aj->Prop}{s:aj}{κ:aT}{qi st:bS}{lo:Nat}{kd:KT}
def Up(κ:aT)(xs:Array a9)(lo n:Nat):Prop:=∀i j,lo<=i->i<=j->j<lo+n->κ.kle (KK κ xs i) (KK κ xs j)
def Dn(κ:aT)(xs:Array a9)(lo n:Nat):Prop:=∀i j,lo<=i->i<=j->j<lo+n->κ.kle (KK κ xs j) (KK κ xs i)
def yA(a:κ.α):κ.kle a a:=κ.irrefl a
def Up.step(h:Up κ xs lo n)(f:1<=n)(a:κ.kle (KK κ xs<|lo+n-1) (KK κ xs<|lo+n)):Up κ xs lo (n+1):=λi j b c g=>by
 by_cases e:j=lo+n
 .subst e;by_cases d:i=lo+n
  .subst d;exact yA _
  .exact g7 (h i (lo+n-1) b 'd' 'd') a
 .exact h i j b c 'd'
def Dn.step(h:Dn κ xs lo n)(f:1<=n)(a:κ.kle (KK κ xs<|lo+n) (KK κ xs<|lo+n-1)):Dn κ xs lo (n+1):=λi j b c g=>by
 by_cases e:j=lo+n
 .subst e;by_cases d:i=lo+n
  .subst d;exact yA _
  .exact g7 a<|h i (lo+n-1) b 'd' 'd'
 .exact h i j b c 'd'
def Up.one(a:Array a9):Up κ a lo 1:=λi j d e f=>by
 have b:i=lo:=by lia
 have c:j=lo:=by lia
 rw[b,c];exact yA _
def Dn.one(a:Array a9):Dn κ a lo 1:=λi j d e f=>by
 have b:i=lo:=by lia
 have c:j=lo:=by lia
 rw[b,c];exact yA _
def Bz(f:tU prog w A s κ kd)(a:∀x∈(Qw qi).toList,rG κ x)(g:kindOf qi=kd)(r:Rl qi lo st)(b:i<(Qw qi).size)(c:j<(Qw qi).size)(q:Q (Qg (κ.blt (KK κ (Qw st) i)<|KK κ (Qw st) j)) st):wpS (aq prog w) A E s (ltAt' i j) Q st:=by
 rw[<- r.size] at b c;obtain⟨x,d,h⟩:=uL b;obtain⟨y,e,k⟩:=uL c;have l:=a x ((cX.mp r.perm).mem_iff.mp<|aR h);have m:=a y ((cX.mp r.perm).mem_iff.mp<|aR k);have n:KK κ (Qw st) i=ky κ x:=by unfold KK ky;rw[d]
 have o:KK κ (Qw st) j=ky κ y:=by unfold KK ky;rw[e]
 rw[n,o] at q;rw[ltAt'_eq];exact az (fV<|az (rj d<|az (rj e<|Bt f (r.kind.trans g) l m q)))
def Up.rev(d:Dn κ xs lo m)(h:lo+m<=xs.size):Up κ (mirror xs lo (lo+m)<|(lo+m-lo)/2) lo m:=λi j a b c=>by
 rw[KK_mirror h,KK_mirror h,Qs 'd',Qs 'd'];exact d _ _ 'd' 'd' 'd'
set_option hygiene false in
local macro_rules|`(tactic| walk_at "asc")=>`(tactic| (
 refine az<|dW (dI (I:=λk c d_=>d_=pP/\∃ n,c=(none,n)/\n=k/\1<=n/\n<=nrem/\Up κ (arrOf pP) lo n) (Q:=λc d_=>d_=pP/\∃ n,c=(none,n)/\1<=n/\n<=nrem/\Up κ (arrOf pP) lo n/\(n=nrem\/κ.blt (KK κ (arrOf pP)<|lo+n) (KK κ (arrOf pP)<|lo+n-1)=true)) ?_ ?_ ?_) ?_
 .rintro k c d_ h1 h2 ⟨rfl,n,rfl,rfl,g1,g2,g3⟩
  refine az (Bz (i:=lo+n) (j:=lo+n-1) ho hs hk r1 (by lia) (by lia) ?_)
  cases e:κ.blt (KK κ (arrOf d_)<|lo+n) (KK κ (arrOf d_)<|lo+n-1) with
  | true=>exact aF ⟨rfl,n,rfl,g1,g2,g3,.inr e⟩
  | false=>exact aF ⟨rfl,n+1,rfl,rfl,by lia,by lia,g3.step (by lia) e⟩
 .rintro c d_ ⟨rfl,n,rfl,e,g1,g2,g3⟩
  exact⟨rfl,n,rfl,g1,g2,g3,.inl (by lia)⟩
 .exact⟨rfl,_,rfl,rfl,CL,Qh,u1⟩))
def Wb(ho:tU prog w A s κ kd)(hs:∀x∈(Qw qi).toList,rG κ x)(hk:kindOf qi=kd){nrem:Nat}(Qh:1<=nrem)(hN:lo+nrem<=(Qw qi).size){pP:bS}(r1:Rl qi lo pP){Q:Option Nat->bS->Prop}(q:∀m d_,Rl qi lo d_->1<=m->m<=nrem->Up κ (Qw d_) lo m->Q (Qg m) d_):wpS (aq prog w) A E s (countRun' lo nrem) Q pP:=by
 rw[countRun'_eq];have u1:Up κ (Qw pP) lo 1:=Up.one _;have CL:1<=1:=ay _;walk_at "asc";rintro c d_ ⟨rfl,n1,rfl,g1,g2,g3,g4⟩;show wpS _ _ _ _ (if (n1==nrem)=Qo then _ else _) Q d_;by_cases e0:n1=nrem
 .rw[Qs ⇑e0];exact aF<|q n1 d_ r1 g1 g2 g3
 rw[Qu ⇑e0];have qt:κ.blt (KK κ (Qw d_)<|lo+n1) (KK κ (Qw d_)<|lo+n1-1)=Qo:=by
  rcases g4 with h|h
  .exact absurd h e0
  .exact h
 apply KS (H:=λpC=>Rl qi lo pC/\Dn κ (Qw pC) lo (n1+1));intro key;show wpS _ _ _ _ (if n1>1 then _ else _) Q d_;by_cases hc:n1>1
 .rw[Qs hc];refine az<|Bz ho hs hk r1 'd' 'd' ?_;cases e:κ.blt (KK κ (Qw d_) lo) (KK κ (Qw d_)<|lo+n1-1) with
  |true=>exact aF<|q n1 d_ r1 g1 g2 g3
  | false=>
   refine az<|kh ?_;have r2:=r1.rev (j:=lo+n1) (ay lo) 'd';have all:∀k,lo<=k->k<lo+n1->KK κ (Qw d_) k=KK κ (Qw d_) (lo+n1-1):=λk a b=>
    KeyOrd.kle_antisymm (g3 k (lo+n1-1) a 'd' 'd') (g7 (show κ.kle (KK κ (Qw d_)<|lo+n1-1) (KK κ (Qw d_) lo) from e)<|g3 lo k (ay _) a b)
   have kk:=jX (j:=lo+n1) (by rw[r1.size];lia) all;have d2:Dn κ (Qw<|setArr d_ (mirror (Qw d_) lo (lo+n1)<|(lo+n1-lo)/2)) lo (n1+1):=by
    show Dn κ (mirror (Qw d_) lo (lo+n1)<|(lo+n1-lo)/2) lo (n1+1);refine Dn.step (λi j a b c=>?_) g1 ?_
    .rw[kk,kk,all i a 'd',all j 'd' c];exact yA _
    .rw[kk,kk];exact fv qt
   generalize setArr d_ (mirror (Qw d_) lo (lo+n1)<|(lo+n1-lo)/2)=pC at *;exact key _ ⟨r2,d2⟩
 .rw[Qu hc];refine key _ ⟨r1,?_⟩;have e1:n1=1:=by lia
  subst e1;exact Dn.step (Dn.one _) (ay _)<|fv qt
 rintro pC ⟨r2,d2⟩;refine az (iO<|dh ⟨rfl,az<|dW (dI (I:=λk c d_=>Rl qi lo d_/\∃n q_,c=(Qn,n,q_)/\n=k/\n<=nrem/\Dn κ (Qw d_) lo n/\q_+1<=n/\(∀i,lo+n-(q_+1)<=i->i<lo+n->KK κ (Qw d_) i=KK κ (Qw d_) (lo+n-1))) (Q:=λc d_=>Rl qi lo d_/\∃n q_,c=(Qn,n,q_)/\n<=nrem/\Dn κ (Qw d_) lo n/\q_+1<=n/\(∀i,lo+n-(q_+1)<=i->i<lo+n->KK κ (Qw d_) i=KK κ (Qw d_) (lo+n-1))) ?_ ?_ ?_) ?_⟩)
 .rintro k c o5 h1 h2 ⟨r3,n,q_,rfl,rfl,g2,g3,g4,g5⟩;refine az<|Bz (i:=lo+n) (j:=lo+n-1) ho hs hk r3 'd' 'd' ?_;cases e:κ.blt (KK κ (Qw o5)<|lo+n) (KK κ (Qw o5)<|lo+n-1) with
  | true=>
   show wpS _ _ _ _ (if q_>0 then _ else _) _ o5;by_cases hq:q_>0
   .rw[Qs hq];refine az (kh<|aF ⟨r3.rev (i:=lo+n-(q_+1)) (j:=lo+n) 'd' 'd',n+1,0,rfl,rfl,by lia,?_,by lia,?_⟩)
    .have kk:=jX (by rw[r3.size];lia) λk a b=>g5 k a b;have d:Dn κ (mirror (Qw o5) (lo+n-(q_+1)) (lo+n)<|(lo+n-(lo+n-(q_+1)))/2) lo n:=λi j a b c=>by rw[kk,kk];exact g3 i j a b c
     refine d.step 'd' ?_;rw[kk,kk];exact fv e
    .intro i a b;have:i=lo+(n+1)-1:=by lia
     rw[this]
   .rw[Qu hq];refine aF ⟨r3,n+1,0,rfl,rfl,by lia,g3.step 'd'<|fv e,by lia,?_⟩;intro i a b;have:i=lo+(n+1)-1:=by lia
    rw[this]
  | false=>
   refine az<|Bz (i:=lo+n-1) (j:=lo+n) ho hs hk r3 'd' 'd' ?_;cases e':κ.blt (KK κ (Qw o5)<|lo+n-1) (KK κ (Qw o5)<|lo+n) with
   |true=>exact aF ⟨r3,n,q_,rfl,g2,g3,g4,g5⟩
   | false=>
    have eq:KK κ (Qw o5) (lo+n)=KK κ (Qw o5) (lo+n-1):=κ.total _ _ e e';refine aF ⟨r3,n+1,q_+1,rfl,rfl,by lia,g3.step 'd' e',by lia,?_⟩;intro i a b;have:lo+(n+1)-1=lo+n:=by lia
    rw[this];by_cases hi:i=lo+n
    .rw[hi]
    .rw[eq];exact g5 i 'd' 'd'
 .rintro c o5 ⟨r3,n,q_,rfl,e,g2,g3,g4,g5⟩;exact⟨r3,n,q_,rfl,g2,g3,g4,g5⟩
 .exact⟨r2,n1+1,0,rfl,rfl,by lia,d2,by lia,λi a b=>by
   have:i=lo+(n1+1)-1:=by lia
   rw[this]⟩
 .rintro c o5 ⟨r3,n0,q_,rfl,Qh,g3,g4,g5⟩;have CL:1<=n0:=by lia
  apply KS (H:=λpS=>Rl qi lo pS/\Dn κ (Qw pS) lo n0);intro key;show wpS _ _ _ _ (if q_>0 then _ else _) Q o5;by_cases hq:q_>0
  .rw[Qs hq];refine az<|kh ?_;have r4:=r3.rev (i:=lo+n0-(q_+1)) (j:=lo+n0) 'd' 'd';have kk:=jX (j:=lo+n0) (by rw[r3.size];lia) λk a b=>g5 k a b;have d4:Dn κ (Qw<|setArr o5 (mirror (Qw o5) (lo+n0-(q_+1)) (lo+n0)<|(lo+n0-(lo+n0-(q_+1)))/2)) lo n0:=λi j a b c=>by
    show κ.kle (KK κ (mirror _ _ _ _) j) (KK κ (mirror _ _ _ _) i);rw[kk,kk];exact g3 i j a b c
   generalize setArr o5 (mirror (Qw o5) (lo+n0-(q_+1)) (lo+n0)<|(lo+n0-(lo+n0-(q_+1)))/2)=pS at *;exact key _ ⟨r4,d4⟩
  .rw[Qu hq];exact key _ ⟨r3,g3⟩
  rintro pS ⟨r4,d4⟩;refine az<|kh ?_;have r1:=r4.rev (j:=lo+n0) (ay lo) 'd';have u1:Up κ (Qw<|setArr pS (mirror (Qw pS) lo (lo+n0)<|(lo+n0-lo)/2)) lo n0:=Up.rev d4 (by rw[r4.size];lia);generalize setArr pS (mirror (Qw pS) lo (lo+n0)<|(lo+n0-lo)/2)=pP at *;walk_at "asc"
  .rintro c d_ ⟨rfl,n,rfl,g1,g2,g3,_⟩;exact aF<|q n _ r1 g1 g2 g3
end
section
variable{prog:aE}{w:aG}{A:aY}{E:ae->aj->Prop}{s:aj}{κ:aT}{qi:bS}{lo:Nat}{kd:KT}
def Uy(M:tU prog w A s κ kd)(N:∀x∈(Qw qi).toList,rG κ x)(O:kindOf qi=kd)(P:1<=ok)(hn:ok<=n)(hN:lo+n<=(Qw qi).size)(S:Rl qi lo pP)(T:Up κ (Qw pP) lo ok)(q:∀f,Rl qi lo f->Up κ (Qw f) lo n->Q Qo f):wpS (aq prog w) A E s (binarySort' lo n ok) Q pP:=by
 rw[binarySort'_eq];refine az<|dW (dI (I:=λk c f=>Rl qi lo f/\c=(Qn,())/\1<=k/\Up κ (Qw f) lo k) (Q:=λc f=>Rl qi lo f/\c=(Qn,())/\Up κ (Qw f) lo n) ?_ ?_ ?_) ?_
 .rintro k c g _ vJ ⟨h,rfl,U,m⟩;refine az<|dW (dI (I:=λj c f=>f=g/\∃l r,c=(Qn,l,r)/\l<=r/\r<=k/\r-l<=k-j/\(∀i,i<l->κ.kle (KK κ (Qw g)<|lo+i) (KK κ (Qw g)<|lo+k))/\(∀i,r<=i->i<k->κ.blt (KK κ (Qw g)<|lo+k) (KK κ (Qw g)<|lo+i)=Qo)) (Q:=λc f=>f=g/\∃l,c=(Qn,l,l)/\l<=k/\(∀i,i<l->κ.kle (KK κ (Qw g)<|lo+i) (KK κ (Qw g)<|lo+k))/\(∀i,l<=i->i<k->κ.blt (KK κ (Qw g)<|lo+k) (KK κ (Qw g)<|lo+i)=Qo)) ?_ ?_ ?_) ?_
  .rintro j c d _ hj ⟨rfl,l,r,rfl,Y,u,y,o,p⟩;show wpS _ _ _ _ (if l ≥ r then _ else _) _ d;by_cases B:l ≥ r
   .rw[Qs B];have:l=r:=by lia
    subst this;exact aF ⟨rfl,l,rfl,u,o,p⟩
   .rw[Qu B];refine az<|Bz (i:=lo+k) (j:=lo+(l+r)/2) M N O h 'd' 'd' ?_;cases e:κ.blt (KK κ (Qw d)<|lo+k) (KK κ (Qw d)<|lo+(l+r)/2) with
    |true=>exact aF ⟨rfl,l,(l+r)/2,rfl,by lia,by lia,by lia,o,λi v Z=>KeyOrd.klt_of_klt_of_kle e<|m _ _ 'd' 'd' 'd'⟩
    |false=>exact aF ⟨rfl,(l+r)/2+1,r,rfl,by lia,by lia,by lia,λi v=>g7 (m _ (lo+(l+r)/2) 'd' 'd' 'd') e,p⟩
  .rintro c d ⟨rfl,l,r,rfl,Y,u,y,o,p⟩;rw[dq] at y;have:l=r:=by lia
   subst this;exact⟨rfl,l,rfl,u,o,p⟩
  .exact⟨rfl,0,k,rfl,by lia,by lia,by lia,λi v=>by lia,λi P h2=>by lia⟩
  .rintro c d ⟨rfl,l,rfl,u,o,p⟩;show wpS (aq prog w) A E s (moveDown' (lo+k) (lo+l) >>= _) _ d;rw[moveDown'_eq];have C:lo+k<(Qw d).size:=by rw[h.size];lia
   have ed:lo+k-(lo+l)=k-l:=by lia
   refine az (eQ<|aF ⟨⟨(bubble_perm _ _ _).trans h.perm,h.kind,h.failed,h.pend,λi v=>?_⟩,rfl,by lia,?_⟩)
   .show(bubble (Qw d) (lo+k)<|lo+k-(lo+l))[i]?=_;rw[getElem?_bubble C _ 'd',Qu 'd',Qu 'd'];exact h.fix i v
   .show Up κ (bubble (Qw d) (lo+k)<|lo+k-(lo+l)) lo (k+1);have G:∀x,KK κ (bubble (Qw d) (lo+k)<|lo+k-(lo+l)) x=if x=lo+l then KK κ (Qw d) (lo+k) else if lo+l<x/\x<=lo+k then KK κ (Qw d) (x-1) else KK κ (Qw d) x:=λx=>by
     rw[KK_bubble C 'd'];have:lo+k-(lo+k-(lo+l))=lo+l:=by lia
     rw[this]
    have IL:∀x,lo<=x->x<lo+l->κ.kle (KK κ (Qw d) x) (KK κ (Qw d)<|lo+k):=λx a b=>by
     have:=o (x-lo) 'd';rw[show lo+(x-lo)=x by lia] at this;exact this
    have CU:∀x,lo+l<=x->x<lo+k->κ.kle (KK κ (Qw d)<|lo+k) (KK κ (Qw d) x):=λx a b=>by
     have:=p (x-lo) 'd' 'd';rw[show lo+(x-lo)=x by lia] at this;exact fv this
    intro i j a b c;rw[G i,G j];by_cases H:i=lo+l
    .rw[Qs H];by_cases t:j=lo+l
     .rw[Qs t];exact yA _
     .rw[Qu t,Qs 'd'];exact CU (j-1) 'd' 'd'
    .rw[Qu H];by_cases J:lo+l<i/\i<=lo+k
     .rw[Qs J,Qu 'd',Qs 'd'];exact m _ _ 'd' 'd' 'd'
     .rw[Qu J];by_cases t:j=lo+l
      .rw[Qs t];exact IL i a 'd'
      .rw[Qu t];by_cases L:lo+l<j/\j<=lo+k
       .rw[Qs L];exact m _ _ a 'd' 'd'
       .rw[Qu L];exact m _ _ a b 'd'
 .rintro c g ⟨h,rfl,U,m⟩;rw[show max (max ok 1) n=n by lia] at m;exact⟨h,rfl,m⟩
 .exact⟨S,rfl,by lia,by rw[show max ok 1=ok by lia];exact T⟩
 .rintro c g ⟨h,rfl,m⟩;exact aF<|q g h m
end
def sF:Nat->List (List a9)->List (Nat×Nat)
 |_,[]=>[]
 |b,X::S=>(b,X.length)::sF (b+X.length) S
theorem ES:∀(S T:List (List a9))(b:Nat),sF b (S++T)=sF b S++sF (b+S.flatten.length) T
 |[],T,b=>by simp[sF]
 | X::S,T,b=>by
  rw[jD,sF,sF,jD,ES S T,jp,aI,le]
theorem zb:∀(S:List (List a9))(b:Nat),(sF b S).length=S.length
 |[],_=>rfl
 |X::S,b=>by rw[sF,a7,zb S,a7]
def se(t:Nat×Nat×Nat):Nat×Nat:=(t.1,t.2.1)
structure Pn(κ:aT)(kd:KT)(L0:List a9)(st:bS)(lo:Nat)(S:List (List a9))(R:List a9):Prop where
 arr:(Qw st).toList=S.flatten++R
 lo:S.flatten.length=lo
 pend:(Qz st).toList.map se=sF 0 S
 ne:∀X∈S,1<=X.length
 srt:∀X∈S,pA κ X
 kind:kindOf st=kd
 failed:failedOf st=Qn
 perm:(Qw st).toList.Perm L0
def Pn.size{κ:aT}{kd:KT}{b:List a9}{a:bS}{c:Nat}{S:List (List a9)}{R:List a9}(h:Pn κ kd b a c S R):(Qz a).size=S.length:=by have:=congrArg j5 h.pend;rw[aW,aw,zb] at this;exact this
theorem Mx:∀(S:List (List a9)),(∀X∈S,1<=X.length)->S.length<=S.flatten.length
 |[],_=>by simp
 | X::S,h=>by
  rw[jp,aI,a7];have:=h X aL;have:=Mx S λY a=>h Y<|ar _ a;lia
theorem NF{α:Type}:∀(S:List α)(i:Nat),i+1<S.length->∃a X Y b,S=a++X::Y::b/\a.length=i
 |[],i,h=>by simp at h
 |[_],i,h=>by simp at h
 |X::Y::S,0,_=>⟨[],X,Y,S,rfl,rfl⟩
 | X::Y::S,i+1,h=>by
  obtain⟨a,A,B,b,e,l⟩:=NF (Y::S) i ⇑h;exact⟨X::a,A,B,b,by rw[e];rfl,by simp[l]⟩
theorem NP{α β:Type}(f:α->β):∀(l:List α)(i:Nat),(l.eraseIdx i).map f=(l.map f).eraseIdx i
 |[],_=>rfl
 |_::_,0=>rfl
 |x::l,i+1=>by simp[NP f l i]
section
variable{prog:aE}{w:aG}{A:aY}{E:ae->aj->Prop}{s:aj}{κ:aT}{L0:List a9}{st:bS}{lo:Nat}{kd:KT}
def LL(L:tU prog w A s κ kd)(N:∀x∈L0,rG κ x)(p:Pn κ kd L0 st lo S R)(O:i+1<S.length)(q:∀g r,Pn κ kd L0 g lo r R->r.length+1=S.length->Q Qo g):wpS (aq prog w) A E s (mergeAt' i) Q st:=by
 obtain⟨c,X,Y,d,rfl,j⟩:=NF S i O;have l:=p.pend;rw[ES,sF,sF,lK] at l;have u:∀k a b,(sF 0 c++(c.flatten.length,X.length)::(c.flatten.length+X.length,Y.length)::sF (c.flatten.length+X.length+Y.length) d)[k]?=Qg (a,b)->∃v,(Qz st)[k]?=Qg (a,b,v):=λk a b h=>by
  rw[<- l,bE] at h;have P:(Qz st)[k]?=(Qz st).toList[k]?:=by simp
  cases e:(Qz st).toList[k]? with
  |none=>rw[e] at h;cases h
  | some t=>
   rw[e] at h;obtain⟨x,y,z⟩:=t;injection h with h;unfold se at h;injection h with h1 h2;dsimp only at h1 h2;exact⟨z,by rw[P,e,h1,h2]⟩
 obtain⟨v,B⟩:=u i c.flatten.length X.length (by rw[bh (by rw[zb];lia),zb,j,lJ];rfl);obtain⟨Fi,C⟩:=u (i+1) (c.flatten.length+X.length) Y.length (by rw[bh (by rw[zb];lia),zb,j,dE];rfl);have m:(Qw st).toList=c.flatten++(X++(Y++(d.flatten++R))):=by rw[p.arr];simp
 have n:X∈c++X::Y::d:=by simp
 have G:Y∈c++X::Y::d:=by simp
 refine Th L p.kind p.failed m B C (p.ne X n) (p.ne Y G) (p.srt X n) (p.srt Y G) (λx T=>N x (p.perm.mem_iff.mp (by
   rw[m];rcases aO.mp T with h|h<;>simp[h]))) λg M U k2 k3 H I k6=>?_
 have o:M.length=X.length+Y.length:=by rw[I.length_eq,aI]
 refine q g (c++M::d) ⟨?_,?_,?_,?_,?_,U,k2,?_⟩ (by simp;lia)
 .rw[H];simp
 .rw[<- p.lo];simp[o];lia
 .rw[k3,ES,sF,lK,o];have Ft:i<(Qz st).size:=(dL.mp B).1;have xl:i+1<(Qz st).size:=(dL.mp C).1;rw[Array.eraseIdxIfInBounds,dif_pos (by rw[jG];exact xl),Array.toList_eraseIdx,je,NP,List.map_set,l];have J:(sF 0 c).length=i:=by rw[zb,j]
  rw[List.set_append_right _ _ 'd',J,lJ,List.set_cons_zero,List.eraseIdx_append_of_length_le 'd',J,dE];show _++(_::sF _ d)=_;rw[le];rfl
 .intro Z f;simp only[aO,av] at f;rcases f with h|rfl|h
  .exact p.ne Z (by simp[h])
  .rw[o];have:=p.ne X n;lia
  .exact p.ne Z (by simp[h])
 .intro Z f;simp only[aO,av] at f;rcases f with h|rfl|h
  .exact p.srt Z (by simp[h])
  .exact k6
  .exact p.srt Z (by simp[h])
 .rw[H];refine List.Perm.trans ?_ p.perm;rw[m];refine eE _ ?_;rw[<- bd X];exact I.append_right _
end
section
variable{prog:aE}{w:aG}{A:aY}{E:ae->aj->Prop}{s:aj}{κ:aT}{L0:List a9}{st:bS}{lo:Nat}{kd:KT}
def Tu(u:Up κ xs lo m)(h:lo+m<=xs.size):pA κ ((xs.toList.drop lo).take m):=by
 unfold pA;rw[eR];intro i j b c d;rw[bK,bR,aw] at b c;have a:∀k,k<m->∀(a:k<((xs.toList.drop lo).take m).length),ky κ ((xs.toList.drop lo).take m)[k]=KK κ xs (lo+k):=λk e a=>by
  rw[l7,l8];unfold KK ky;rw[eS,aS 'd']
 unfold Le;rw[a i 'd',a j 'd'];exact u _ _ 'd' 'd' 'd'
def Pn.run(p:Pn κ kd L0 st lo S R)(r:Rl st lo d_)(h:lo+m<=(Qw st).size)(u:Up κ (Qw d_) lo m):∃b,Pn κ kd L0 d_ lo S b/\b.length=R.length/\pA κ (b.take m):=by
 have c:=p.lo;have g:=r.size;have a:(Qw d_).toList.length=lo+R.length:=by rw[aw,g,<- aw,p.arr,aI,c]
 have d:(Qw d_).toList.take lo=S.flatten:=by
  have e:(Qw st).toList.take lo=S.flatten:=by rw[p.arr,<- c,mM]
  rw[<- e];apply ma;intro i;by_cases f:i<lo
  .rw[eV f,eV f,cT,cT];exact r.fix i f
  .rw[jf 'd',jf 'd']
 have j:(Qw d_).toList=S.flatten++(Qw d_).toList.drop lo:=by
  conv=>lhs;rw[<- ci lo (Qw d_).toList]
  rw[d]
 refine⟨(Qw d_).toList.drop lo,⟨j,c,by rw[r.pend];exact p.pend,p.ne,p.srt,r.kind.trans p.kind,r.failed.trans p.failed,(cX.mp r.perm).trans p.perm⟩,by rw[bR,a];lia,?_⟩;exact Tu u (by rw[g];exact h)
def Pn.push(p:Pn κ kd L0 st lo S R)(c:1<=m)(e:m<=R.length)(d:pA κ (R.take m)):Pn κ kd L0 (setPending st<|(Qz st).push (lo,m,pw)) (lo+m) (S++[R.take m]) (R.drop m):=by
 have a:(R.take m).length=m:=by rw[bK];lia
 refine⟨?_,?_,?_,?_,?_,p.kind,p.failed,p.perm⟩
 .show(Qw st).toList=_;rw[p.arr];simp
 .rw[List.flatten_append,aI,p.lo];show lo+(R.take m++[]).length=_;rw[cf,a]
 .show((Qz st).push (lo,m,pw)).toList.map se=_;rw[d0,eF,p.pend,ES,p.lo,lK,sF,sF,a];rfl
 .intro X b;rcases aO.mp b with h|h
  .exact p.ne X h
  .rw[cz.mp h,a];exact c
 .intro X b;rcases aO.mp b with h|h
  .exact p.srt X h
  .rw[cz.mp h];exact d
theorem OA{α β:Type}(f:α->β)(g:α->α)(h:∀x,f (g x)=f x):∀(l:List α)(i:Nat),(l.modify i g).map f=l.map f
 |[],_=>by simp
 |x::l,0=>by simp[h]
 |x::l,i+1=>by simp[OA f g h l i]
def Pn.power(p:Pn κ kd L0 st lo S R)(a:∀x,se (g x)=se x)(i:Nat):Pn κ kd L0 (setPending st<|(Qz st).modify i g) lo S R:=by refine⟨p.arr,p.lo,?_,p.ne,p.srt,p.kind,p.failed,p.perm⟩;show((Qz st).modify i g).toList.map se=_;rw[Array.toList_modify,OA se g a,p.pend]
def SS(h:pA κ xs.toList):i4 κ xs xs.size:=λi j d a=>by
 by_cases e:i=j
 .subst e;exact yA _
 have b:KK κ xs i=ky κ xs[i]:=by unfold KK ky;rw[aS 'd']
 have c:KK κ xs j=ky κ xs[j]:=by unfold KK ky;rw[aS a]
 rw[b,c];have:=eR.mp h i j (by rw[aw];lia) (by rw[aw];lia) 'd';rw[eS,eS] at this;exact this
set_option maxHeartbeats 0 in
def Nv(N:tU prog w A s κ kd)(hs:iE κ a₀)(bp:(Qw st).Perm a₀)(bk:kindOf st=kd)(bf:failedOf st=Qn)(bn:Qz st = #[])(q:∀d,(Qw d).Perm a₀->failedOf d=Qn->i4 κ (Qw d) a₀.size->Q () d):wpS (aq prog w) A E s sortRuns' Q st:=by
 have v:∀x∈a₀.toList,rG κ x:=hs;have p0:Pn κ kd a₀.toList st 0 [] (Qw st).toList:=⟨rfl,rfl,by rw[bn];rfl,by simp,by simp,bk,bf,cX.mp bp⟩;have U:(Qw st).size=a₀.size:=bp.size_eq;rw[sortRuns'_eq];refine az<|fV ?_;show wpS _ _ _ _ (forIn [:(Qw st).size] (Qn,0) _ >>= _) Q st;rw[U];refine az<|dW (dI (I:=λk c d=>∃lo S R,c=(Qn,lo)/\Pn κ kd a₀.toList d lo S R/\k<=lo) (Q:=λc d=>∃lo S R,c=(Qn,lo)/\Pn κ kd a₀.toList d lo S R/\a₀.size<=lo) ?_ ?_ ?_) ?_
 .rintro k c B _ hk ⟨lo,S,R,rfl,p,J⟩;have hlen:lo+R.length=a₀.size:=by
   have:=p.perm.length_eq;rw[p.arr,aI,p.lo,aw] at this;exact this
  have Y:(Qw B).size=a₀.size:=by rw[<- aw,p.perm.length_eq,aw]
  show wpS _ _ _ _ (if lo ≥ _ then _ else _) _ B;by_cases o:lo ≥ a₀.size
  .rw[Qs (by first|exact o|(rw[U];exact o))];exact aF ⟨lo,S,R,rfl,p,o⟩
  rw[Qu (by first|exact o|(rw[U];exact o))];have C8:∀x∈(Qw B).toList,rG κ x:=λx hx=>v x<|p.perm.mem_iff.mp hx;refine az (Wb (nrem:=a₀.size-lo) N C8 p.kind 'd' 'd' (Rl.refl B lo) λn r r2 n1 n2 u2=>?_);apply Bk (β:=Nat) (H:=λL m=>∃i,Pn κ kd a₀.toList L lo S i/\1<=m/\m<=i.length/\pA κ (i.take m)/\k<lo+m);intro M;show wpS _ _ _ _ (if n<minRun' a₀.size a₀.size 0 then _ else _) _ r;by_cases hm:n<minRun' a₀.size a₀.size 0
  .rw[Qs hm];refine az (iO<|dh ⟨rfl,az (Uy (ok:=n) N C8 p.kind n1 'd' 'd' r2 u2 λL r3 u3=>?_)⟩);obtain⟨i,u,l3,C⟩:=p.run r3 'd' u3;have O:1<=min (a₀.size-lo) (minRun' a₀.size a₀.size 0):=by lia
   have P:min (a₀.size-lo) (minRun' a₀.size a₀.size 0)<=i.length:=by lia
   generalize min (a₀.size-lo) (minRun' a₀.size a₀.size 0)=m at *;exact M _ _ ⟨i,u,O,P,C,by lia⟩
  .rw[Qu hm];obtain⟨i,u,l3,C⟩:=p.run r2 'd' u2;exact M _ _ ⟨i,u,n1,by lia,C,by lia⟩
  rintro L m ⟨i,u,O,P,C,J⟩;refine az<|fV ?_;cases hb:(Qz L).back? with
  |none=>exact az (eQ<|aF ⟨lo+m,_,_,rfl,u.push O P C,by lia⟩)
  | some t=>
   obtain⟨s1,n1',pw0⟩:=t;refine az<|dW (dI (I:=λj c d=>c=(Qn,())/\∃e,Pn κ kd a₀.toList d lo e i) (Q:=λc d=>c=(Qn,())/\∃e,Pn κ kd a₀.toList d lo e i) ?_ ?_ ?_) ?_
   .rintro j c f _ _ ⟨rfl,e,G⟩;refine az<|fV ?_;show wpS _ _ _ _ (match (if (Qz f).size>1 then (Qz f)[(Qz f).size-2]? else Qn) with|some (fst,fst_1,l)=>_|x=>_) _ f;cases ht:(if (Qz f).size>1 then (Qz f)[(Qz f).size-2]? else Qn) with
    |none=>exact aF ⟨rfl,e,G⟩
    | some t=>
     obtain⟨x,y,l⟩:=t;have Z:(Qz f).size>1:=by
      by_cases Z:(Qz f).size>1
      .exact Z
      .rw[Qu Z] at ht;cases ht
     show wpS _ _ _ _ (if l<=_ then _ else _) _ f;split
     .exact aF ⟨rfl,e,G⟩
     .exact az (LL N v G (by rw[G.size] at *;lia) λFd S5 p5 _=>aF ⟨rfl,S5,p5⟩)
   .rintro c f h;exact h
   .exact⟨rfl,S,u⟩
   .rintro c f ⟨rfl,e,G⟩;refine az (eQ<|az (eQ<|aF ⟨lo+m,_,_,rfl,Pn.push (Pn.power G ?_ _) O P C,by lia⟩));rintro⟨a,b,c⟩;rfl
 .rintro c B ⟨lo,S,R,rfl,p,J⟩;exact⟨lo,S,R,rfl,p,by rw[dq] at J;exact J⟩
 .exact⟨0,[],_,rfl,p0,ay _⟩
 .rintro c B ⟨lo,S,R,rfl,p,J⟩;have hR:R=[]:=by
   have h:=p.perm.length_eq;rw[p.arr,aI,p.lo] at h;have h2:a₀.toList.length=a₀.size:=aw;exact d8.mp 'd'
  refine az<|dW (dI (I:=λk c d=>c=(Qn,())/\∃S,Pn κ kd a₀.toList d lo S R/\S.length<=a₀.size-k) (Q:=λc d=>c=(Qn,())/\∃S,Pn κ kd a₀.toList d lo S R/\S.length<=1) ?_ ?_ ?_) ?_
  .rintro k c r _ hk ⟨rfl,e,g,T⟩;refine az<|fV ?_;show wpS _ _ _ _ (if (Qz r).size<=1 then _ else _) _ r;by_cases o:(Qz r).size<=1
   .rw[Qs o];exact aF ⟨rfl,e,g,by rw[<- g.size];exact o⟩
   .rw[Qu o];have Y:=g.size;refine az (LL N v g ?_ λL S3 u h3=>aF ⟨rfl,S3,u,by lia⟩)
    repeat' split
    all_goals lia
  .rintro c r ⟨rfl,e,g,T⟩;exact⟨rfl,e,g,by rw[dq] at T;lia⟩
  .refine⟨rfl,S,p,?_⟩;have h1:=Mx S p.ne;have h:=p.perm.length_eq;rw[p.arr,aI] at h;have h2:a₀.toList.length=a₀.size:=aw;lia
  .rintro c r ⟨rfl,e,g,T⟩;have tz:=g.arr;rw[hR,cf] at tz;have Y:(Qw r).size=a₀.size:=by rw[<- aw,g.perm.length_eq,aw]
   refine aF<|q r (cX.mpr g.perm) g.failed ?_;rw[<- Y];apply SS;rw[tz]
   match e,T with
   |[],_=>exact dZ
   |[X],_=>rw[jp,List.flatten_nil,cf];exact g.srt X aL
end
def list_sort_big(l:κ.OneLt)(f:s.heap.get? a=Qg (seqObj "list" vs.toArray n))(m:iE κ (pairsOf vs))(o:∀p r b,vs=p::r::b->keyKind' (p::r::b).toArray=pure oneType')
  (t:vs.length<=4000000) (q:∀c:bS,(Qw c).Perm (pairsOf vs)->i4 κ (Qw c) (pairsOf vs).size->P (Fin.done<|m7 bW) { heap:=sortedHeap s.heap a vs (fF (λx=>x.snd)<|Qw c),gens:=s.gens,drawn:=s.drawn,toks:=s.toks,os:=s.os }):am (aq prog w) A (dN.«list.sort» { pos:=[bJ a] }) P E s:=by
 by_cases u:vs.length<64
 .exact list_sort_treeK l f m o u q
 rw[list_sort_plain];have v:(4000000:Nat)<=aK:=by decide
 obtain⟨v1,d,b,rfl⟩:∃v1 d b,vs=v1::d::b:=by
  match vs,u with
  |[],h=>exact absurd (by show 0<64;decide) h
  |[_],h=>exact absurd (by show 1<64;decide) h
  |v1::d::b,_=>exact⟨v1,d,b,rfl⟩
 generalize j:v1::d::b=vs at *;have y:=bj (br λ_=>#[]) f rfl;have B:=ai (seqObj "list" #[] 0)<|ai (seqObj "tuple" vs.toArray 0) y;refine aa (ix f rfl (aa (gU f rfl (aa (iV y rfl (aa (iN (aa<|fT (bD ?_) 'b') (by simpa using aP t v))))) (by simpa using aP t v) (by show 0<=aK+1;lia))));have C:¬ vs.toArray.size<2:=by rw[aM];lia
 show am (aq prog w) A (if vs.toArray.size<2 then _ else _) P E _;rw[Qu C,<- j,o v1 d b j.symm,j];refine aa<|ak ?_;rw[Qu C];show am (aq prog w) A (sortRuns'.run (kX oneType' (vs.toArray.zip vs.toArray) #[] 7 Qn) >>= _) P E { heap:=((s.heap.update a (br λx=>#[])).push<|seqObj "tuple" vs.toArray 0).push<|seqObj "list" #[] 0,gens:=s.gens,drawn:=s.drawn,toks:=s.toks,os:=s.os };refine aa (bQ (Nv (Q:=λ_ c=>(Qw c).Perm (pairsOf vs)/\failedOf c=Qn/\i4 κ (Qw c) (pairsOf vs).size) (tU.one l) (a₀:=pairsOf vs) m (iw _) rfl rfl rfl λc g i k=>⟨g,i,k⟩) ?_ λ_ _ h=>h);rintro⟨_,c⟩ G ⟨rfl,g,i,k⟩;have H:(fF (λx=>x.snd)<|Qw c).size<=4000000:=by
  rw[kJ,g.size_eq];show(vs.toArray.zip vs.toArray).size<=_;rw[mO,aM];lia
 refine aa (iV B rfl (aa (gU B rfl ?_ (by show 0<=aK;lia) (by show(fF _ _).size<=aK+1;lia))));dsimp only at i;show am (aq prog w) A (match failedOf c with|some e=>_|x=>_) P E _;rw[i];show am (aq prog w) A (if ((if _ then n else n+1) !=(if _ then n else n+1))=Qo then _ else _) P E _;rw[Qu 'k'];exact ak<|q c g k
noncomputable def Aa:ae->Option qB
 |.str x _=>Qg x.cps.toList
 |_=>Qn
def allS:List ae->Option o_
 |[]=>Qg []
 | v::vs=>match Aa v,allS vs with
  |some a,Qg r=>Qg<|a::r
  |_,_=>Qn
def Bf(h:aJ):ae->Option o_
 | .ref t=>match h.get? t with
  | some o=>match o.data with
   |.seq f_ _=>allS f_.toList
   |_=>Qn
  |none=>Qn
 |_=>Qn
def llt_irrefl(a:o_):¬ a<a:=iP a
def llt_trans{a b c:o_}(d:a<b)(e:b<c):a<c:=jg d e
def llt_total{a b:o_}(c:¬ a<b)(d:¬ b<a):a=b:=jH (gO.mp d)<|gO.mp c
def EI(h:aJ):aT where
 α:=o_
 blt:=λa b=>decide<|a<b
 irrefl:=λa=>decide_eq_false<|llt_irrefl a
 trans:=λa b c h1 h2=>decide_eq_true (llt_trans (of_decide_eq_true h1)<|of_decide_eq_true h2)
 negTrans:=λa b c h=>by
  by_cases h1:a<b
  .exact .inl<|decide_eq_true h1
  .right;have hac:=of_decide_eq_true h;by_cases h2:b<a
   .exact decide_eq_true<|llt_trans h2 hac
   .rw[<- llt_total h1 h2];exact h
 total:=λa b h1 h2=>llt_total (of_decide_eq_false h1)<|of_decide_eq_false h2
 keyOf:=Bf h
 dflt:=[]
def xx:o_->o_->Option Bool
 |a::as,b::bs=>if a=b then xx as bs else Qg (decide<|a<b)
 |_,_=>Qn
theorem Mm:∀c bs:o_,(match xx c bs with|some r=>r|none=>decide<|c.length<bs.length)=decide (c<bs)
 |[],[]=>by simp[xx]
 |[],b::bs=>by simp[xx]
 |a::c,[]=>by simp[xx]
 | a::c,b::bs=>by
  unfold xx;by_cases e:a=b
  .subst e;rw[Qs rfl];have:=Mm c bs;rw[a7,a7];have d:decide (c.length+1<bs.length+1)=decide (c.length<bs.length):=by simp
   rw[d,this];simp[kK]
  .rw[Qu e];show decide (a<b)=_;simp[kK,e]
set_option tactic.hygienic true in
theorem N_
  (n:∀x y i a b{Q:ForInStep (Option Bool×Unit)->aj->Prop},Aa x=Qg a->Aa y=Qg b->Q (if a=b then .yield (Qn,()) else .done (Qg (decide<|a<b),())) s->am M A (f ((x,y),i) (Qn,())) Q E s):
  ∀(d g:List ae)(c bs:o_)(j:Nat){Q:Option Bool×Unit->aj->Prop},allS d=Qg c->allS g=Qg bs->Q (xx c bs,()) s->am M A (forIn ((d.zip g).zipIdx j) (Qn,()) f) Q E s
 | [],g,c,bs,j,Q,h1,h2,q=>by
  cases h1;exact ak (by cases bs<;>exact q)
 | x::d,[],c,bs,j,Q,h1,h2,q=>by
  cases h2;exact ak (by cases c<;>exact q)
 | x::d,y::g,c,bs,j,Q,h1,h2,q=>by
  unfold allS at h1 h2;split at h1
  .rename_i a h o k;split at h2
   .rename_i b l p m;cases h1;cases h2;rw[i5,mm,jR];refine aa<|n x y j a b o p ?_;unfold xx at q;by_cases e:a=b
    .rw[Qs e] at q ⊢;exact N_ n d g h l (j+1) k m q
    .rw[Qu e] at q ⊢;exact ak q
   .cases h2
  .cases h1
theorem Mz{M:jt}{A:aY}{E:ae->aj->Prop}{s:aj}{α β:Type}{f:α->Sem β}(g:α->β):∀(l:List α){Q:List β->aj->Prop},(∀v∈l,∀(a:β->aj->Prop),a (g v) s->am M A (f v) a E s)->Q (l.map g) s->am M A (List.mapM f l) Q E s
 |[],Q,_,q=>by rw[List.mapM_nil];exact ak q
 | v::l,Q,h,q=>by
  rw[List.mapM_cons];exact aa (h v aL _<|aa (Mz g l (λu b=>h u<|ar _ b)<|ak q))
def LY{M:jt}{A:aY}{E:ae->aj->Prop}{s:aj}{α β:Type}{f:α->Sem β}(g:α->β)(l:List α){Q:Array β->aj->Prop}(h:∀v∈l,∀(a:β->aj->Prop),a (g v) s->am M A (f v) a E s)(q:Q (l.map g).toArray s):am M A (Array.mapM f l.toArray) Q E s:=by rw[Array.mapM_eq_mapM_toList];refine aa (Mz g l h<|ak q)
section
def Bq(h:Aa v=Qg a):∃x t,v=.str x t/\x.cps.toList=a:=by
 cases v with
 |str x t=>exact⟨x,t,rfl,by cases h;rfl⟩
 |_=>cases h
def SJ(c:Aa x=Qg a)(d:Aa y=Qg b)(q:Q (decide<|a<b) s):am (aq prog w) A (oneLt' o x y) Q E s:=by
 obtain⟨x,t,rfl,rfl⟩:=Bq c;obtain⟨y,u,rfl,rfl⟩:=Bq d;cases o with
 |true=>exact lf prog w A E s _ _ _ _ rfl rfl q
 | false=>
  rw[oneLt'_eq,Qu 'b'];refine aa (show am (aq prog w) A (cK CmpOp.Lt _ _) _ E s from P.lt_str ?_);exact ak q
structure TupS(h:aJ)(v:ae)(ks:o_):Prop where
 ok:∃t o f_ c,v=.ref t/\h.get? t=Qg o/\o.cls=.type "tuple"/\o.data=.seq f_ c/\allS f_.toList=Qg ks
noncomputable def y7(h:aJ)(v:ae):Option ae:=match v with
 | .ref t=>match h.get? t with
  | some o=>match o.data with
   |.seq f_ _=>f_[0]?
   |_=>Qn
  |none=>Qn
 |_=>Qn
def NL(g:h.get? t=Qg o)(a:o.data=.seq f_ c):y7 h (.ref t)=f_[0]?:=by show(match h.get? t with|some o=>(match o.data with|.seq f_ _=>f_[0]?|_=>Qn)|none=>Qn)=_;rw[g];dsimp only;rw[a]
def K7(e:Bf h v=Qg ks):∃t o a c,v=.ref t/\h.get? t=Qg o/\o.data=.seq a c/\allS a.toList=Qg ks:=by
 cases v with
 | ref t=>
  unfold Bf at e;dsimp only at e;cases g:h.get? t with
  |none=>rw[g] at e;cases e
  | some o=>
   rw[g] at e;dsimp only at e;cases b:o.data with
   |seq a c=>rw[b] at e;exact⟨t,o,a,c,rfl,g,b,e⟩
   |_=>rw[b] at e;cases e
 |_=>cases e
set_option tactic.hygienic true in
def Hs(ok:TupS h v ks)(f:ks≠[]):∃x d,y7 h v=Qg (.str x d):=by
 obtain⟨t,o,i,c,rfl,g,l,j,b⟩:=ok;rw[NL g j,<- cT];cases e:i.toList with
 |nil=>rw[e] at b;cases b;exact absurd rfl f
 | cons x r=>
  rw[e] at b;unfold allS at b;split at b
  .rename_i a m k n;obtain⟨y,d,rfl,_⟩:=Bq k;exact⟨y,d,rfl⟩
  .cases b
set_option tactic.hygienic true in
theorem G9:∀{l:List ae}{b:o_},allS l=Qg b->l.length=b.length
 |[],b,h=>by cases h;rfl
 | v::l,b,h=>by
  unfold allS at h;split at h
  .rename_i a r d c;cases h;rw[a7,a7,G9 c]
  .cases h
def X1{vs:List ae}(h2:2<=vs.length)(j:∀v∈vs,∃k,TupS s.heap v k/\k≠[]){Q:KT->aj->Prop}(q:∀kd:KT,tU prog w A s (EI s.heap) kd->Q kd s):am (aq prog w) A (keyKind' vs.toArray) Q E s:=by
 show am (aq prog w) A (_ >>= _) Q E s;refine aa<|LY (y7 s.heap) vs (λv f l M=>?_) ?_
 .obtain⟨k,⟨t,o,f_,c,rfl,g,hc,O,ha⟩,m⟩:=j v f;show am (aq prog w) A (typeOf (.ref t) >>= _) l E s;refine aa<|wpAny_typeOf_ref g ?_;rw[hc];show am (aq prog w) A (ki (.ref t) >>= _) l E s;refine aa (ix g O<|ak ?_);rw[<- NL g O];exact M
 .have tD:((vs.map<|y7 s.heap).toArray.all λx=>x.isSome)=Qo:=by
   rw[mn,cE];intro x d;obtain⟨v,f,rfl⟩:=bz.mp d;obtain⟨k,G,m⟩:=j v f;obtain⟨y,n,e⟩:=Hs G m;rw[e];rfl
  rw[Qs tD];refine aa<|dh ?_;have Jg:∀u∈(vs.map<|y7 s.heap).filterMap id,∃y n,u=.str y n:=λu hu=>by
   obtain⟨x,d,e⟩:=f9.mp hu;obtain⟨v,f,rfl⟩:=bz.mp d;obtain⟨k,G,m⟩:=j v f;obtain⟨y,n,H⟩:=Hs G m;rw[H] at e;injection e with e;exact⟨y,n,e.symm⟩
  have I:(vs.map<|y7 s.heap).filterMap id≠[]:=by
   match vs,h2,j with
   | v::_,_,j=>
    obtain⟨k,G,m⟩:=j v aL;obtain⟨y,n,H⟩:=Hs G m;rw[dr,H];simp
  rw[List.filterMap_toArray];generalize (vs.map<|y7 s.heap).filterMap id=p at *;refine aa ?_;show am (aq prog w) A (Array.mapM typeOf p.toArray >>= _) _ E s;refine aa<|LY (λ_=>dJ "str") p (λv f l M=>?_) ?_
  .obtain⟨y,n,rfl⟩:=Jg v f;exact ak M
  .have e0:((p.map λ_=>dJ "str").toArray)[0]?=Qg (dJ "str"):=by
    cases p with
    |nil=>exact absurd rfl I
    |cons _ _=>rfl
   rw[e0];have N:((p.map λ_=>dJ "str").toArray.all λx=>x==dJ "str")=Qo:=by
    rw[mn,cE];intro x d;obtain⟨_,_,rfl⟩:=bz.mp d;rfl
   show am (aq prog w) A (pure (if ((p.map λ_=>dJ "str").toArray.all λx=>x==dJ "str")=Qo then Qg (dJ "str") else Qn)) _ E s;rw[N];refine ak (ak<|q _ ?_);intro x y P l d B C;obtain⟨(J:o_),d⟩:=d;obtain⟨(L:o_),B⟩:=B;have ea:ky (EI s.heap) x=J:=by unfold ky;rw[d];rfl
   have eb:ky (EI s.heap) y=L:=by unfold ky;rw[B];rfl
   rw[ea,eb] at C;obtain⟨t,o,f_,c,N,g1,d1,S⟩:=K7 d;obtain⟨t2,o2,rz,c2,H,g2,d2,T⟩:=K7 B;rw[N,H];show am (aq prog w) A (ki (.ref t) >>= _) l P s;refine aa<|ix g1 d1 (aa<|ix g2 d2 (aa<|N_ ?_ _ _ J L 0 S T ?_))
   .intro x y i a b Q d B q;obtain⟨x,t,rfl,rfl⟩:=Bq d;obtain⟨y,u,rfl,rfl⟩:=Bq B;show am (aq prog w) A (eqBool (.str x t) (.str y u) >>= _) Q P s;refine aa<|jz ?_;by_cases e:x=y
    .subst e;rw[Qs rfl] at q;rw[decide_eq_true rfl];exact ak q
    .have ne:x.cps.toList≠y.cps.toList:=λh=>e (by
      cases x;cases y;dsimp only at h;rw[mo.mp h])
     rw[Qu ne] at q;rw[decide_eq_false e];exact aa (SJ rfl rfl<|ak q)
   .have U:=G9 S;have Y:=G9 T;rw[aw] at U Y;have Z:=Mm J L;rw[<- U,<- Y] at Z
    replace C:l (decide<|J<L) s:=C
    rw[<- Z] at C;generalize xx J L=r at *;cases r with
    |none=>exact ak C
    |some r=>exact ak C
end
def keyT(h:aJ)(v:ae):o_:=(Bf h v).getD []
def NQ{vs:List ae}{p:a9}(h:p∈(pairsOf vs).toList):p.1=p.2/\p.1∈vs:=by
 have e:(pairsOf vs).toList=vs.zip vs:=by simp[pairsOf]
 rw[e] at h;have a:vs.zip vs=vs.map λv=>(v,v):=by
  clear h e
  induction vs with
  |nil=>rfl
  |cons v r ih=>rw[i5,ih];rfl
 rw[a] at h;obtain⟨v,b,rfl⟩:=bz.mp h;exact⟨rfl,b⟩
def WD(vs:List ae):(pairsOf vs).toList.map (λx=>x.2)=vs:=by
 have e:(pairsOf vs).toList=vs.zip vs:=by simp[pairsOf]
 rw[e]
 induction vs with
 |nil=>rfl
 |cons v r ih=>rw[i5,dr,ih (by simp[pairsOf])]
abbrev atK(K:aT)(ko:aJ->ae->Option K.α)(h:aJ):aT:={ K with keyOf:=ko h }
def YC{prog:aE}{w:aG}{A:aY}{E:ae->aj->Prop}{s:aj}{a:af}{vs:List ae}{n:Nat}{P:PySem.Fin->aj->Prop}{K:aT}{ko:aJ->ae->Option K.α}{C:aJ->ae->Prop}
  (t:∀{h h':aJ},(∀b o,h.get? b=Qg o->o.cls=.type "tuple"->h'.get? b=Qg o)->∀{v},C h v->C h' v/\ko h' v=ko h v) (N:∀{h v},C h v->∃k,ko h v=Qg k)
  (kk:∀{E:ae->aj->Prop}{s:aj}{Q:KT->aj->Prop},2<=vs.length->(∀v∈vs,C s.heap v)->(∀kd:KT,tU prog w A s (atK K ko s.heap) kd->Q kd s)->am (aq prog w) A (keyKind' vs.toArray) Q E s)
  (I:s.heap.get? a=Qg (seqObj "list" vs.toArray n)) (hv:∀v∈vs,C s.heap v) (U:vs.length<=4000000)
  (q:∀d:Array ae,d.toList.Perm vs->d.toList.Pairwise (λx y=>K.blt ((ko s.heap y).getD K.dflt) ((ko s.heap x).getD K.dflt)=Qp)->P (Fin.done<|m7 bW) { heap:=sortedHeap s.heap a vs d,gens:=s.gens,drawn:=s.drawn,toks:=s.toks,os:=s.os }):am (aq prog w) A (dN.«list.sort» { pos:=[bJ a] }) P E s:=by
 rw[list_sort_plain];have Y:(4000000:Nat)<=aK:=by decide
 have Z:=bj (br λ_=>#[]) I rfl;have J:=ai (seqObj "list" #[] 0)<|ai (seqObj "tuple" vs.toArray 0) Z;have f:∀{v},v∈vs->C (((s.heap.update a (br λx=>#[])).push<|seqObj "tuple" vs.toArray 0).push<|seqObj "list" #[] 0) v/\ko (((s.heap.update a (br λx=>#[])).push<|seqObj "tuple" vs.toArray 0).push<|seqObj "list" #[] 0) v=ko s.heap v:=λ{v}h=>t (λb o g hc=>by
  have ne:a≠b:=λe=>by
   subst e;rw[I] at g;cases g;exact absurd hc 'k'
  exact ai (seqObj "list" #[] 0) (ai (seqObj "tuple" vs.toArray 0)<|(bg s.heap (br λ_=>#[]) ne).trans g)) (hv v h)
 refine aa (ix I rfl (aa (gU I rfl (aa (iV Z rfl (aa (iN (aa<|fT (bD ?_) 'b') (by simpa using aP U Y))))) (by simpa using aP U Y) (by show 0<=aK+1;lia))));show am (aq prog w) A _ P E { heap:=((s.heap.update a (br λx=>#[])).push<|seqObj "tuple" vs.toArray 0).push<|seqObj "list" #[] 0,gens:=s.gens,drawn:=s.drawn,toks:=s.toks,os:=s.os };generalize hH:((s.heap.update a (br λx=>#[])).push<|seqObj "tuple" vs.toArray 0).push (seqObj "list" #[] 0)=H at *;have u:∀c:bS,(Qw c).Perm (pairsOf vs)->failedOf c=Qn->i4 (atK K ko H) (Qw c) (pairsOf vs).size->(fF (λx=>x.snd)<|Qw c).toList.Perm vs/\(fF (λx=>x.snd)<|Qw c).toList.Pairwise (λx y=>K.blt ((ko s.heap y).getD K.dflt) ((ko s.heap x).getD K.dflt)=Qp):=λc l _ m=>by
  have pl:=cX.mp l;refine⟨?_,?_⟩
  .rw[mq];have:=pl.map (λx:a9=>x.2);rw[WD] at this;exact this
  .rw[mq,eR];intro i j hi L sV;rw[aW,aw] at hi L;rw[mr,mr];have hs:=m i j 'd' (by rw[<- l.size_eq];exact L);have hk:∀k(h:k<(Qw c).size),KK (atK K ko H) (Qw c) k=(ko s.heap ((Qw c).toList[k]'(by rw[aw];exact h)).2).getD K.dflt:=λk h=>by
    unfold KK;rw[aS h];have hm:(Qw c)[k]∈(pairsOf vs).toList:=pl.mem_iff.mp (by rw[<- eS];exact fN _);obtain⟨h1,r⟩:=NQ hm;dsimp only;show(ko H (Qw c)[k].1).getD K.dflt=_;rw[(f r).2,eS,<- h1]
   rw[hk i hi,hk j L] at hs;exact hs
 have O:iE (atK K ko H) (pairsOf vs):=λp M=>by
  obtain⟨h1,r⟩:=NQ M;exact N (f r).1
 have up:∀d:Array ae,H.update a (br λ_=>d)=sortedHeap s.heap a vs d:=λd=>by rw[<- hH];rfl
 by_cases r:vs.length<2
 .have B:vs.toArray.size<2:=by rw[aM];exact r
  show am (aq prog w) A (if vs.toArray.size<2 then _ else _) P E _;rw[Qs B];refine aa<|ak ?_;rw[Qs B];have pz:(pairsOf vs).size=vs.length:=by simp[pairsOf]
  obtain⟨S,T⟩:=u (kX general' (pairsOf vs) #[] 7 Qn) (iw _) rfl (λi j sV L=>by
   have:i=j:=by lia
   subst this;exact yA _)
  refine aa<|ak ?_;have M:(fF (λx=>x.snd) (Qw<|kX general' (pairsOf vs) #[] 7 Qn)).size<=4000000:=by
   rw[kJ];show(pairsOf vs).size<=_;lia
  refine aa (iV J rfl (aa (gU J rfl ?_ (by show 0<=aK;lia) (by show(fF _ _).size<=aK+1;exact aP M 'd'))));show am (aq prog w) A (if ((if _ then n else n+1) !=(if _ then n else n+1))=Qo then _ else _) P E _;rw[Qu 'k'];refine ak ?_;have:=q _ S T;rw[<- up] at this;exact this
 .have B:¬ vs.toArray.size<2:=by rw[aM];exact r
  show am (aq prog w) A (if vs.toArray.size<2 then _ else _) P E _;rw[Qu B];refine aa (kk (s:={ heap:=H,gens:=s.gens,drawn:=s.drawn,toks:=s.toks,os:=s.os }) 'd' (λv h=>(f h).1) λkd ho=>?_);rw[Qu B];show am (aq prog w) A (sortRuns'.run (kX kd (vs.toArray.zip vs.toArray) #[] 7 Qn) >>= _) P E _;refine aa (bQ (Nv (kd:=kd) (κ:=atK K ko H) (Q:=λ_ c=>(Qw c).Perm (pairsOf vs)/\failedOf c=Qn/\i4 (atK K ko H) (Qw c) (pairsOf vs).size) ho (a₀:=pairsOf vs) O (iw _) rfl rfl rfl λc l G m=>⟨l,G,m⟩) ?_ λ_ _ h=>h);rintro⟨_,c⟩ s' ⟨rfl,l,G,m⟩;dsimp only at l G m;obtain⟨S,T⟩:=u c l G m;have M:(fF (λx=>x.snd)<|Qw c).size<=4000000:=by
   rw[kJ,l.size_eq];show(vs.toArray.zip vs.toArray).size<=_;rw[mO,aM];lia
  refine aa (iV J rfl (aa (gU J rfl ?_ (by show 0<=aK;lia) (by show(fF _ _).size<=aK+1;lia))));show am (aq prog w) A (match failedOf c with|some e=>_|x=>_) P E _;rw[G];show am (aq prog w) A (if ((if _ then n else n+1) !=(if _ then n else n+1))=Qo then _ else _) P E _;rw[Qu 'k'];refine ak ?_;have:=q _ S T;rw[<- up] at this;exact this
def Zj{prog:aE}{w:aG}{A:aY}{E:ae->aj->Prop}{s:aj}{a:af}{vs:List ae}{n:Nat}{P:PySem.Fin->aj->Prop}(j:s.heap.get? a=Qg (seqObj "list" vs.toArray n))(f:∀v∈vs,∃b,TupS s.heap v b/\(2<=vs.length->b≠[]))(k:vs.length<=4000000)
  (q:∀d:Array ae,d.toList.Perm vs->d.toList.Pairwise (λx y=>¬ keyT s.heap y<keyT s.heap x)->P (Fin.done<|m7 bW) { heap:=sortedHeap s.heap a vs d,gens:=s.gens,drawn:=s.drawn,toks:=s.toks,os:=s.os }):am (aq prog w) A (dN.«list.sort» { pos:=[bJ a] }) P E s:=
 YC (K:=EI s.heap) (ko:=Bf) (C:=λh v=>∃b,TupS h v b/\(2<=vs.length->b≠[])) (λ{h h'}kp{v}⟨b,⟨t,o,f_,c,e,g,hc,hd,ha⟩,pQ⟩=>by
  subst e;refine⟨⟨b,⟨t,o,f_,c,rfl,kp _ _ g hc,hc,hd,ha⟩,pQ⟩,?_⟩;show(match Heap.get? _ t with|some o=>(match o.data with|.seq f_ _=>allS f_.toList|_=>Qn)|none=>Qn)=(match h.get? t with|some o=>(match o.data with|.seq f_ _=>allS f_.toList|_=>Qn)|none=>Qn);rw[kp _ _ g hc,g]) (λ{h v}⟨b,⟨t,o,f_,c,e,g,hc,hd,ha⟩,_⟩=>⟨b,by
  subst e;show(match h.get? t with|some o=>(match o.data with|.seq f_ _=>allS f_.toList|_=>Qn)|none=>Qn)=Qg b;rw[g];dsimp only;rw[hd];exact ha⟩) (λi f q=>X1 i (λv h=>let ⟨b,k1,k2⟩:=f v h;⟨b,k1,k2 i⟩) q) j f k λd l m=>q d l (m.imp λ{x y}h=>of_decide_eq_false (show decide (keyT s.heap y<keyT s.heap x)=Qp from h))
def TupS.mono{h h':aJ}(k:∀b o,h.get? b=Qg o->h'.get? b=Qg o){v:ae}{d:o_}(x:TupS h v d):TupS h' v d/\keyT h' v=keyT h v:=by obtain⟨t,o,a,c,rfl,g,f,i,j⟩:=x;have e:=k t o g;refine⟨⟨t,o,a,c,rfl,e,f,i,j⟩,?_⟩;show((match h'.get? t with|some o=>(match o.data with|.seq a _=>allS a.toList|_=>Qn)|none=>Qn):Option _).getD []=((match h.get? t with|some o=>(match o.data with|.seq a _=>allS a.toList|_=>Qn)|none=>Qn):Option _).getD [];rw[e,g]
def sorted_tups{prog:aE}{w:aG}{A:aY}{E:ae->aj->Prop}{s:aj}{l:af}{vs:List ae}{Q:ae->aj->Prop}(u:s.heap.IsList l vs.toArray)(g:∀v∈vs,∃c,TupS s.heap v c/\(2<=vs.length->c≠[]))(i:vs.length<=4000000)
  (h:∀a:Array ae,a.toList.Perm vs->a.toList.Pairwise (λx y=>¬ keyT s.heap y<keyT s.heap x)->Q (.ref<|s.heap.objs.size+1) { heap:=sortedAll s.heap vs a,gens:=s.gens,drawn:=s.drawn,toks:=s.toks,os:=s.os }):am (aq prog w) A (call (.builtin "sorted") [.ref l]) Q E s:=by
 have j:vs.length<=aK:=aP i 'b';refine f6 mh lL lN (lO _) ?_;unfold dN.«sorted»;refine aa (m:=checkCount "sorted" 1 1 _)<|ak ?_;refine aa<|collect_list u (aa<|fT ?_ j) j;have k:∀b o,s.heap.get? b=Qg o->(((s.heap.push<|seqObj "list" #[] 0).update s.heap.objs.size (br λx=>x++vs.toArray)).push<|seqObj "list" vs.toArray 0).get? b=Qg o:=λb o e=>by
  have B:s.heap.objs.size≠b:=λq=>absurd (aC e) (by rw[<- q];exact bV _);exact ai _ ((bg _ _ B).trans<|ai _ e)
 have n:(((s.heap.push<|seqObj "list" #[] 0).update s.heap.objs.size (br λx=>x++vs.toArray)).push<|seqObj "list" vs.toArray 0).get? ((s.heap.push<|seqObj "list" #[] 0).update s.heap.objs.size (br λx=>x++vs.toArray)).objs.size=Qg (seqObj "list" vs.toArray 0):=aA _ rfl;have C:((s.heap.push<|seqObj "list" #[] 0).update s.heap.objs.size (br λx=>x++vs.toArray)).objs.size=s.heap.objs.size+1:=by rw[fO,cB]
 refine aa (bD (bF kL ⟨_,n,rfl⟩ jY (Zj n (λv d=>by
  obtain⟨c,f,p⟩:=g v d;exact⟨c,(f.mono k).1,p⟩) i λa r G=>⟨_,rfl,?_⟩) (kM _)))
 refine ak ⟨_,rfl,?_⟩;have t:∀v∈a.toList,keyT (((s.heap.push<|seqObj "list" #[] 0).update s.heap.objs.size (br λx=>x++vs.toArray)).push<|seqObj "list" vs.toArray 0) v=keyT s.heap v:=λv d=>by
  obtain⟨c,f,p⟩:=g v<|r.mem_iff.mp d;exact(f.mono k).2
 have H:a.toList.Pairwise (λx y=>¬ keyT s.heap y<keyT s.heap x):=by
  refine List.Pairwise.imp_of_mem ?_ G;intro x y I J L;rw[<- t x I,<- t y J];exact L
 have:=h a r H;unfold sortedAll at this;rw[<- C] at this;exact this
end TS
namespace DL
open PySem
set_option tactic.hygienic true in
def U2(t:ms)(b:Array (Int×ae))(h:Int)(x:ae):(layNew t b h x).2.1.led=t.led:=by
 unfold layNew;split
 .rename_i a c _;show((t.put a).1.orStandIn _).led=_;unfold SetTable.orStandIn;split<;>rfl
 .rfl
def WX(t:ms)(a:Array (Int×ae))(n:Nat):(relayAll t a n).2.1.led=t.led/\(t.plain=Qp->(relayAll t a n).2.1.plain=Qp):=by
 unfold relayAll;cases h:t.relaid (a.map (·.1)) n with
 |none=>exact⟨rfl,λ_=>rfl⟩
 | some p=>
  obtain⟨c,b⟩:=p;have d:c.led=t.led/\c.plain=t.plain:=by
   unfold SetTable.relaid SetTable.laid at h;cases f:SetTable.layClean (SetTable.sizeAbove n-1) (a.map (·.1)) with
   |none=>rw[f] at h;cases h
   |some ow=>rw[f] at h;cases h;exact⟨rfl,rfl⟩
  dsimp only;split
  .exact⟨d.1,λe=>d.2.trans e⟩
  .exact⟨rfl,λ_=>rfl⟩
def uW(w:aG):Bool:=w.params.followText "set-order"
def rJ(e:Int×ae):ao:=match e.2 with
 |.str x _=>x
 |_=>⟨#[]⟩
def nO(P:aE)(w:aG)(a:af)(ks:List ao)(h:aJ):Prop:=
 ∃o es ep t,h.get? a=Qg o/\o.ExactSet/\o.data=.set es ep t/\iQ (strKind P w) es.toList/\(es.toList.map rJ).Perm ks/\ks.Nodup/\es.size<scanBound/\t.fits es.size=Qo/\(uW w=Qp->t.led=Qo)/\(es.size≠0->t.plain=Qp)
section
def nO.keep(k:∀o,h.get? a=Qg o->h'.get? a=Qg o):nO P w a ks h->nO P w a ks h':=λ⟨o,b,c,t,d,r⟩=>⟨o,b,c,t,k o d,r⟩
def nO.size(x:nO P w a ks h):∃o b c t,h.get? a=Qg o/\o.data=.set b c t/\b.size=ks.length:=by obtain⟨o,b,c,t,d,g,e,i,f,_⟩:=x;exact⟨o,b,c,t,d,e,by rw[<- f.length_eq];simp⟩
def Hc(h:iQ (strKind P w) l)(a:e∈l):∃t,e.2=.str (rJ e) t:=by obtain⟨⟨k,b,_⟩,_⟩:=h e a;obtain⟨t,c⟩:=iB b;exact⟨t,by unfold rJ;rw[c]⟩
def LP(h:e.2=.str (rJ e) t)(x:ao):(strKind P w).is x e.2=Qo↔rJ e=x:=by
 rw[h];constructor
 .intro q;obtain⟨b,a⟩:=iB (v:=.str (rJ e) t) q;injection a
 .intro q;rw[q];show eG x (.str x t)=Qo;simp[eG]
noncomputable def uo(ks:List ao)(x:ao):List ao:=if ks.contains x=Qo then ks else ks++[x]
def LO{h:aJ}{o:Obj}{f b:Array (Int×ae)}{c:Nat}{t t':ms}{d:List ao}(i:h.get? a=Qg o)(j:o.ExactSet)(e:o.data=.set f c t)(k:iQ (strKind P w) b.toList)(l:(b.toList.map rJ).Perm d)(m:d.Nodup)
  (n:b.size<scanBound) (p:t'.fits b.size=Qo) (q:uW w=Qp->t'.led=Qo) (r:b.size≠0->t'.plain=Qp):nO P w a d (h.update a<|kY b t')/\(h.update a<|kY b t').get? a=Qg { o with data:=.set b (c+1) t' }:=by have g:=bj (kY b t') i (by rw[putSet_of b t' e];rfl);rw[putSet_of b t' e] at g;exact⟨⟨_,b,c+1,t',g,j,rfl,k,l,m,n,p,q,r⟩,g⟩
set_option tactic.hygienic true in
def Q_{x:ao}{f:Tok}{Q:Bool->aj->Prop}(hS:nO P w a ks s.heap)(rC:ks.length+1<scanBound)
  (h:∀b h',cn a s.heap h'->nO P w a (uo ks x) h'->Q b { s with heap:=h' }):
  am (aq P w) A (setAddHashed a (.str x f)<|(strKind P w).hash x) Q E s:=by
 obtain⟨o,i,ep,t,m,B,n,k,l,Y,Z,C,G,pV⟩:=hS;have rE:(strKind P w).is x (.str x f)=Qo:=by show eG x (.str x f)=Qo;simp[eG]
 refine bD (aa<|eM m n C ?_);dsimp only;rw[byScan_of rfl Z k,Qs rfl];refine aa (aa<|dh (aa<|wpAny_setScan_of rE m n C k ?_));cases hr:List.findIdx? (λe=>(strKind P w).is x e.2) i.toList with
 | some j=>
  obtain⟨hj,H,_⟩:=gP.mp hr;have tw:x∈ks:=by
   obtain⟨t',I⟩:=Hc k<|fN hj;have:=(LP I x).mp H;exact l.mem_iff.mp<|bz.mpr ⟨_,fN hj,this⟩
  refine ak<|ak ?_;have:=h Qp s.heap (Heap.SameBut.refl a s.heap) (by
   unfold uo;rw[Qs<|fB.mpr tw];exact⟨o,i,ep,t,m,B,n,k,l,Y,Z,C,G,pV⟩)
  cases s;exact this
 | none=>
  have CJ:x∉ks:=λhm=>by
   obtain⟨e,he,ek⟩:=bz.mp<|l.mem_iff.mpr hm;obtain⟨t',I⟩:=Hc k he;have:=List.findIdx?_eq_none_iff.mp hr e he;rw[(LP I x).mpr ek] at this;cases this
  have ea:uo ks x=ks++[x]:=by unfold uo;rw[Qu (λz=>CJ<|fB.mp z)]
  have u:=layNew_perm t i ((strKind P w).hash x)<|.str x f;have J:=layNew_fits t i ((strKind P w).hash x)<|.str x f;have M:=U2 t i ((strKind P w).hash x)<|.str x f;generalize layNew t i ((strKind P w).hash x) (.str x f)=L at u J M ⊢;obtain⟨c,t1,wd,gv⟩:=L;rw[d0] at u;have CW:=(k.push rE rfl).perm u;have N:(c.toList.map rJ).Perm (ks++[x]):=by
   refine(u.map rJ).trans ?_;rw[eF];exact l.append_right _
  have CL:(ks++[x]).Nodup:=by
   rw[fq];exact⟨Y,by simp,λp l q v=>by
    have:q=x:=⇑v
    subst this;rintro rfl;exact CJ l⟩
  have Ft:c.size=ks.length+1:=by rw[<- aw,<- aW,N.length_eq];simp
  have O:c.size<scanBound:=by rw[Ft];exact rC
  have gw:∀(b:Bool){S:aj}{T:Unit->aj->Prop},T () S->am (aq P w) A (match b with|true=>rule "set.scan.the-table-gave-way"|false=>pure ()) T E S:=λb S T v=>by
   cases b
   .exact ak v
   .exact dh v
  refine aa<|gw _ ?_;have g:∀d:ms,d.led=t.led->d.plain=Qp->d.fits c.size=Qo->am (aq P w) A (do
    storeSet a c d
    if (!wd&&d.tooFull)=Qo then do
      (match (relayAll d c<|eT c.size).2.2 with|true=>rule "set.scan.the-table-gave-way"|false=>pure ())
      storeSet a (relayAll d c<|eT c.size).1 (relayAll d c<|eT c.size).2.1
      pure (Qg Qo)
     else pure (Qg Qo)) (λr s'=>am (aq P w) A (match r with|some added=>(pure added:Sem Bool)|none=>setAddHashedIn a (.str x f) ((strKind P w).hash x) 99999) Q E s') E s:=by
   intro d h1 h2 h3;obtain⟨S1,g1⟩:=LO m B n CW N CL O h3 (λe=>h1.trans<|G e) (λ_=>h2);have sb:=cF s.heap a<|kY c d;refine aa (wpAny_storeSet_of m n ?_<|jq O);split
   .have y:=relayAll_perm d c<|eT c.size;have rf:=relayAll_fits d c<|eT c.size;have U:=WX d c<|eT c.size;generalize relayAll d c (eT c.size)=R at y rf U ⊢;obtain⟨QK,t3,gv2⟩:=R;have s2:QK.size=c.size:=by rw[<- aw,y.length_eq,aw]
    have b2:QK.size<scanBound:=by rw[s2];exact O
    refine aa (gw _<|aa (wpAny_storeSet_of g1 rfl ?_<|jq b2));obtain⟨S2,_⟩:=LO g1 B rfl (CW.perm y) ((y.map rJ).trans N) CL b2 rf (λe=>U.1.trans (h1.trans<|G e)) (λ_=>U.2 h2);exact ak (ak (h Qo _ (sb.trans<|cF _ a _) (by rw[ea];exact S2)))
   .exact ak (ak (h Qo _ sb (by rw[ea];exact S1)))
  split
  .rename_i Qd;refine aa ?_;exact ak<|g { t1 with plain:=Qp } M rfl (SetTable.fits_plain_off J)
  .rename_i Qd;refine aa<|ak ?_;exact g t1 M ⇑Qd J
end
def uA(l:List ao):List ao:=l.foldl uo []
def Wk(l:List ao)(x:ao):uA (l++[x])=uo (uA l) x:=by unfold uA;rw[List.foldl_append];rfl
def V_(a:List ao)(x:ao):(uo a x).length<=a.length+1:=by unfold uo;split<;>simp
def Mb:∀(l:List ao),(uA l).length<=l.length:=λl=>by
 have:∀(l a:List ao),(l.foldl uo a).length<=a.length+l.length:=by
  intro l
  induction l with
  |nil=>intro a;exact ay _
  |cons x l ih=>intro a;refine aP (ih<|uo a x) ?_;have:=V_ a x;rw[a7];lia
 have h:=this l [];simpa [uA] using h
set_option tactic.hygienic true in
def VI:y∈uo ks x↔y∈ks\/y=x:=by
 unfold uo;split
 .rename_i h;exact⟨.inl,λq=>q.elim id λe=>by rw[e];exact fB.mp h⟩
 .rw[aO,cz]
def Mf:∀(l:List ao),y∈uA l↔y∈l:=λl=>by
 have:∀(l a:List ao),y∈l.foldl uo a↔y∈a\/y∈l:=by
  intro l
  induction l with
  |nil=>intro a;simp
  |cons x l ih=>intro a;rw[fZ,ih,VI,av];exact⟨λh=>by rcases h with(h|h)|h<;>simp[h],λh=>by rcases h with h|h|h<;>simp[h]⟩
 rw[uA,this];simp
section
def Ut(c:nO P w a ks s.heap)(d:ks.length+1<scanBound)
  (h:∀h',cn a s.heap h'->nO P w a (uo ks x) h'->Q .none { s with heap:=h',toks:=s.toks+1 }):
  am (aq P w) A (call (.builtin "set.add") [.ref a,.str x tk]) Q E s:=by obtain⟨o,j,k,t,e,f,r⟩:=id c;refine bF F.slot_set_add ⟨o,e,f.1⟩ F.entry_set_add ?_ (F.args_set_add_2 _ _);unfold dN.«set.add» mW;simp only[mw,bind_assoc];unfold m8 setAdd;refine aa (ak (aa (ak (aa (bD (aa ((strKind P w).pyHash (by show eG x (.str x tk)=Qo;simp[eG]) ?_)))))));refine Q_ c d λb h' g i=>?_;exact ak ⟨_,rfl,h h' g i⟩
end
section
variable{w:aG}
abbrev SW(w:aG):Obj:={ cls:=.type "set",dict:=Qn,data:=.set #[] 0 (.fresh 0 0<|!uW w) }
end
def LC:Manifest.owners.lookup (String.ofList ['r','o','t','a','r','e','t','i','_','t','e','s'].reverse)=Qg Manifest.sig_set_iterator:=by kernel_rfl
def oa:Slot "set_iterator" "__next__" "set_iterator.__next__":=Slot.of (owner := "set_iterator") (n := "__next__") (by rw[typeLookup_type,kN];kernel_rfl) 'c' 'c' 'c' (by first|exact .inl 'c'|exact .inr 'c') (by rw[isSubtype_type];kernel_rfl)
def L7:Slot "set_iterator" "__iter__" "set_iterator.__iter__":=Slot.of (owner := "set_iterator") (n := "__iter__") (by rw[typeLookup_type,kN];kernel_rfl) 'c' 'c' 'c' (by first|exact .inl 'c'|exact .inr 'c') (by rw[isSubtype_type];kernel_rfl)
def Vs:entryFor table "set_iterator.__next__" = Qg dN.«set_iterator.__next__»:=entryFor_of_tree 'u'
def UL(a:ae):argsOk "set_iterator.__next__" ⟨[a],[]⟩:=by unfold argsOk;rw[signature?_of (n:=['_','_','t','x','e','n','_','_']) 'u' LC];kernel_rfl
def TC(a:ae):argsOk "set_iterator.__iter__" ⟨[a],[]⟩:=by unfold argsOk;rw[signature?_of (n:=['_','_','r','e','t','i','_','_']) 'u' LC];kernel_rfl
def Wj:entryFor table "set.__iter__" = Qg dN.«frozenset.__iter__»:=entryFor_alias (id' := "frozenset.__iter__") 'u' rfl 'c' 'u'
def VD:entryFor table "set_iterator.__iter__" = Qg dN.«dict_keyiterator.__iter__»:=entryFor_alias (id' := "dict_keyiterator.__iter__") 'u' rfl 'c' 'u'
def Oj{α:Type}{l:List α}{i:Nat}{x:α}(h:l[i]?=Qg x):(x::l.eraseIdx i).Perm l:=by
 obtain⟨a,e⟩:=al.mp h;have q:l.take i++x::l.drop (i+1)=l:=by rw[<- e,List.getElem_cons_drop a,ci]
 rw[List.eraseIdx_eq_take_drop_succ];exact List.perm_middle.symm.trans (by rw[q])
set_option tactic.hygienic true in
theorem N2{α:Type}(next:Nat->Nat):∀(fuel k:Nat)(left:List α)(a:Array α),left.length=fuel->(lP next fuel k left a).toList.Perm (a.toList++left)
 | 0,k,left,a,h=>by
  have:left=[]:=d8.mp h;subst this;unfold lP;simp
 | fuel+1,k,left,a,h=>by
  unfold lP;have b:next k%left.length<left.length:=Nat.mod_lt _ 'd'
  rw[aB b];dsimp only;have e:=jh b;refine(N2 next fuel (k+1) _ _ (by rw[e];lia)).trans ?_;rw[d0,bd];exact eE _ (Oj<|aB b)
set_option tactic.hygienic true in
def E3{α:Type}(next:Nat->Nat)(a:Array α):(pickOrder next a).toList.Perm a.toList:=by
 unfold pickOrder;have:=N2 next a.size 0 a.toList #[] 'k'
 simpa using this
section
def Uv{a:Source}{n:Nat}{Q:Nat->aj->Prop}(b:n≠0)(h:∀i d,i<n->Q i { s with drawn:=d }):am (aq P w) A (choose a n) Q E s:=
 λc p _=>⟨b,h _ _ (Nat.mod_lt _<|Nat.pos_of_ne_zero b)⟩
theorem Ks{α:Type}:∀(n:Nat)(a:List α)(s:aj)(Q:List α->aj->Prop),a.length=n->(∀b d,b.Perm a->Q b { s with drawn:=d })->am (aq P w) A (drawOrder n a) Q E s
 | 0,a,s,Q,h,hq=>by
  have:a=[]:=d8.mp h;subst this;unfold drawOrder;exact ak (by have:=hq [] s.drawn<|eo _;cases s;exact this)
 |n+1,[],s,Q,h,hq=>by simp at h
 | n+1,x::a,s,Q,h,hq=>by
  unfold drawOrder;refine aa (Uv 'k' λi d c=>?_);rw[aB c];refine aa (Ks n _ _ _ (by rw[jh c];simpa using h) λb e f=>ak ?_);exact hq _ e<|(List.Perm.cons _ f).trans (Oj<|aB c)
abbrev uT(first:ae)(i:Nat)(a:af)(n ep:Nat):Obj:={ cls:=.type "set_iterator",data:=.fields #[first,bB i,.ref a,bB n,bB ep] }
def KG(c:s.TypeIs (.ref I) "set_iterator")(h:am (aq P w) A.in1 (dN.«set_iterator.__next__» ⟨[.ref I],[]⟩) (λf a=>∃v,f=.done (.ret v)/\Q (Qg v) a) (λe a=>∃o,e=.ref o/\(∃b,a.heap.get? o=Qg b/\b.cls=.type "StopIteration")/\Q Qn a) s):
  am (aq P w) A (pyNext<|.ref I) Q E s:=by
 unfold pyNext;refine aa (fR<|cm c oa (bF oa c Vs ?_<|UL _));refine bQ h (λf a d=>?_) λe a g=>?_
 .obtain⟨v,rfl,q⟩:=d;exact⟨v,rfl,ak q⟩
 .obtain⟨o,rfl,⟨b,i,j⟩,q⟩:=g;exact aa<|jF ⟨b,i,j⟩ isSubtype_stop (ak q)
end
section
def N7{α:Type}{Q:α->aj->Prop}(a:A.handled=Qn)(h:∀h' e,(∀b o,s.heap.get? b=Qg o->h'.get? b=Qg o)->(∃o,h'.get? e=Qg o/\o.cls=.type "StopIteration")->E (.ref e) { s with heap:=h' }):
  am (aq P w) A (newExc (.type "StopIteration") [] >>= λe=>(raiseNew e:Sem α)) Q E s:=by refine aa ?_;refine aa (cb (?_) (by size_fits));refine aa (j9 (by first|rfl|(simp;rfl)) (cb ?_ (by size_fits)));refine aa (wpAny_handled ?_);rw[a];refine aa (ak (wpAny_throw (h _ _ (λb o e=>ai _<|ai _ e) ⟨_,aA _ rfl,rfl⟩)))
def LH(b:s.heap.get? a=Qg o)(c:o.data=.set es ep t)(d:t.fits es.size=Qo)(g:uW w=Qo)(h:Q (((pickOrder (w.params.setOrder a ep) es)[i]?).map λe=>(e.2,sl)) s):
  am (aq P w) A (setNext a sl i ep) Q E s:=by have f:(aq P w).w.params.followText "set-order" = Qo:=g;refine aa<|eM b c d ?_;refine aa<|aa (ef<|ak ?_);rw[f,Qs rfl,Qu 'k'];refine aa ?_;refine aa<|eM b c d ?_;refine aa<|aa (ef<|ak ?_);rw[f,Qs rfl];exact aa<|ef (ak<|ak h)
def MB(b:s.heap.get? a=Qg o)(c:o.data=.set es ep t)(d:t.fits es.size=Qo)(e:uW w=Qp)(l:es.size<=1)(f:t.led=Qo)
  (h:Q (match es[er t.place sl]?,t.place[er t.place sl]? with|some (_,x),Qg j=>Qg (x,j+1)|_,_=>Qn) s):
  am (aq P w) A (setNext a sl i ep) Q E s:=by
 have g:(aq P w).w.params.followText "set-order" = Qp:=e;refine aa<|eM b c d ?_;refine aa<|aa (ef<|ak ?_);rw[g,Qu 'k'];show am _ _ (if (!t.plain&&decide (es.size>1))=Qo then _ else _) _ _ _;have k:(!t.plain&&decide (es.size>1))=Qp:=by
  rw[decide_eq_false 'd'];simp
 rw[k,Qu 'k'];refine aa ?_;show am _ _ (if (!t.led && !es.isEmpty)=Qo then _ else _) _ _ _;rw[f,Qu 'k'];exact ak<|ak h
def WB(b:s.heap.get? a=Qg o)(c:o.data=.set es ep t)(d:t.fits es.size=Qo)(e:es[pl]?=Qg x)(h:Q x.2 s):
  am (aq P w) A (setNextDrawn a pl ep) Q E s:=by refine aa<|eM b c d ?_;dsimp only;rw[Qu 'k',e];exact ak h
def Vi(b:s.heap.get? a=Qg o)(c:o.data=.set es ep t)(d:t.fits es.size=Qo)(f:es.size≠0->t.plain=Qp)(h:Q (!uW w&&decide (es.size>1)) s):am (aq P w) A (setDrawn a) Q E s:=by
 refine aa<|eM b c d ?_;refine aa (aa<|ef (ak<|ak ?_));have e:(!t.plain&&decide (es.size>1))=decide (es.size>1):=by
  by_cases q:es.size>1
  .rw[f 'd',decide_eq_true q];rfl
  .rw[decide_eq_false q];simp
 show Q (!uW w&&(!t.plain&&decide (es.size>1))) s;rw[e];exact h
def Ej{I:af}{f i:Nat}{R:Option (ae×Nat)}{Q:Option ae->aj->Prop}(l:s.heap.get? a=Qg o)(m:o.data=.set es ep t)(n:t.fits es.size=Qo)(c:s.heap.get? I=Qg (uT (bB f) i a es.size ep))(N:a≠I)(q:A.handled=Qn)
  (r:∀(B:aY)(Q':Option (ae×Nat)->aj->Prop)(E':ae->aj->Prop),Q' R s->am (aq P w) B (setNext a f i ep) Q' E' s)
  (u:∀v j,R=Qg (v,j)->∀h',cn I s.heap h'->h'.get? I=Qg (uT (bB j) (i+1) a es.size ep)->Q (Qg v) { s with heap:=h' })
  (x:R=Qn->∀h',iU I s.heap h'->Q Qn { s with heap:=h' }):am (aq P w) A (pyNext<|.ref I) Q E s:=by
 refine KG ⟨_,c,rfl⟩ ?_;unfold dN.«set_iterator.__next__» slotArgs;dsimp only;refine aa<|ak (aa<|wpAny_fieldsOf c rfl ?_);refine aa<|iF l m n ?_;rw[Qu 'k'];refine aa<|r _ _ _ ?_;cases g:R with
 | some p=>
  obtain⟨v,j⟩:=p;refine aa (cx c 'k' λy h d=>(aa (cx h 'k' λC G H=>?_)));exact ak ⟨v,rfl,u v j g C (d.trans H) G⟩
 | none=>
  refine aa (cx c 'k' λy h d=>(N7 ⇑q λh' e J L=>⟨e,rfl,L,x g h' λb k M z=>J b k<|d.extBut b k M z⟩))
def KI{I d:af}{i:Nat}{first:ae}{ps:qB}{Q:Option ae->aj->Prop}(l:s.heap.get? a=Qg o)(m:o.data=.set es ep t)(n:t.fits es.size=Qo)(c:s.heap.get? I=Qg (uT (.ref d) i a es.size ep))(ht:s.heap.get? d=Qg { cls:=.type "tuple",data:=.seq (ps.map λ(j:Nat)=>bB (j:Int)).toArray })(u:A.handled=Qn)
  (v:∀j x,ps[i]?=Qg j->es[j]?=Qg x->∀h',cn I s.heap h'->h'.get? I=Qg (uT (.ref d) (i+1) a es.size ep)->Q (Qg x.2) { s with heap:=h' }) (y:∀j,ps[i]?=Qg j->j<es.size)
  (B:ps[i]?=Qn->∀h',iU I s.heap h'->Q Qn { s with heap:=h' }):am (aq P w) A (pyNext<|.ref I) Q E s:=by
 refine KG ⟨_,c,rfl⟩ ?_;unfold dN.«set_iterator.__next__» slotArgs;dsimp only;refine aa<|ak (aa<|wpAny_fieldsOf c rfl ?_);refine aa<|iF l m n ?_;rw[Qu 'k'];refine aa<|fz ht rfl ?_;have C:((ps.map λ(j:Nat)=>bB (j:Int)).toArray)[((i:Int)).toNat]?=(ps[i]?).map λ(j:Nat)=>bB (j:Int):=by
  rw[eL,kA,bE]
 dsimp only;rw[C];cases f:ps[i]? with
 | some j=>
  have p:=y j f;refine aa<|WB l m n (aS p) ?_;exact aa (cx c 'k' λq g h=>(ak ⟨_,rfl,v j _ f (aS p) q h g⟩))
 | none=>
  refine aa (cx c 'k' λq g h=>(aa (cx g 'k' λL M G=>?_)));refine N7 ⇑u λh' e H J=>⟨e,rfl,J,B f h' λb k r z=>H b k (G.extBut b k r<|h.extBut b k r z)⟩
end
section
abbrev zN(os:List ao):Nat->ae->Prop:=λi v=>∃tk:Tok,v=.str (os.getD i ⟨#[]⟩) tk
def Ge(h:∃b,s.heap.get? I=Qg b/\b.cls=.type "set_iterator")(q:Q (.ref I) s):am (aq P w) A (pyIter<|.ref I) Q E s:=by
 have a:=h;refine jo a L7 (bF L7 a VD ?_<|TC _)
 wp_walk
 exact⟨_,rfl, "set_iterator",_,a,oa.lookup,q⟩
def GC(a:iQ (strKind P w) l)(h:l[i]?=Qg e):zN (l.map rJ) i e.2:=by obtain⟨b,c⟩:=Hc a<|aR h;refine⟨b,?_⟩;rw[cJ,bE,h];exact c
def Ul(l:o.data=.set es ep t)(m:t.fits es.size=Qo)(H:iQ (strKind P w) es.toList)(c:uW w=Qo)(u:A.handled=Qn)(q:a≠I):
  Walks P w A I [I,a] [I] es.size (zN<|(pickOrder (w.params.setOrder a ep) es).toList.map rJ) (λi h=>(∃f:Nat,h.get? I=Qg (uT (bB f) i a es.size ep))/\h.get? a=Qg o) where
 sub:=λb c=>by simp at c;simp[c]
 frame:=λi h n d x=>⟨let ⟨f,e⟩:=d.1;⟨f,x I 'k' _ e⟩,x a 'k' _ d.2⟩
 item:=λi s Q E S d k=>by
  obtain⟨⟨f,r⟩,g⟩:=d;have p:=E3 (w.params.setOrder a ep) es;have J:(pickOrder (w.params.setOrder a ep) es).size=es.size:=by rw[<- aw,p.length_eq,aw]
  have y:i<(pickOrder (w.params.setOrder a ep) es).size:=by lia
  refine Ej g l m r q u (λB L M h=>LH g l m c (by rw[aS y];exact h)) (λv j e n C N=>?_) λe=>by cases e
  cases e;refine k _ n s.toks (GC (H.perm p) (by rw[cT];exact aS y)) ⟨⟨_,N⟩,?_⟩ λb G c z=>?_
  .rw[C.2 a q];exact g
  .rw[C.2 b ⇑c];exact z
 done:=λs Q E d k=>by
  obtain⟨⟨f,r⟩,g⟩:=d;have p:=E3 (w.params.setOrder a ep) es;have J:(pickOrder (w.params.setOrder a ep) es).size=es.size:=by rw[<- aw,p.length_eq,aw]
  refine Ej g l m r q u (λB L M h=>LH g l m c (by rw[kl 'd'];exact h)) (λv j e=>by cases e) λ_ n O=>k n s.toks λb G c z=>O b G ⇑c z
 self:=λi s Q E d k=>Ge (let ⟨⟨f,e⟩,_⟩:=d;⟨_,e,rfl⟩) k
def TU(G:o.data=.set es ep t)(H:t.fits es.size=Qo)(S:iQ (strKind P w) es.toList)(J:A.handled=Qn)(T:a≠I)(U:tt≠I){ps:qB}(u:ps.Perm (de es.size)):
  Walks P w A I [I,a,tt] [I] es.size (zN<|(ps.filterMap λj=>es[j]?).map rJ) (λi h=>h.get? I=Qg (uT (.ref tt) i a es.size ep)/\h.get? a=Qg o/\h.get? tt=Qg { cls:=.type "tuple",data:=.seq (ps.map λ(j:Nat)=>bB (j:Int)).toArray }) where
 sub:=λb f=>by simp at f;simp[f]
 frame:=λi h n c v=>⟨v I 'k' _ c.1,v a 'k' _ c.2.1,v tt 'k' _ c.2.2⟩
 item:=λi s Q E hi c g=>by
  obtain⟨y,p,r⟩:=c;have k:ps.length=es.size:=by rw[u.length_eq];simp
  have B:∀j∈ps,j<es.size:=λj d=>iI.mp<|u.mem_iff.mp d;refine KI (first:=.ref tt) p G H y r J (λj x m L n C Y=>?_) (λj e=>B j<|aR e) λe=>absurd (ba.mp e) 'd';have Z:∀(l:qB),(∀j∈l,j<es.size)->(l.filterMap λj=>es[j]?)=l.map λj=>es.getD j default:=by
   intro l
   induction l with
   |nil=>intro _;rfl
   | cons q l ih=>
    intro h;have M:=h q aL;rw[dF,aS M,ih λj d=>h j<|ar _ d,dr];simp[Array.getD,M]
  have hx:(ps.filterMap λj=>es[j]?)[i]?=Qg x:=by
   rw[Z ps B,bE,m];have d:=B j<|aR m;rw[aS d] at L;have:=bL L;simp[Array.getD,d,this]
  have JC:iQ (strKind P w) (ps.filterMap λj=>es[j]?):=λe he=>by
   obtain⟨j,_,d⟩:=f9.mp he;exact S e (by rw[<- cT] at d;exact aR d)
  refine g _ n s.toks (GC JC hx) ⟨Y,?_,?_⟩ λb N f z=>?_
  .rw[C.2 a T];exact p
  .rw[C.2 tt U];exact r
  .rw[C.2 b ⇑f];exact z
 done:=λs Q E c g=>by
  obtain⟨y,p,r⟩:=c;have k:ps.length=es.size:=by rw[u.length_eq];simp
  have O:ps[es.size]?=Qn:=ba.mpr 'd';exact KI (first:=.ref tt) p G H y r J (λj x m=>by rw[O] at m;cases m) (λj e=>by rw[O] at e;cases e) λ_ n eb=>g n s.toks λb N f z=>eb b N ⇑f z
 self:=λi s Q E c g=>Ge ⟨_,c.1,rfl⟩ g
def UU(a:Array Nat)(h:a.size<=1):er a 0=0:=by
 unfold er;have:a.size=0\/a.size=1:=by lia
 rcases this with e|e
 .rw[e];rfl
 .rw[e];unfold md;rw[Qs 'd'];rfl
def Vg(a:Array Nat)(p:Nat)(h:a.size=1)(b:a[0]?=Qg p):er a (p+1)=1:=by
 unfold er;rw[h];unfold md;rw[Qs 'd'];dsimp only;have e:a.getD ((0+1)/2) (p+1)=p:=by
  rw[Array.getD_eq_getD_getElem?,b];rfl
 rw[e,Qs 'd'];rfl
def Vw(m:o.data=.set es ep t)(g:t.fits es.size=Qo)(M:iQ (strKind P w) es.toList)(c:uW w=Qp)(x:es.size<=1)(y:t.led=Qo)(C:A.handled=Qn)(p:a≠I):
  Walks P w A I [I,a] [I] es.size (zN<|es.toList.map rJ) (λi h=>(∃f:Nat,h.get? I=Qg (uT (bB f) i a es.size ep)/\er t.place f=i)/\h.get? a=Qg o) where
 sub:=λb c=>by simp at c;simp[c]
 frame:=λi h n d G=>⟨let ⟨f,e,q⟩:=d.1;⟨f,G I 'k' _ e,q⟩,G a 'k' _ d.2⟩
 item:=λi s Q E H d l=>by
  obtain⟨⟨f,r,u⟩,k⟩:=d;have N:t.place.size=es.size:=by simp only[mX,ck,beq_iff_eq] at g;exact g.1
  have O:i=0:=by lia
  subst O;have S:t.place.size=1:=by lia
  refine Ej k m g r p C (λB T U h=>MB k m g c x y (by rw[u,aS H,aS 'd'];exact h)) (λv j e n J Y=>?_) λe=>by cases e
  cases e;refine l _ n s.toks (GC M (by rw[cT];exact aS H)) ⟨⟨_,Y,Vg _ _ S<|aS _⟩,?_⟩ λb L c z=>?_
  .rw[J.2 a p];exact k
  .rw[J.2 b ⇑c];exact z
 done:=λs Q E d l=>by
  obtain⟨⟨f,r,u⟩,k⟩:=d;refine Ej k m g r p C (λB T U h=>MB k m g c x y (by rw[u,kl<|ay _];exact h)) (λv j e=>by cases e) λ_ n Z=>l n s.toks λb L c z=>Z b L ⇑c z
 self:=λi s Q E d l=>Ge (let ⟨⟨f,e,_⟩,_⟩:=d;⟨_,e,rfl⟩) l
end
section
theorem LD(a:Array (Int×ae)):∀(l:qB),(∀j∈l,j<a.size)->(l.filterMap λj=>a[j]?).length=l.length
 |[],_=>rfl
 | q::l,h=>by
  rw[dF,aS<|h q aL];rw[a7,a7,LD a l λj b=>h j<|ar _ b]
structure ItX(P:aE)(w:aG)(a:af)(ks:List ao)(s:aj)(I:af)(s1:aj):Prop where
 ex:∃(os:List ao)(fp:List af)(St:Nat->aJ->Prop),os.Perm ks/\I∈fp/\(∀b∈fp,b<s1.heap.objs.size)/\(∀b∈fp,b=a\/s.heap.objs.size<=b)/\(∀B:aY,B.handled=Qn->Walks P w B I fp [I] os.length (zN os) St)/\St 0 s1.heap
 keep:∀b o,s.heap.get? b=Qg o->s1.heap.get? b=Qg o
 ty:∃ob,s1.heap.get? I=Qg ob/\ob.cls=.type "set_iterator"
 new:s.heap.objs.size<=I
 gens:s1.gens=s.gens
 os:s1.os=s.os
def RN(hS:nO P w a ks s.heap)(h:∀I s1,ItX P w a ks s I s1->Q (.ref I) s1):am (aq P w) A (pyIter<|.ref a) Q E s:=by
 obtain⟨o,c,q,t,u,hx,C,Y,Z,hn,k,x,hl,pV⟩:=hS;have hT:s.TypeIs (.ref a) "set":=⟨o,u,hx.1⟩;have l:=aC u;refine jo hT F.slot_set_iter (bF F.slot_set_iter hT Wj ?_<|F.args_set_iter_1 _);unfold dN.«frozenset.__iter__» ng slotArgs;simp only[mw,Bool.not_true,cU,↓reduceIte,bind_assoc,jQ,bne_self_eq_false];refine aa<|ak (aa<|ak (aa<|aa (iF u C x<|ak (aa<|Vi u C x pV ?_))));have L:∀(first:ae)(p:aJ)(d:Drawn),(∀b G,s.heap.get? b=Qg G->p.get? b=Qg G)->s.heap.objs.size<=p.objs.size->
   (∃(M:List ao)(H:List af)(T:Nat->aJ->Prop),M.Perm ks/\p.objs.size∈H/\(∀b∈H,b<p.objs.size+1)/\(∀b∈H,b=a\/s.heap.objs.size<=b)/\(∀B:aY,B.handled=Qn->Walks P w B p.objs.size H [p.objs.size] M.length (zN M) T)/\T 0 (p.push<|uT first 0 a c.size q))->
   am (aq P w) A.in1 (setEpoch a >>= λe=>newFields "set_iterator" [first,bB 0,.ref a,bB c.size,bB e] >>= λv=>ret v) (λf s'=>∃r,f=.done (.ret r)/\∃T' r',s'.TypeIs r T'/\typeLookup (.type T') "__next__" = pure (Qg r')/\Q r s') E { s with heap:=p,drawn:=d }:=by
  intro first p d hk hz ⟨M,H,T,p1,p2,p3,p6,p4,p5⟩
  refine aa<|wpAny_setEpoch_of (hk a o u) C x ?_;refine aa (cb ?_ (by size_fits));have g:(p.push<|uT first 0 a c.size q).get? p.objs.size=Qg (uT first 0 a c.size q):=aA _ rfl;refine ak ⟨_,rfl, "set_iterator",_,⟨_,g,rfl⟩,oa.lookup,h _ _ ⟨⟨M,H,T,p1,p2,λb k=>?_,p6,p4,p5⟩,λb G e=>ai _<|hk b G e,⟨_,g,rfl⟩,hz,rfl,rfl⟩⟩;rw[cB];exact p3 b k
 cases JD:(!uW w&&decide (c.size>1)) with
 | true=>
  refine aa (Ks c.size (de c.size) _ _ 'k' λy d N=>aa<|iN ?_ ?_)
  .have O:(s.heap.push { cls:=.type "tuple",data:=.seq (y.map λ(j:Nat)=>bB (j:Int)).toArray }).objs.size=s.heap.objs.size+1:=cB ..;refine L (.ref s.heap.objs.size) _ d (λb G e=>ai _ e) (by rw[O];exact dH _) ?_;refine⟨(y.filterMap λj=>c[j]?).map rJ,[(s.heap.push { cls:=.type "tuple",data:=.seq (y.map λ(j:Nat)=>bB (j:Int)).toArray }).objs.size,a,s.heap.objs.size],(λi h=>h.get? (s.heap.push { cls:=.type "tuple",data:=.seq (y.map λ(j:Nat)=>bB (j:Int)).toArray }).objs.size=Qg (uT (.ref s.heap.objs.size) i a c.size q)/\h.get? a=Qg o/\h.get? s.heap.objs.size=Qg { cls:=.type "tuple",data:=.seq (y.map λ(j:Nat)=>bB (j:Int)).toArray }),?_,by simp,?_,?_,λB S=>?_,aA _ rfl,ai _<|ai _ u,ai _<|aA _ rfl⟩
   .refine(List.Perm.map rJ ?_).trans Z;have e1:(de c.size).filterMap (λj=>c[j]?)=c.toList:=by
     apply ma;intro i;have JA:∀n,n<=c.size->(de n).filterMap (λj=>c[j]?)=c.toList.take n:=by
      intro n
      induction n with
      |zero=>intro _;simp
      | succ n ih=>
       intro yN;rw[List.range_succ,List.filterMap_append,ih 'd',dF,List.filterMap_nil,aS 'd',kH,cT,aS 'd'];rfl
     rw[JA c.size<|ay _,cy 'k']
    rw[<- e1];exact N.filterMap _
   .intro b k;rw[O] at k ⊢;simp at k;rcases k with rfl|rfl|rfl
    .exact cj _
    .exact c8<|c8 l
    .exact c8<|cj _
   .intro b k;rw[O] at k;simp at k;rcases k with rfl|rfl|rfl
    .exact .inr<|dH _
    .exact .inl rfl
    .exact .inr<|ay _
   .have m:((y.filterMap λj=>c[j]?).map rJ).length=c.size:=by
     have e0:=LD c y λj hj=>iI.mp<|N.mem_iff.mp hj;rw[aW,e0,N.length_eq];simp
    rw[m];exact TU C x Y S (by rw[O];exact bb<|c8 l) (by rw[O];exact bb<|cj _) N
  .rw[aW,N.length_eq,List.length_range];exact jq k
 | false=>
  have this:=L (bB 0) s.heap s.drawn (λb G e=>e)<|ay _;have e0:({ s with heap:=s.heap,drawn:=s.drawn }:aj)=s:=by cases s;rfl
  refine this ?_;by_cases J:uW w=Qo
  .refine⟨(pickOrder (w.params.setOrder a q) c).toList.map rJ,[s.heap.objs.size,a],(λi h=>(∃U:Nat,h.get? s.heap.objs.size=Qg (uT (bB U) i a c.size q))/\h.get? a=Qg o),((E3 _ c).map rJ).trans Z,by simp,?_,?_,λB S=>?_,⟨0,aA _ rfl⟩,ai _ u⟩
   .intro b k;simp at k;rcases k with rfl|rfl
    .exact cj _
    .exact c8 l
   .intro b k;simp at k;rcases k with rfl|rfl
    .exact .inr<|ay _
    .exact .inl rfl
   .have m:((pickOrder (w.params.setOrder a q) c).toList.map rJ).length=c.size:=by rw[aW,(E3 _ c).length_eq];simp
    rw[m];exact Ul C x Y J S<|bb l
  .have J:uW w=Qp:=⇑J
   have p:c.size<=1:=by
    rw[J] at JD;simp at JD;exact JD
   have hpz:t.place.size=c.size:=by simp only[mX,ck,beq_iff_eq] at x;exact x.1
   refine⟨c.toList.map rJ,[s.heap.objs.size,a],(λi h=>(∃U:Nat,h.get? s.heap.objs.size=Qg (uT (bB U) i a c.size q)/\er t.place U=i)/\h.get? a=Qg o),Z,by simp,?_,?_,λB S=>?_,⟨0,aA _ rfl,UU _ 'd'⟩,ai _ u⟩
   .intro b k;simp at k;rcases k with rfl|rfl
    .exact cj _
    .exact c8 l
   .intro b k;simp at k;rcases k with rfl|rfl
    .exact .inr<|ay _
    .exact .inl rfl
   .have m:(c.toList.map rJ).length=c.size:=by simp
    rw[m];exact Vw C x Y J p (hl J) S<|bb l
end
section
def RJ(b:s.TypeIs (.ref a) "set")(h:Q Qp s):am (aq P w) A (Builtin.List.listLengthHint<|.ref a) Q E s:=by
 refine aa<|iq b F.slot_set_len.lookup ?_;have d:splitId "set.__len__" = Qg ("set", "__len__"):=by kernel_rfl
 have c:=sub_set_self;dsimp only;rw[d];refine aa<|jF b c ?_;exact aa (im b<|ak h)
theorem Pj:∀(a:List ao)(vs:List ae),vs.length=a.length->(∀j v,vs[j]?=Qg v->zN a j v)->fo vs a
 |[],[],_,_=>.nil
 |[],_::_,h,_=>by simp at h
 |_::_,[],h,_=>by simp at h
 | x::a,v::vs,h,q=>by
  obtain⟨b,e⟩:=q 0 v rfl;subst e;exact .cons x b (Pj a vs ⇑h λj u z=>by
   obtain⟨c,d⟩:=q (j+1) u ⇑z;exact⟨c,by simpa [List.getD] using d⟩)
def VP(B:A.handled=Qn)(C:nO P w a ks s.heap)(Z:ks.length<=1000)
  (h:∀(vs:List ae)(k:List ao)i,k.Perm ks->fo vs k->s.heap.objs.size<=i.heap.objs.size->(∀b o,s.heap.get? b=Qg o->i.heap.get? b=Qg o)->i.gens=s.gens->i.os=s.os->Q vs i):
  am (aq P w) A (collect<|.ref a) Q E s:=by
 obtain⟨o,es,ep,t,p,G,r⟩:=id C;have f:=aC p;refine aa (wpAny_runValue<|f7 F.entry_proto_collect ?_);refine aa (cb<|ak ⟨fU F.plain_list_iadd _,f7 F.entry_list_iadd ?_⟩);have g0:(s.heap.push { cls:=.type "list",data:=.seq ([]:List ae).toArray }).get? s.heap.objs.size=Qg { cls:=.type "list",data:=.seq ([]:List ae).toArray }:=aA _ rfl;have S0:nO P w a ks (s.heap.push { cls:=.type "list",data:=.seq ([]:List ae).toArray }):=C.keep λo e=>ai _ e;have T0:Shared.TypeIs { s with heap:=s.heap.push { cls:=.type "list",data:=.seq ([]:List ae).toArray } } (.ref a) "set":=⟨o,ai _ p,G.1⟩;show am _ A.in1 (Builtin.List.listExtendWith (.ref s.heap.objs.size) (.ref a)<|.ref s.heap.objs.size) _ _ _;refine aa<|im T0 ?_;have h1:jI (.ref s.heap.objs.size) (.ref a)=Qp:=by simp[jI,dQ f]
 rw[Qu (by rw[h1];decide)];refine aa (RN S0 λI i X=>?_);obtain⟨⟨k,fp,St,H,p2,p3,p6,J,p5⟩,u,ty,L,gn,oo⟩:=X;refine aa (bD<|RJ ⟨o,u a o<|ai _ p,G.1⟩ ?_);refine aa (dh<|aa ?_);obtain⟨x,g,d,tk,oss⟩:=i;have M:=u _ _ g0;refine aa<|fg M rfl ?_;have N:=bj (br (·.push bW)) M rfl;refine fg N rfl ?_;have g3:=bj (br (·.pop)) N rfl;have O:(nq { s with heap:=s.heap.push { cls:=.type "list",data:=.seq ([]:List ae).toArray } }).objs.size=s.heap.objs.size+1:=cB ..;have S:s.heap.objs.size∉fp:=λm=>by
  rcases p6 _ m with e|e
  .exact bV _ (e▸f)
  .rw[O] at e;exact Nat.not_succ_le_self _ e
 have W:=(J A.in1 ⇑B).toS;have T:∀b c,b≠s.heap.objs.size->x.get? b=Qg c->((x.update s.heap.objs.size<|br (·.push bW)).update s.heap.objs.size<|br (·.pop)).get? b=Qg c:=
  λb c l e=>(bg _ _<|bO l).trans<|(bg _ _<|bO l).trans e
 refine ak ⟨fU F.plain_extend_loop _,codeAny_extend_loopS W (aP (by rw[H.length_eq];exact Z) 'b') _ S _ k.length 0 _ _ _ rfl (cH _) ((J A.in1 ⇑B).frame 0 x _ p5 λb l c e=>T b c (λq=>S (q▸l)) e) g3 (ItemsOf.nil _) λs' n c' y U Y=>?_⟩;refine aa (kP U<|ak ?_);have rA:=Pj k n.toList ⇑Y.1 λj v e=>Y.2 j v (by rw[<- cT];exact e);refine h n.toList k s' H rA (fx<|aC U) (λb c e=>y.heap b c ?_<|T b c ?_ (u b c<|ai _ e)) (y.gens.trans gn)<|y.os.trans oo
 .simp;refine⟨λq=>absurd (aC e) (by rw[q];exact bV _),λq=>?_⟩;have l:=aC e;rw[O] at L;exact absurd (aV l<|lU L) (by rw[q];exact bV _)
 .exact λq=>absurd (aC e) (by rw[q];exact bV _)
end
end DL
namespace DL
open PySem PyProof.Rows
section
def TQ(v:A.handled=Qn)(x:nO P w a ks s.heap)(Z:ks.length<1000)
  (h:∀(f:Array ae)(g:List ao)l d c,g.Perm ks->sortedS g=Qo->fo f.toList g->s.heap.objs.size<=l->d.heap.get? l=Qg { cls:=.type "list",data:=.seq f c }->(∀b o,s.heap.get? b=Qg o->d.heap.get? b=Qg o)->d.gens=s.gens->d.os=s.os->Q (.ref l) d):
  am (aq P w) A (call (.builtin "sorted") [.ref a]) Q E s:=by
 refine f6 mh lL lN (lO _) ?_;unfold dN.«sorted»;refine aa (m:=checkCount "sorted" 1 1 _)<|ak ?_;refine aa (VP ⇑v x 'd' λi g d p k y B C G=>?_);have j:i.length=g.length:=k.length;have H:i.length<=4000000:=by rw[j,p.length_eq];lia
 refine aa<|fT ?_;have n:(d.heap.push<|seqObj "list" i.toArray 0).get? d.heap.objs.size=Qg (seqObj "list" i.toArray 0):=aA _ rfl;refine aa (bD (bF kL ⟨_,n,rfl⟩ jY (TS.list_sort_big lf n k.keysOf (λv1 v2 r e=>keyKind_strs (by rw[<- e];exact k)) H λI J L=>⟨_,rfl,?_⟩) (kM _)));obtain⟨M,N,O,S⟩:=sorted_out_str k J L;refine ak ⟨_,rfl,?_⟩;have T:=bj (br λ_=>#[]) n rfl;have U:=ai (seqObj "list" #[] 0)<|ai (seqObj "tuple" i.toArray 0) T;have Y:=bj (br λ_=>(Qw I).map (·.2)) U rfl;refine h _ M _ _ _ (O.trans p) S N ?_ Y (λb o e=>?_) C G
 .exact y
 .have t:=B b o e;have u:d.heap.objs.size≠b:=λq=>absurd (aC t) (by rw[<- q];exact bV _);exact(bg _ _ u).trans (ai _<|ai _ ((bg _ _ u).trans<|ai _ t))
end
end DL
namespace DL
open PySem L2 PyProof.Rows
def vZ(x:qB):o_->o_
 |[]=>[x]
 |y::r=>if x<y then x::y::r else if x=y then y::r else y::vZ x r
def sv(ss:o_):o_:=ss.foldl (λl x=>vZ x l) []
set_option tactic.hygienic true in
theorem og:∀{l:o_},y∈vZ x l↔y=x\/y∈l
 |[]=>by simp[vZ]
 | z::r=>by
  unfold vZ;split
  .simp
  .split
   .rename_i h;subst h;simp
   .rw[av,og,av];exact⟨λh=>by rcases h with h|h|h<;>simp[h],λh=>by rcases h with h|h|h<;>simp[h]⟩
set_option tactic.hygienic true in
theorem Nn:∀{l:o_},l.Pairwise (· < ·)->(vZ x l).Pairwise (· < ·)
 |[],_=>by simp[vZ]
 | z::r,h=>by
  obtain⟨b,c⟩:=bG.mp h;unfold vZ;split
  .rename_i a;exact bG.mpr ⟨λy hy=>by
    rcases av.mp hy with rfl|hy
    .exact a
    .exact jg a<|b y hy,h⟩
  .rename_i a;split
   .exact h
   .rename_i d;refine bG.mpr ⟨λy hy=>?_,Nn c⟩;rcases og.mp hy with rfl|hy
    .exact jx λq=>d (jH (gO.mp q)<|gO.mp a)
    .exact b y hy
def M3(a:o_):y∈sv a↔y∈a:=by
 have:∀(a l:o_),y∈a.foldl (λl x=>vZ x l) l↔y∈l\/y∈a:=by
  intro a
  induction a with
  |nil=>intro l;simp
  |cons x a ih=>intro l;rw[fZ,ih,og,av];exact⟨λh=>by rcases h with(h|h)|h<;>simp[h],λh=>by rcases h with h|h|h<;>simp[h]⟩
 rw[sv,this];simp
def NK(a:o_):(sv a).Pairwise (· < ·):=by
 have:∀(a l:o_),l.Pairwise (· < ·)->(a.foldl (λl x=>vZ x l) l).Pairwise (· < ·):=by
  intro a
  induction a with
  |nil=>intro l h;exact h
  |cons x a ih=>intro l h;exact ih _<|Nn h
 exact this a [] dZ
theorem Hg:∀{l m:o_},l.Pairwise (· < ·)->m.Pairwise (· < ·)->(∀x,x∈l↔x∈m)->l=m
 |[],[],_,_,_=>rfl
 |[],y::m,_,_,h=>absurd ((h y).mpr aL) 'k'
 |x::l,[],_,_,h=>absurd ((h x).mp aL) 'k'
 | x::l,y::m,hl,hm,h=>by
  obtain⟨c,f⟩:=bG.mp hl;obtain⟨d,g⟩:=bG.mp hm;have b:x=y:=by
   rcases av.mp ((h x).mp aL) with e|e
   .exact e
   .rcases av.mp ((h y).mpr aL) with e'|e'
    .exact e'.symm
    .exact absurd (jg (d x e)<|c y e')<|iP _
  subst b;rw[Hg f g λz=>⟨λa=>by
    rcases av.mp ((h z).mp<|ar _ a) with e|e
    .subst e;exact absurd (c z a)<|iP _
    .exact e,λa=>by
    rcases av.mp ((h z).mpr<|ar _ a) with e|e
    .subst e;exact absurd (d z a)<|iP _
    .exact e⟩]
abbrev toS(cs:qB):ao:=⟨cs.toArray⟩
theorem Hv:∀(p:ao)(l:List ao),risingS p l=Qo->(p::l).Nodup->((p::l).map (·.cps.toList)).Pairwise (· < ·)
 |p,[],_,_=>by simp
 | p,x::r,h,nd=>by
  unfold risingS at h;rw[ck,jn,ltCps_eq,decide_eq_false_iff_not] at h;obtain⟨c,d⟩:=cL.mp nd;have a:=Hv x r h.2 d;have b:=jx λq=>c (by
   have:=jH (gO.mp h.1)<|gO.mp q;have e:p=x:=by
    obtain⟨f⟩:=p;obtain⟨g⟩:=x;rw[show f=g from mo.mp this]
   rw[e];exact aL)
  refine bG.mpr ⟨λy hy=>?_,a⟩;rcases av.mp hy with rfl|hy
  .exact b
  .exact jg b<|(bG.mp a).1 y hy
def To{b:o_}{a:List ao}(c:a.Perm (uA<|b.map toS))(d:(uA<|b.map toS).Nodup)(e:sortedS a=Qo):a=(sv b).map toS:=by
 have f:(a.map (·.cps.toList)).Pairwise (· < ·):=by
  cases a with
  |nil=>exact dZ
  |cons p l=>exact Hv p l e<|c.nodup_iff.mpr d
 have g:=Hg f (NK b) λx=>by
  rw[M3,bz];constructor
  .rintro⟨o,h,rfl⟩;have:=(Mf _).mp<|c.mem_iff.mp h;obtain⟨k,i,rfl⟩:=bz.mp this;exact i
  .intro j;exact⟨toS x,c.mem_iff.mpr ((Mf _).mpr<|bz.mpr ⟨x,j,rfl⟩),rfl⟩
 rw[<- g,eZ];refine(List.map_id a).symm.trans (iG λo _=>?_);rfl
def nO.nd(x:nO P w a ks h):ks.Nodup:=by obtain⟨_,_,_,_,_,_,_,_,_,b,_⟩:=x;exact b
section
theorem Hx:∀{vs:List ae}{a:List ao},fo vs a->nz (a.map V.str) vs
 |_,_,.nil=>.nil
 |_,_,.cons y t h=>.cons ⟨t,rfl⟩ (Hx h)
def Wh(y:X.calm=Qo):nM X (.builtin "sorted") (λm H Q=>∃a e,m=[.ref a]/\H a=Qg (.ext<|nO X.prog X.w a e)/\e.length<1000/\∀l d,d.Perm e->e.Nodup->sortedS d=Qo->H l=Qn->Q (.ref l) (upd H l (.lst<|d.map V.str))):=by intro n s N H m O Q I r h;obtain⟨a,e,rfl,A,o,q⟩:=h;obtain⟨u,rfl,B⟩:=sD r;cases B;have p:=(I.hok a _ A).1;refine wT I (TQ (I.ok.hd y) p o λg d l C c t E G i J v L M P=>?_);have x:=I.hok.fresh i;have f:d.length<=aK:=aP (fx (by rw[t.length_eq];exact o)) 'b';have j:nN X.prog X.w (upd H l (.lst<|d.map V.str)) C.heap l (.lst<|d.map V.str):=⟨by rw[aW];exact f,g.toList,c,Hx G,by rw[J]⟩;have k:=I.hok.laid v i j;refine⟨.ref l,_,?_,rfl,q l d t p.nd E x⟩;exact I.call' M (Un.laid v i x) k (by rw[L];exact I.bare) (λb(hb:b∈([]:List af))=>absurd hb<|fM)
end
def yQ(te:DE):Em:=λσ O Qm=>(te σ O).bnd λv O1=>match v with
 |.str cs=>if Qm.length<1000 then .ok (Qm++[.str cs]) O1 else .bad
 |_=>.bad
def Ba(elt:aZ):uI where
 ex:=λgens scope pos=>.SetComp elt gens scope pos
 emit:=λQm env=>do let v <- eval elt env;standAt elt.pos;let _ <- call (.builtin "set.add") [Qm,v]
 new:=newSet<|.type "set"
 ho:=λP w a=>.ext<|nO P w a []
 G:=λ_ P w A _ H _ Qm=>∃ss:o_,Qm=ss.map D.str/\H A=Qg (.ext<|nO P w A (uA<|ss.map toS))
def Kl(S:nO P w a ks h):nN P w H h a (.ext<|nO P w a ks):=
 ⟨S,let ⟨o,_,_,_,ho,_⟩:=S;⟨o,ho⟩,λb c x k=>x.keep k⟩
def V2(c:aZ):yv (Ba c) where
 cl:=λ_ _ _=>rfl
 turn:=λd b g k n i j u l o m f=>by
  show compTurn (.SetComp c d b g) k n i j=_;unfold compTurn xC;rcases f with f|⟨v,y,B,f⟩
  .simp only[m,f];rfl
  .simp only[m,f,bne_self_eq_false,cU,if_false,bind_assoc,pure_bind]
   first|rfl|congr 1
 keep:=λ⟨p,e,q⟩ r x=>⟨p,e,x.keep _ _ q r⟩
 new:=λ{P w A E Q s}h=>by
  unfold Ba newSet setsByText;refine aa<|aa (ef<|ak ?_);dsimp only;simp only[newObj];refine aa (wpAny_alloc<|ak (h (SW w) rfl λH h a _ e=>Kl ?_));exact⟨_,#[],0,_,e,⟨rfl,rfl,rfl⟩,rfl,λe t=>by simp at t,by simp,by simp,by decide,by rfl,λe=>by show(!uW w)=Qo;rw[e];rfl,λe=>absurd rfl e⟩
 g0:=⟨[],rfl,pK⟩
 q1:=λ_ _ _ _ _ _ _=>rfl
 u1:=λ_ _ _ _ _ _ _ _=>rfl
 d1:=λ_ _ _ _ _ _ _ _ _=>rfl
 u2:=λ_ _ _ _ _ _ _ _=>rfl
 d2:=λ_ _ _ _ _ _ _ _ _=>rfl
def Kt(f:H A=Qg (.ext<|nO P w A ks))(S:nO P w A ks h):∀P2,nJ H P2->nJ (upd H A o) P2:=by
 rintro P2 ⟨k,a,l,m⟩;have n:P2≠A:=by rintro rfl;rw[f] at a;cases a
 refine⟨k,by rw[oN n];exact a,l,λb p e=>?_⟩;obtain⟨c,r,rfl,d,g⟩:=m b p e;have s:c≠A:=by
  rintro rfl;rw[f] at d;cases d;obtain⟨q,y,B,C,t,u,i,j,_⟩:=g h S;cases u;obtain⟨E,G,I,J,v,_,x,_⟩:=S;rw[v] at i;cases i;rw[x] at j;cases j
 exact⟨c,r,rfl,by rw[oN s];exact d,g⟩
section
def WV(M:X.xe=λ_ _=>False)(N:PD X pe elt te)(P:gens[k]?=Qn):xb X Z (Ba elt) A Qb e gens (yQ te) k []:=by
 intro a s C H i I O T Q E _ B q;unfold xC;rw[P];show am _ _ (do let v <- eval elt X.env;standAt elt.pos;let _ <- call (.builtin "set.add") [.ref A,v]) _ _ s;obtain⟨f,rfl,U⟩:=B.grown;cases j:te I O with
 | ok d O1=>
  have l:=q;unfold sE yQ at l;rw[j] at l;cases d with
  | str cs=>
   have n:vo X (Ba elt) A Qb a C H i (pj []) (if (f.map D.str).length<1000 then .ok (f.map D.str++[.str cs]) O1 else .bad) Q:=l;by_cases G:(f.map D.str).length<1000
   .rw[Qs G] at n;refine aa (xM M (N.out a s C H (λv p=>∃g,Ext H i p g/\nu X.K p (A::Qb) g O1/\Qe X.K p (A::Qb) g (.str cs) v) B.inv ⟨A::Qb,i,I,O,B.env,B.cells,by rw[j];exact λv H' Y x c r=>⟨Y,x,c,r⟩⟩)
     λu s1 ⟨v,p,J,ru,g,x,c,r⟩=>?_)
    have nA:A∉i:=λm=>B.cells.nh A m 'k';have y:=x.keep A _ U nA;unfold Qe at r;subst r;obtain⟨t,rfl⟩:=ru;have S:nO X.prog X.w A (uA<|f.map toS) s1.heap:=(J.hok A _ y).1;have hr:(uA<|f.map toS).length+1<scanBound:=by
     have h1:=Mb<|f.map toS;rw[aW] at h1 G;unfold scanBound;lia
    refine aa (eH<|aa (Ut S hr λL sb h=>ak ?_));rw[<- Wk] at h;have h:nO X.prog X.w A (uA<|(f++[cs]).map toS) L:=by rw[eF];exact h
    have yO:∃u,L.get? A=Qg u:=let ⟨o,_,_,_,ho,_⟩:=h;⟨o,ho⟩;exact n _ C _ g (J.write (x:=A) (e:=A) (by rw[y];exact trivial) (.inl rfl) (λb u hb hu=>(sb.2 b hb).trans hu) yO<|Kl h) (x.ea.trans (.putX<|Kt y S)) (c.putX<|Kt y S) ⟨f++[cs],by simp,pK⟩ rfl λ_ _=>rfl
   .rw[Qu G] at n;exact n.elim
  |_=>exact ah l
 | exc c O1=>
  unfold sE yQ at q;rw[j] at q;exact q.elim
 | bad=>
  unfold sE yQ at q;rw[j] at q;exact q.elim
end
section
def Xz(ext:List ao)(j:X.calm=Qo)(k:rn X Ex tg iter oR)(l:ui X.env.scope scope (X.N++ext) (pj<|⟨oR,g,ts⟩::cs))
  (n:∀cells C s H a,PG (ph X (X.N++ext) scope cells C s H a) tg (g.rd X.K)/\bP (λe t=>pO (ph X (X.N++ext) scope cells C s H a) pe e t) ifs ts/\nQ (ph X (X.N++ext) scope cells C s H a) gs cs/\PD (ph X (X.N++ext) scope cells C s H a) pe elt te)
  (o:∀x,bw iter X.env x=pure x:=by intro _;rfl):PE X (.SetComp elt (⟨tg,iter,ifs,0⟩::gs) scope pos) (λh H Q=>∃Qb μ b O,ny X.K H Qb μ b h/\nu X.K H Qb μ O/\Bn (Ba elt) Ex X.K X.prog X.w H Qb μ (xf ext.length oR g ts cs (yQ te) b O) λL d=>Q (.ref L) d):=by
 rintro i s h H Q I ⟨Qb,μ,b,O,p,r,q⟩;show am _ _ (comprehension (.SetComp elt (⟨tg,iter,ifs,0⟩::gs) scope pos) scope X.env _ (newSet<|.type "set") Qp<|eval iter X.env) _ _ s;refine BD (V2 elt) (use:=Qn) j k l (λcells u s H a _ _ _=>let ⟨h1,h2,h3,h4⟩:=n cells u s H a;⟨h1,h2,h3,λ_ _ _ v=>WV rfl h4 v⟩) o I p r ?_;cases f:xf ext.length oR g ts cs (yQ te) b O with
 |bad=>rw[f] at q;exact q
 |exc c' O'=>rw[f] at q;exact q
 | ok Qm O'=>
  rw[f] at q;intro L d y A x c B Z C E G J M P S T;obtain⟨m,U⟩:=G;exact⟨m,U,λh' Y=>⟨.ref L,d,Inv.bare E Y J M P S T,rfl,q L d y A x c B⟩⟩
theorem BG{K:ag}{H:Hp}{Qb μ:List af}:∀a:o_,nv K H Qb μ (a.map D.str) (a.map λcs=>V.str<|toS cs)
 |[]=>.nil
 |cs::r=>.cons EA<|BG r
def Q9(o:Bool)(r:R (List D)):R D:=r.bnd λQm O1=>match uJ Qm with
 |some ss=>if ss.length<1000 then (if o=Qo then .ok (.own O1.length) (O1++[(sv ss).map .str]) else .ok (.lst<|(sv ss).map .str) O1) else .bad
 |none=>.bad
def Bi(o:Bool)(ext:Nat)(oR:DI)(g:Tg)(ts:List DT)(cs:List Cl)(te:DE):DE:=λσ O=>Q9 o<|xf ext oR g ts cs (yQ te) σ O
theorem G_:∀a:o_,uJ (a.map D.str)=Qg a
 |[]=>rfl
 |cs::r=>by show(uJ<|r.map D.str).map _=_;rw[G_ r];rfl
def U9{P:aE}{w:aG}{H d:Hp}{Qb μ j:List af}{b:Ow}{L:af}{Q:VK}{o:Bool}{f:o_}{K:ag}(x:Ext H μ d j)(c:nu K d Qb j b)(k:d L=Qg (.ext<|nO P w L (uA<|f.map toS)))(m:f.length<1000)
  (q:pf Ex K H Qb μ (if o=Qo then .ok (.own b.length) (b++[(sv f).map .str]) else .ok (.lst<|(sv f).map .str) b) Q):
  ∃a h,[V.ref L]=[V.ref a]/\d a=Qg (.ext<|nO P w a h)/\h.length<1000/\∀l i,i.Perm h->h.Nodup->sortedS i=Qo->d l=Qn->Q (.ref l) (upd d l (.lst<|i.map V.str)):=by
 refine⟨L,_,rfl,k,i0 (Mb _) (by rw[aW];exact m),λl i n p r g=>?_⟩;have e:=To n p r;subst e;rw[eZ];cases o with
 |true=>exact post.ok (show pf Ex K H Qb μ (.ok (.own b.length)<|b++[(sv f).map .str]) Q from q) (x.trans<|.cell g) (c.cell g<|BG _)<|EW c.len
 |false=>exact post.ok (show pf Ex K H Qb μ (.ok (.lst<|(sv f).map .str) b) Q from q) (x.trans<|.laid g) (c.laid g) (Qe.newL c g<|BG _)
def U4(o:Bool)(ext:List ao)(h:X.calm=Qo)(k:Gl X x)(l:X.mg x=Qn)(m:bi x=Qg (.builtin "sorted"))(n:rn X Ex tg iter oR)(r:ui X.env.scope scope (X.N++ext) (pj<|⟨oR,g,ts⟩::cs))
  (u:∀cells C s H d,PG (ph X (X.N++ext) scope cells C s H d) tg (g.rd X.K)/\bP (λe t=>pO (ph X (X.N++ext) scope cells C s H d) pe e t) ifs ts/\nQ (ph X (X.N++ext) scope cells C s H d) gs cs/\PD (ph X (X.N++ext) scope cells C s H d) pe elt te)
  (v:∀x,bw iter X.env x=pure x:=by intro _;rfl) (w:x ≠ "__name__":=by decide) (y:pL x:=by decide):
  PD X Ex (.Call (.Name x p) [.SetComp elt (⟨tg,iter,ifs,0⟩::gs) scope pos] [] IE) (Bi o ext.length oR g ts cs te):=
 qd (BF (Wh h) k l m (u_ (Xz ext h n r u v) yr (by rfl)) w y (by rfl) (by rfl)) λa i j O I H Q A B q=>by
  refine⟨a,i,j,O,A,B,?_⟩;unfold Bi at q;cases f:xf ext.length oR g ts cs (yQ te) j O with
  |bad=>rw[f] at q;exact q
  |exc c' O'=>rw[f] at q;exact q
  | ok Qm O'=>
   rw[f] at q;rintro L J M P x c ⟨b,rfl,E⟩;have q:pf Ex X.K H a i (match uJ (b.map D.str) with|some b=>if b.length<1000 then (if o=Qo then .ok (.own O'.length) (O'++[(sv b).map .str]) else .ok (.lst<|(sv b).map .str) O') else .bad|none=>.bad) Q:=q;rw[G_] at q;obtain⟨G,q⟩:=post.ite q;exact U9 x c.unhide E G q
end
section
end
end DL
namespace DL
open PySem L2
structure Nx(l:List ao):Prop
section
variable{X:Cx}{Ex:Nat->Hp->Prop}{elt tg iter:aZ}{ifs:List aZ}{gs:List cD}{scope:cC}{pos rR py:Pos}{x y:ao}{i k:Nat}{ext:List ao}{oR:DI}{g:Tg}{ts:List DT}{cs:List Cl}{te:DE}
abbrev Be(X:Cx)(ext:List ao)(scope:cC)(tg:aZ)(g:Tg)(ifs:List aZ)(ts:List DT)(gs:List cD)(cs:List Cl)(elt:aZ)(te:DE):Prop:=∀cells C s H fp,PG (ph X (X.N++ext) scope cells C s H fp) tg (g.rd X.K)/\bP (λe t=>pO (ph X (X.N++ext) scope cells C s H fp) pe e t) ifs ts/\nQ (ph X (X.N++ext) scope cells C s H fp) gs cs/\PD (ph X (X.N++ext) scope cells C s H fp) pe elt te
def EL(_:Nx ext)(o:Bool)(a:X.calm=Qo)(b:ui X.env.scope scope (X.N++ext) (pj<|⟨oR,g,ts⟩::cs))(c:rn X Ex tg iter oR)(d:Be X ext scope tg g ifs ts gs cs elt te)(e:ext.length=k:=by rfl)(f:∀x,bw iter X.env x=pure x:=by intro _;rfl):
  PD X Ex (.ListComp elt (⟨tg,iter,ifs,0⟩::gs) scope pos) (qc o k oR g ts cs te):=e▸UQ o ext a c b d f
def EY(_:Nx ext)(o:Bool)(a:X.calm=Qo)(b:X.N.Nodup)(c:X.N[i]?=Qg y)(d:X.env.scope.names.lookup y=Qg .local)(e:ui X.env.scope scope (X.N++ext) (pj<|⟨oR,g,ts⟩::cs))(f:rn X Ex tg iter oR)(h:Be X ext scope tg g ifs ts gs cs elt te)
  (j:swapsWith (.ListComp elt (⟨tg,iter,ifs,0⟩::gs) scope pos) (Qg<|.Name y py) rR.line X.env=pure Qo) (l:ext.length=k:=by rfl) (m:∀x,bw iter X.env x=pure x:=by intro _;rfl):
  qE X Ex (.Assign [.Name y py] (.ListComp elt (⟨tg,iter,ifs,0⟩::gs) scope pos) rR) (pX i<|qc o k oR g ts cs te):=l▸X8 o ext a b c d f e h j m
def Ng(_:Nx ext)(o:Bool)(a:X.calm=Qo)(b:Gl X x)(c:X.mg x=Qn)(d:bi x=Qg (.builtin "sorted"))(e:ui X.env.scope scope (X.N++ext) (pj<|⟨oR,g,ts⟩::cs))(f:rn X Ex tg iter oR)(h:Be X ext scope tg g ifs ts gs cs elt te)(j:ext.length=k:=by rfl)(l:∀x,bw iter X.env x=pure x:=by intro _;rfl)
  (m:x ≠ "__name__":=by decide) (n:pL x:=by decide):PD X Ex (.Call (.Name x p) [.SetComp elt (⟨tg,iter,ifs,0⟩::gs) scope pos] [] IE) (Bi o k oR g ts cs te):=j▸U4 o ext a b c d f e h l m n
end
noncomputable def y4(c:DT)(b:DS):Nat->Sg->Ow->RS
 |0,_,_=>.bad
 | f+1,σ,O=>(c σ O).bnS λk O1=>if k=Qo then (match b σ O1 with
   |.nx σ' O'=>y4 c b f σ' O'
   |.ct σ' O'=>y4 c b f σ' O'
   |.bk σ' O'=>.nx σ' O'
   |r=>r) else .nx σ O1
def GU(f:Nat)(c:DT)(b:DS):DS:=y4 c b f
section
def WN(f:Nat)(y:iW (aq X.prog X.w) X.A X.env X.xe)(B:pO X Ex c tc)(C:qv X Ex body tb):qE X Ex (.While c body [] pos) (GU f tc tb):=
 yt (VR y B.out C.out) λa g b O E h H j l q=>by
  refine⟨λm h H=>∃a g b O,ny X.K H a g b h/\nu X.K H a g O/\nE Ex X.K H a g (y4 tc tb m b O) E,⟨f,a,g,b,O,j,l,q⟩,?_⟩;rintro m h H ⟨a,g,b,O,j,l,q⟩;cases m with
  |zero=>exact ah q
  | succ f=>
   refine uP.goS j l q λk n t o u J v p=>?_;cases k with
   |false=>exact p h t o .refl u v
   | true=>
    rw[Qs rfl];refine⟨λh H=>∃a g b O,ny X.K H a g b h/\nu X.K H a g O/\nE Ex X.K H a g (y4 tc tb f b O) E,λ_ _ z=>⟨f,cj _,z⟩,a,o,b,n,u,v,?_⟩;have p:nE Ex X.K t a o (match tb b n with|.nx σ' O'=>y4 tc tb f σ' O'|.ct σ' O'=>y4 tc tb f σ' O'|.bk σ' O'=>.nx σ' O'|r=>r) E:=p;cases i:tb b n with
    |nx σ' O'=>rw[i] at p;exact λG I s x e c=>⟨a,s,σ',O',e,c,nE.ext p x⟩
    |ct σ' O'=>rw[i] at p;exact λG I s x e c=>⟨a,s,σ',O',e,c,nE.ext p x⟩
    |bk σ' O'=>rw[i] at p;exact p
    |rt d O'=>rw[i] at p;exact p
    |exc c' O'=>rw[i] at p;exact p
    |bad=>rw[i] at p;exact p
end
section
end
end DL
namespace DL
open PySem L2 PyProof.Rows
abbrev DK:=Sum Int qB
noncomputable def yn:D->Option DK
 |.int i=>Qg<|.inl i
 |.str cs=>Qg<|.inr cs
 |_=>Qn
def A5(k:DK):D->Bool
 |.map [j] _=>decide<|j=k
 |_=>Qp
def Cs:List D->List DK
 |.map [k] _::r=>k::Cs r
 |_=>[]
def Ct:List D->List D
 |.map _ [d]::r=>d::Ct r
 |_=>[]
def tK(p:DK×D):D:=.map [p.1] [p.2]
theorem MS:∀ps:List (DK×D),Cs (ps.map tK)=ps.map (·.1)
 |[]=>rfl
 |p::r=>by show p.1::Cs (r.map tK)=_;rw[MS r];rfl
theorem Mj:∀ps:List (DK×D),Ct (ps.map tK)=ps.map (·.2)
 |[]=>rfl
 |p::r=>by show p.2::Ct (r.map tK)=_;rw[Mj r];rfl
def Eo:∀{a b:DK},kD a=kD b->a=b
 |.inl i,.inl j,h=>by cases h;rfl
 | .inr x,.inr y,h=>by
  have h:=nk h;have:x=y:=⇑h
  rw[this]
 |.inl _,.inr _,h=>by cases h
 |.inr _,.inl _,h=>by cases h
def Dj(tk tv:DE):Em:=λσ O Qm=>(tk σ O).bnd λx O1=>match yn x with
 |some k=>(tv σ O1).bnd λd O2=>if Qm.length<1000/\Qm.any (A5 k)=Qp then .ok (Qm++[.map [k] [d]]) O2 else .bad
 |none=>.bad
def z7(ke ve:aZ):uI where
 ex:=λgens scope pos=>.DictComp ke ve gens scope pos
 emit:=λQm env=>do
  let kv <- eval ke env;let vv <- holding [kv] (eval ve env)
  match Qm with
  | .ref d=>do
   standAt { ke.pos with endLine:=ve.pos.endLine,endCol:=ve.pos.endCol }
   holding [kv,vv] (dictSet d kv vv)
  |_=>unsupported "internal:dictcomp"
 new:=newDict
 ho:=λ_ _ _=>.dK []
 G:=λK _ _ A Qb H μ Qm=>∃(ps:List (DK×D))(vs:List V),Qm=ps.map tK/\H A=Qg (.dK<|(ps.map λp=>kD p.1).zip vs)/\ps.length=vs.length/\nv K H (A::Qb) μ (ps.map (·.2)) vs
def VQ(j l:aZ):yv (z7 j l) where
 cl:=λ_ _ _=>rfl
 turn:=λc b f k o g i A m p n d=>by
  show compTurn (.DictComp j l c b f) k o g i=_;unfold compTurn xC;rcases d with d|⟨B,C,E,d⟩
  .simp only[n,d];rfl
  .simp only[n,d,bne_self_eq_false,cU,if_false,bind_assoc,pure_bind]
   first|rfl|congr 1
 keep:=λ⟨q,r,e,s,t,u⟩ v x=>⟨q,r,e,x.keep _ _ s v,t,u.ext x⟩
 new:=λh=>cb (h _ rfl λH h a w e=>by
  refine⟨cH _,beq_eq_false_iff_ne.mpr (bO<|bb w),[],.nil,?_⟩;exact⟨_,#[],0,e,⟨rfl,rfl,rfl⟩,rfl,λ_ y=>by simp at y,Pairs.nil,mP⟩)
 g0:=⟨[],[],rfl,pK,rfl,.nil⟩
 q1:=λ_ _ _ _ _ _ _=>rfl
 u1:=λ_ _ _ _ _ _ _ _=>rfl
 d1:=λ_ _ _ _ _ _ _ _ _=>rfl
 u2:=λ_ _ _ _ _ _ _ _=>rfl
 d2:=λ_ _ _ _ _ _ _ _ _=>rfl
def xy(f:H A=Qg (.dK h_)):∀P2,nJ H P2->nJ (upd H A o) P2:=by
 rintro P2 ⟨g,a,h,i⟩;have j:P2≠A:=by rintro rfl;rw[f] at a;cases a
 refine⟨g,by rw[oN j];exact a,h,λb k e=>?_⟩;obtain⟨c,l,rfl,d,m⟩:=i b k e;have n:c≠A:=by rintro rfl;rw[f] at d;cases d
 exact⟨c,l,rfl,by rw[oN n];exact d,m⟩
theorem MW:∀(ps:List (DK×D))(vs:List V),(ps.map tK).any (A5 k)=Qp->sU ((ps.map λp=>kD p.1).zip vs) (kD k)=Qn
 |[],_,_=>rfl
 |_::_,[],_=>rfl
 | p::r,v::vs,h=>by
  rw[dr,gT,Bool.or_eq_false_iff] at h;obtain⟨a,b⟩:=h;have n:¬ p.1=k:=λe=>by
   have:decide (p.1=k)=Qp:=a;rw[decide_eq_true e] at this;cases this
  show sU ((kD p.1,v)::(r.map λp=>kD p.1).zip vs) (kD k)=Qn;rw[Ap (λe=>n<|Eo e)];exact MW r vs b
def Gq{K:ag}{H:Hp}{Qb μ:List af}{x:D}{k:DK}{v:V}(e:yn x=Qg k)(h:Qe K H Qb μ x v):v=kV (kD k):=by
 cases x with
 |int i=>cases e;unfold Qe at h;exact h
 |str cs=>cases e;unfold Qe at h;exact h
 |_=>cases e
section
def Xe{Z:L2.St->Hp->List af->Prop}{k:Nat}{e:aZ}(hx:X.xe=λ_ _=>False)(N:PD X pe ke tk)(P:PD X pe ve tv)(hk:gens[k]?=Qn):xb X Z (z7 ke ve) A Qb e gens (Dj tk tv) k []:=by
 intro a s i H j l O Qm Q E _ B q;unfold xC;rw[hk];show am _ _ (do
  let kv <- eval ke X.env;let vv <- holding [kv] (eval ve X.env)
  (do
   standAt { ke.pos with endLine:=ve.pos.endLine,endCol:=ve.pos.endCol }
   holding [kv,vv] (dictSet A kv vv))) _ _ s
 obtain⟨b,C,rfl,hA,S,dA⟩:=B.grown;unfold sE Dj at q;cases G:tk l O with
 |exc c O1=>rw[G] at q;exact q.elim
 |bad=>rw[G] at q;exact q.elim
 | ok x O1=>
  rw[G] at q;have f:vo X (z7 ke ve) A Qb a i H j (pj []) (match yn x with
   |some k=>(tv l O1).bnd λd n=>if (b.map tK).length<1000/\(b.map tK).any (A5 k)=Qp then .ok (b.map tK++[.map [k] [d]]) n else .bad
   |none=>.bad) Q:=q
  cases T:yn x with
  |none=>rw[T] at f;exact f.elim
  | some kk=>
   rw[T] at f;refine aa (xM hx (N.out a s i H (λv g=>∃h,Ext H j g h/\nu X.K g (A::Qb) h O1/\Qe X.K g (A::Qb) h x v) B.inv ⟨A::Qb,j,l,O,B.env,B.cells,by rw[G];exact λv H' U x c r=>⟨U,x,c,r⟩⟩)
    λu s1 ⟨v,g,I1,ru,h,x1,c1,r1⟩=>?_)
   cases I:tv l O1 with
   |exc c n=>rw[I] at f;exact f.elim
   |bad=>rw[I] at f;exact f.elim
   | ok d n=>
    rw[I] at f;have J:vo X (z7 ke ve) A Qb a i H j (pj []) (if (b.map tK).length<1000/\(b.map tK).any (A5 kk)=Qp then .ok (b.map tK++[.map [kk] [d]]) n else .bad) Q:=f;by_cases L:(b.map tK).length<1000/\(b.map tK).any (A5 kk)=Qp
    .rw[Qs L] at J;refine aa (bD (xM hx (P.out a s1 i g (λv M=>∃o,Ext g h M o/\nu X.K M (A::Qb) o n/\Qe X.K M (A::Qb) o d v) I1 ⟨A::Qb,h,l,O1,B.env.ext x1,c1,by rw[I];exact λv H' U x c r=>⟨U,x,c,r⟩⟩)
      λu2 s2 ⟨v2,M,I2,Y,o,x2,c2,r2⟩=>?_))
     refine aa (eH<|bD ?_);have nA:A∉j:=λm=>B.cells.nh A m 'k';have Iz:=x1.trans x2;have t:=Iz.keep A _ hA nA;have dA2:=dA.ext Iz;have ek:=Gq T r1;subst ek;obtain⟨z,hd,ws,w,dd⟩:=Gd I2.hok t;have y:((b.map λp=>kD p.1).zip C).length=b.length:=by rw[mF,aW,<- S,Nat.min_self]
     have hlp:b.length<1000:=by have:=L.1;rwa [aW] at this
     have hz:ws.length<=aK:=by rw[<- w.length];exact z
     refine wpAny_dictSet_pairs (Gn ru) dd λh' zK sb=>?_;have he:∃q,h'.get? A=Qg q:=let ⟨q,_,_,hq,_⟩:=zK;⟨q,hq⟩;have qZ:(yU ((b.map λp=>kD p.1).zip C) (kD kk) v2).length<=aK:=aP (Ym _ _ _) (by rw[y];exact aP hlp 'b');have I3:=Ml (t':=s2.toks+1) I2 (by rw[t];exact dR) sb he<|GL qZ hd (w.put _ Y) zK;rw[Wm _<|MW b C L.2] at I3;refine J _ i _ o I3 (Iz.ea.trans (.putX<|xy t)) (c2.putX<|xy t) ⟨b++[(kk,d)],C++[v2],by rw[eF];rfl,?_,by simp[S],?_⟩ rfl λ_ _=>rfl
     .rw[pK,eF,List.zip_append (by rw[aW];exact S)];rfl
     .rw[eF];exact(dA2.append<|.cons r2 .nil).mv (Ea.putX<|xy t).mv
    .rw[Qu L] at J;exact J.elim
end
def Inv.swapK(I:L2.Inv X Qc σ H s)(e:H a=Qg u0)(h:(∃i,u0=.dK i) \/ ∃o i,u0=.frz o (.dK i))(r:∀o u,X.H₀ a≠Qg (.frz o u))(j:nN X.prog X.w (upd H a u1) s.heap a u1):L2.Inv X Qc σ (upd H a u1) s:=by
 have k:∀{b:af}{d:List V},H b=Qg (.tup d)->b≠a:=λ{b d}z q=>by
  rw[q,e] at z;rcases h with⟨_,rfl⟩|⟨_,_,rfl⟩<;>cases z
 have f:∀{b:af},H b=Qn->upd H a u1 b=Qn:=λ{b}z=>by rw[oN (bO<|qS e z)];exact z
 refine⟨I.ok,I.os,I.bare,⟨I.base.keep,I.base.slot,λb o g n t=>f<|I.base.free b o g n t,I.base.there,λb d g=>?_,λb o u g=>?_,λb v g=>?_⟩,I.loc,I.cell,f I.free,λx c g=>f<|I.freeC x c g,λp y=>let ⟨g1,g2,g3⟩:=I.pin p y;⟨g1,f g2,g3⟩,λb u g=>?_,I.len,I.tk⟩
 .have z:=I.base.tups b d g;rw[oN<|k z];exact z
 .have n:b≠a:=λq=>r o u (q▸g);rw[oN n];exact I.base.frzs b o u g
 .obtain⟨m,z⟩:=I.base.tbls b v g;refine⟨m,?_⟩;rw[oN (λq=>?_)];exact z;rw[q,e] at z;rcases h with⟨_,rfl⟩|⟨_,_,rfl⟩<;>cases z
 .by_cases l:b=a
  .subst l;rw[pK] at g;cases g;exact j
  .rw[oN l] at g;refine(I.hok b u g).stay (λ_ _ _ z=>z) (λA z=>?_) λA d z=>?_
   .rw[oN (λq=>?_)];exact z;rw[q,e] at z;rcases h with⟨_,rfl⟩|⟨_,_,rfl⟩<;>cases z
   .rw[oN<|k z];exact z
def Inv.nofrz(I:L2.Inv X Qc σ H s)(e:H a=Qg (.dK h_)):∀o u,X.H₀ a≠Qg (.frz o u):=λo u z=>by
 have:=I.base.frzs a o u z;rw[e] at this;cases this
def Inv.frzK(I:L2.Inv X Qc σ H s)(e:H a=Qg (.dK h_)):∃o,L2.Inv X Qc σ (upd H a (.frz o<|.dK h_)) s:=by obtain⟨z,d,f,b,c⟩:=Gd I.hok e;obtain⟨o,h,i,g,r⟩:=id c;exact⟨o,Inv.swapK I e (.inl ⟨_,rfl⟩) (Inv.nofrz I e) ⟨g,z,d,f,b,c⟩⟩
def Inv.thawK(I:L2.Inv X Qc σ H s)(e:H a=Qg (.frz o<|.dK h_))(c:∀o u,X.H₀ a≠Qg (.frz o u)):L2.Inv X Qc σ (upd H a<|.dK h_) s:=by obtain⟨z,d,f,b,g⟩:=D9 I.hok<|.inr ⟨o,e⟩;exact Inv.swapK I e (.inr ⟨_,_,rfl⟩) c ⟨z,d,f,b,g⟩
def X2{K:ag}{H:Hp}{Qb μ:List af}{O:Ow}{L:af}{ps:List (DK×D)}{vs:List V}{o:Obj}(c:nu K H (L::Qb) μ O)(a:L∉Qb)(h:H L=Qg (.frz o (.dK<|(ps.map λp=>kD p.1).zip vs)))(b:ps.length=vs.length)(q:nv K H (L::Qb) μ (ps.map (·.2)) vs):
  Qe K H Qb μ (.map (Cs<|ps.map tK) (Ct<|ps.map tK)) (.ref L):=by rw[MS,Mj];exact⟨L,vs,rfl,⟨o,by rw[eZ];exact h⟩,a,λm=>c.nh L m 'k',by rw[aW];exact b,q.mv .unhide⟩
def Bv(ext:Nat)(oR:DI)(g:Tg)(ts:List DT)(cs:List Cl)(tk tv:DE):DE:=λσ O=>(xf ext oR g ts cs (Dj tk tv) σ O).bnd λQm O1=>.ok (.map (Cs Qm)<|Ct Qm) O1
section
def Rp{i j f b:aZ}{c:List aZ}{h:List cD}{a:cC}{l:Pos}{ext:List ao}{g:Tg}{m:List DT}{n:List Cl}{o p:DE}
  (q:∀cells C s H d,PG (ph X (X.N++ext) a cells C s H d) f (g.rd X.K)/\bP (λe t=>pO (ph X (X.N++ext) a cells C s H d) pe e t) c m/\nQ (ph X (X.N++ext) a cells C s H d) h n/\PD (ph X (X.N++ext) a cells C s H d) pe i o/\PD (ph X (X.N++ext) a cells C s H d) pe j p) {Z:af->Hp->L2.St->Hp->List af->Prop} (cells Cn s H d):
  PG (ph X (X.N++ext) a cells Cn s H d) f (g.rd X.K)/\bP (λe t=>pO (ph X (X.N++ext) a cells Cn s H d) pe e t) c m/\nQ (ph X (X.N++ext) a cells Cn s H d) h n/\∀A Qb k,(⟨f,b,c,0⟩::h:List cD)[k]?=Qn->xb (ph X (X.N++ext) a cells Cn s H d) (Z A H) (z7 i j) A Qb ((z7 i j).ex (⟨f,b,c,0⟩::h) a l) (⟨f,b,c,0⟩::h) (Dj o p) k []:=
 let ⟨h1,h2,h3,h4,h5⟩:=q cells Cn s H d
 ⟨h1,h2,h3,λ_ _ _ r=>Xe rfl h4 h5 r⟩
def VO(ext:List ao)(E:X.calm=Qo)(G:rn X Ex tg iter oR)(M:ui X.env.scope scope (X.N++ext) (pj<|⟨oR,g,ts⟩::cs))
  (P:∀cells C s H a,PG (ph X (X.N++ext) scope cells C s H a) tg (g.rd X.K)/\bP (λe t=>pO (ph X (X.N++ext) scope cells C s H a) pe e t) ifs ts/\nQ (ph X (X.N++ext) scope cells C s H a) gs cs/\PD (ph X (X.N++ext) scope cells C s H a) pe ke tk/\PD (ph X (X.N++ext) scope cells C s H a) pe ve tv)
  (S:∀x,bw iter X.env x=pure x:=by intro _;rfl):PD X Ex (.DictComp ke ve (⟨tg,iter,ifs,0⟩::gs) scope pos) (Bv ext.length oR g ts cs tk tv):=by
 refine⟨?_⟩;rintro j s a_ H Q I ⟨f,μ,T,O,U,k,q⟩;show am _ _ (comprehension (.DictComp ke ve (⟨tg,iter,ifs,0⟩::gs) scope pos) scope X.env _ newDict Qp<|eval iter X.env) _ _ s;unfold Bv at q;refine BD (VQ ke ve) E G M (λcells Y s H a _ _ _=>Rp P cells Y s H a) S I U k ?_;cases h:xf ext.length oR g ts cs (Dj tk tv) T O with
 |bad=>rw[h] at q;exact q
 |exc c' O'=>rw[h] at q;exact q
 | ok Qm O'=>
  rw[h] at q;rintro L l r v x c ⟨w,y,rfl,i,Z,dA⟩ s' C I' ns nC l1 y1 ce pn;obtain⟨m,hn⟩:=ns;have n1:L∉f:=λm=>k.ht L m v;refine⟨m,hn,λh' xV=>?_⟩;obtain⟨o,J⟩:=Inv.frzK (Inv.bare I' xV nC l1 y1 ce pn) i;have A:Ea L l r (upd l L<|.frz o (.dK<|(w.map λp=>kD p.1).zip y)) r:=.putX<|xy i;have B:=c.putX (o:=.frz o (.dK<|(w.map λp=>kD p.1).zip y))<|xy i;have d:=x.ea.trans A;exact⟨.ref L,_,J,rfl,post.ok q ⟨d.pre,λb u g n ht=>d.kept b u g n (qS g v) ht,d.fresh,d.there,d.tab⟩ B.unhide (X2 B n1 pK Z<|dA.mv A.mv)⟩
end
def Uo{b:o_}{a:List ao}(d:a.Perm (b.map toS))(f:b.Nodup)(g:sortedS a=Qo):a=(sv b).map toS:=by
 have i:(b.map toS).Nodup:=by
  rw[List.nodup_iff_pairwise_ne] at f ⊢;rw[jr];refine f.imp λh e=>h ?_;have e:(toS _).cps=(toS _).cps:=congrArg Str.cps e;simpa using e
 have j:(a.map (·.cps.toList)).Pairwise (· < ·):=by
  cases a with
  |nil=>exact dZ
  |cons p l=>exact Hv p l g<|d.nodup_iff.mpr i
 have k:a.map (·.cps.toList)=sv b:=Hg j (NK b) λx=>by
  rw[M3,bz];constructor
  .rintro⟨o,m,rfl⟩;obtain⟨r,n,rfl⟩:=bz.mp<|d.mem_iff.mp m;exact n
  .intro q;exact⟨toS x,d.mem_iff.mpr<|bz.mpr ⟨x,q,rfl⟩,rfl⟩
 rw[<- k,eZ];refine(List.map_id a).symm.trans (iG λo _=>?_);obtain⟨c⟩:=o;rfl
section
end
section
end
def yX(k:DK):List DK->List D->Option D
 |j::ks,d::ds=>if j=k then Qg d else yX k ks ds
 |_,_=>Qn
theorem M4{K:ag}{H:Hp}{Qb μ:List af}{k:DK}{d:D}:∀{a:List DK}{ds:List D}{vs:List V},a.length=vs.length->nv K H Qb μ ds vs->yX k a ds=Qg d->∃v,sU ((a.map kD).zip vs) (kD k)=Qg v/\Qe K H Qb μ d v
 |[],_,_,_,_,h=>by unfold yX at h;cases h
 |_::_,[],_,_,_,h=>by unfold yX at h;cases h
 |j::a,d'::ds,[],hl,_,_=>by cases hl
 | j::a,d'::ds,v::vs,hl,dd,h=>by
  obtain⟨g,i,b,c,f⟩:=(show ∃w r,v::vs=w::r/\Qe K H Qb μ d' w/\nv K H Qb μ ds r from dd);cases b;unfold yX at h;show ∃w,sU ((kD j,v)::(a.map kD).zip vs) (kD k)=Qg w/\_;by_cases e:j=k
  .rw[Qs e] at h;cases h;exact⟨v,BK<|congrArg kD e,c⟩
  .rw[Qu e] at h;rw[Ap (λz=>e<|Eo z)];exact M4 (lQ hl) f h
def D3(td ty:DE):DE:=λσ O=>(td σ O).bnd λx O1=>match x with
 | .map ks ds=>(ty σ O1).bnd λy O2=>match yn y with
  | some k=>match yX k ks ds with
   |some d=>.ok d O2
   |none=>.bad
  |none=>.bad
 |_=>.bad
section
def Ws{o i:aZ}{f:Pos}{n p:TE}(t:PE X o n)(w:PE X i p)(A:A8 i):PE X (.Subscript o i f) (λc H Q=>n c H λx g=>p c g λy d=>∃a j k v,x=.ref a/\Rd d a (.dK j)/\y=kV k/\sU j k=Qg v/\Q v d):=by intro b s c H Q I h;refine G2 fY.lookup A (oO (t b s c H _ I h) λu B ⟨x,g,C,E,G⟩=>oO (w b B c g _ C G) λS T ⟨y,d,q,J,a,j,k,v,L,e,M,l,N⟩=>?_);subst L M;obtain rfl:u=bJ a:=E;obtain⟨z,U,Y,m,r⟩:=D9 q.hok e;obtain⟨Z,O,P⟩:=nR.some_of (by rw[<- l];exact m.val k);exact⟨r.mapOf.typeIs,jC (Gn J) r.mapOf O ⟨v,d,q.tok _,P,N⟩⟩
def TY(g:PD X Ex o td)(h:PD X Ex i ty)(j:A8 i):PD X Ex (.Subscript o i pos) (D3 td ty):=
 qd (Ws g.out h.out j) λl L M O N H Q m n q=>rd.go m n q λd P v S T s x t r p=>by
  cases d with
  | map ks ds=>
   refine rd.go s t p λy U w Y Z e3 u A B b=>?_;have f:=Qe.ext u r;unfold Qe at f;obtain⟨a,vs,rfl,C,n1,n2,E,G⟩:=f;cases c:yn y with
   |none=>rw[c] at b;exact b.elim
   | some k=>
    rw[c] at b;dsimp only at b;cases e:yX k ks ds with
    |none=>rw[e] at b;exact b.elim
    | some d=>
     rw[e] at b;obtain⟨v,I,J⟩:=M4 E G e;exact⟨a,_,kD k,v,rfl,.inr C,Gq c B,I,post.here b A J⟩
  |_=>exact ah p
end
section
def SI:bi "sum" = Qg (.builtin "sum"):=by boot_by_name
def Xn(i:X.calm=Qo):nM X (.builtin "sum") (λc H Q=>∃(p:af)(a:List Int),c=[.ref p]/\pI X.K H p (a.map V.int)/\Q (.int a.sum) H):=by
 intro d s v H c w Q I r h;obtain⟨p,a,rfl,j,q⟩:=h;obtain⟨u,rfl,k⟩:=sD r;cases k;obtain⟨x,l,m,y⟩:=I.list j;have e:=Of l;obtain⟨b,f⟩:=e.allInts.items;have n:a=b.toList.map (·.1):=by rw[<- e.numsOf,<- lm,<- f]
 have g:=m.isList;rw[f] at g;refine wT I (sum_intListG (I.ok.hd i) g λA B C o E=>?_);have t:preSum (numAt b) b.size=a.sum:=by
  rw[preSum_eq,cy 'k',n]
 rw[t];exact⟨.int _,H,I.kept o,⟨_,rfl⟩,q⟩
def DU:Ow->List D->R D:=λO xs=>match xs with
 | [x]=>match tN O x with
  | some ds=>match z9 ds with
   |some ns=>.ok (.int ns.sum) O
   |none=>.bad
  |none=>.bad
 |_=>.bad
set_option tactic.hygienic true in
def Ta:uq X Ex (λb H Q=>∃(p:af)(a:List Int),b=[.ref p]/\pI X.K H p (a.map V.int)/\Q (.int a.sum) H) DU:=by
 intro H f k O b l Q c d q;unfold DU at q;split at q
 .rename_i x;obtain⟨v,rfl,g⟩:=rQ d;split at q
  .rename_i m e;obtain⟨p,n,rfl,h,i⟩:=tL c g e;split at q
   .rename_i a j;refine⟨p,a,rfl,?_,post.here q c rK⟩;rw[<- G6 i j];exact h
   .exact ah q
  .exact ah q
 .exact ah q
end
section
def N9(_:Nx ext)(b:X.calm=Qo)(c:ui X.env.scope scope (X.N++ext) (pj<|⟨oR,g,ts⟩::cs))(d:rn X Ex tg iter oR)
  (f:∀cells C s H a,PG (ph X (X.N++ext) scope cells C s H a) tg (g.rd X.K)/\bP (λe t=>pO (ph X (X.N++ext) scope cells C s H a) pe e t) ifs ts/\nQ (ph X (X.N++ext) scope cells C s H a) gs cs/\PD (ph X (X.N++ext) scope cells C s H a) pe ke tk/\PD (ph X (X.N++ext) scope cells C s H a) pe ve tv)
  (h:ext.length=k:=by rfl) (i:∀x,bw iter X.env x=pure x:=by intro _;rfl):PD X Ex (.DictComp ke ve (⟨tg,iter,ifs,0⟩::gs) scope pos) (Bv k oR g ts cs tk tv):=h▸VO ext b d c f i
end
end DL
namespace DL
open PySem L2
open PyProof.Rows (AllBare)
structure nU(Cl:Nat->ae)(P:aE)(w:aG)(K:ag)(mg:ao->Option ae)(base:aJ)(x:ao)(k n:Nat)(Pt:af)(F:oU):Prop where
 ex:∃f fd ps,mg x=Qg (.ref f)/\bN K (.ref f)=Qo/\Binds K fd ps []/\nG P w K mg base (pZ P w Cl) k f fd ps (xv K (Xk Cl) n Pt F)
structure tJ(K:ag)(mg:ao->Option ae)(x:ao)(st:cN)(c:af):Prop where
 ex:∃f fd,mg x=Qg (.ref f)/\L2.Fun K x x st f fd/\fd.code=.ref c
def sC(Pt iT n:Nat)(F:oU)(t:DA):DE:=λσ O=>match σ[iT]? with
 |some (Qg (.tab p))=>if p=Pt then oM n F t σ O else .bad
 |_=>.bad
structure FO where
 params:fc
 body:aZ
 scope:cC
 tE:DE
def Sr(X:Cx)(L:FO)(c:af)(ct:ae):Obj:={ cls:=.type "function",data:=.func (b9 "<lambda>" (X.env.qual ++ "<lambda>") L.params L.body L.scope (qo X.env.cells L.scope.names []) ((X.mg "__name__").getD .none) (.ref c) ct) }
def n8(X:Cx)(L:FO)(H:Hp)(a:af):Prop:=∃c φ ct,H a=Qg (.ext λh=>h.get? a=Qg (Sr X L c ct))/\H c=Qg (.ext φ)/\∀h:aJ,φ h->∃q,h.CodeRec (.ref c) q
structure zkW(Cl:Nat->ae)(X:Cx)(k:Nat)(L:FO):Prop where
 ls:EK X.env.scope L.scope
 df:defaultsOf L.params X.env=([],[])
 bl:∀(name qual:ao)(cl:List (ao×af))(pm cd ct:ae),bindArgs (b9 name qual L.params L.body L.scope cl pm cd ct) ⟨[],[]⟩=pure []
 E:∀(q:ao)(lam:af)(cd:ae)(cl:List (ao×af))(A:aY)(outer:List Env)(s:aj)(H:Hp)(E:XK),nB k (A.deeper<|q0 q L.scope s.heap.objs.size lam cd cl)->PD (zM (pZ X.prog X.w Cl) X.prog X.w X.K X.mg X.base X.N (q0 q L.scope s.heap.objs.size lam cd cl) A outer s H E) (Xk Cl E) L.body L.tE
section
def n8.ext(h:n8 X L H a)(x:Ext H [] H' []):n8 X L H' a:=by obtain⟨c,b,d,e,f,g⟩:=h;exact⟨c,b,d,x.keep _ _ e 'k',x.keep _ _ f 'k',g⟩
end
structure FT(X:Cx)(H0:Hp)(l:af)(ls:List FO)(as:List af)(H:Hp):Prop where
 nl:H0 l=Qn
 ea:Ea l H0 [] H []
 at_:H l=Qg (.lst<|as.map V.ref)
 lam:bP (λL a=>n8 X L H a) ls as
 nd:as.Nodup
def FT.ext(b:FT X H0 l ls as H)(μ:List af):Ext H0 μ H μ:=
 ⟨⟨[],by simp⟩,λc o h _ a=>b.ea.kept c o h 'k' (qS h b.nl) a,λ_ m=>.inl m,b.ea.there,b.ea.tab⟩
def FT.cells(b:FT X H0 l ls as H)(c:nu K H0 Qb μ O):nu K H Qb μ O:=by refine⟨c.len,c.nd,c.nh,λa m=>b.ea.there a<|c.ht a m,λk a e=>?_⟩;obtain⟨f,g,h,d,i⟩:=c.at_ k a e;exact⟨f,g,h,b.ea.kept a _ d 'k' (qS d b.nl) (by intro j z;cases z),i.ext<|b.ext μ⟩
set_option tactic.hygienic true in
def ny.take(e:ny K H Qb μ σ a_)(n:Nat):ny K H Qb μ (σ.take n) (a_.take n):=
 ⟨by simp[e.len],λi d h=>by
  rw[iZ] at h;split at h
  .rename_i a;obtain⟨v,b,c⟩:=e.at_ i d h;exact⟨v,by rw[iZ,Qs a];exact b,c⟩
  .cases h⟩
def ny.drop(e:ny K H Qb μ σ a_)(i:Nat):ny K H Qb μ (σ.set i Qn) a_:=
 ⟨by simp[e.len],λj d h=>by
  by_cases a:i=j
  .subst a;by_cases b:i<σ.length
   .rw[aX b] at h;cases h
   .rw[ba.mpr (by simp;lia)] at h;cases h
  .rw[aQ a] at h;exact e.at_ j d h⟩
section
end
def n8.mono(h:n8 X L H a)(k:∀b d,H b=Qg (.ext d)->H' b=Qg (.ext d)):n8 X L H' a:=by obtain⟨c,d,e,f,g,i⟩:=h;exact⟨c,d,e,k _ _ f,k _ _ g,i⟩
end DL
namespace DL
open PySem L2 PySem.Spec PyProof.Rows
open Sem (wp)
section
end
section
end
end DL
namespace DL
open PySem L2 PySem.Spec PyProof.Rows
open Sem (wp)
open AutoSeq1 (wpAny_loadPart')
section
end
end DL
namespace DL
open PySem L2 PySem.Spec PyProof.Rows
section
end
end DL
namespace DL
open PySem L2
section
variable{Ex:Nat->Hp->Prop}
def nE.seq(q:nE Ex K H Qb μ (o3 t u σ O) E):nE Ex K H Qb μ (t σ O) { E with nx:=λg f=>Fh Ex K u E g f }:=by
 unfold o3 at q;cases e:t σ O with
 | nx σ' O'=>
  rw[e] at q;exact λj f h i a b=>⟨Qb,h,σ',O',a,b,q.ext i⟩
 |rt d O'=>rw[e] at q;exact q
 |bk σ' O'=>rw[e] at q;exact q
 |ct σ' O'=>rw[e] at q;exact q
 |exc c O'=>rw[e] at q;exact q
 |bad=>rw[e] at q;exact q
end
end DL
namespace DL
open PySem L2 PySem.Spec PyProof.Rows
noncomputable def K2:List ae->List Int->Bool
 |[],[]=>Qo
 |.int i _::vs,k::ks=>i==k&&K2 vs ks
 |_,_=>Qp
def Rn(o:Obj)(ks:List Int):Bool:=(match o.cls with|.type n=>n == "tuple"|_=>Qp)&&o.dict.isNone&&(match o.data with|.seq f_ _=>K2 f_.toList ks&&decide (f_.size<=1000)|_=>Qp)
structure zkT(K:ag)(mg:ao->Option ae)(x:ao)(ks:List Int):Prop where
 ex:∃e o,mg x=Qg (.ref e)/\K.lookup e=Qg o/\Rn o ks=Qo
section
end
end DL
namespace DL
open PySem L2 PyProof.Rows
def zS:List D->Option (List o_)
 |[]=>Qg []
 | .tup ds::r=>match uJ ds,zS r with
  |some ks,Qg t=>Qg<|ks::t
  |_,_=>Qn
 |_::_=>Qn
def zP(x:o_):List o_->List o_
 |[]=>[x]
 |y::l=>if y<x then y::zP x l else x::y::l
def DW(l:List o_):List o_:=l.foldr zP []
def toT(ks:o_):D:=.tup<|ks.map .str
def Ef:Ow->List D->R D:=λO xs=>match xs with
 | [x]=>match tN O x with
  | some ds=>match zS ds with
   |some qp=>if (2<=qp.length->(qp.all λks=>!ks.isEmpty)=Qo)/\qp.length<=4000000 then .ok (.lst<|(DW qp).map toT) O else .bad
   |none=>.bad
  |none=>.bad
 |_=>.bad
abbrev uX(a b:o_):Prop:=¬ b<a
def uX.trans{a b c:o_}(g:uX a b)(d:uX b c):uX a c:=λh=>by
 by_cases e:b<a
 .exact g e
 .by_cases f:a<b
  .exact d<|TS.llt_trans h f
  .rw[TS.llt_total f e] at h;exact d h
theorem Hn(x:o_):∀l,(zP x l).Perm<|x::l
 |[]=>eo _
 | y::l=>by
  unfold zP;split
  .exact((Hn x l).cons y).trans (List.Perm.swap x y l)
  .exact eo _
theorem N3:∀l,(DW l).Perm l
 |[]=>eo _
 |x::l=>(Hn x<|DW l).trans<|(N3 l).cons x
set_option tactic.hygienic true in
theorem Na(x:o_):∀l,l.Pairwise uX->(zP x l).Pairwise uX
 |[],_=>jL _ _
 | y::l,h=>by
  unfold zP;have a:=bG.mp h;split
  .rename_i c;refine bG.mpr ⟨λz hz=>?_,Na x l a.2⟩;rcases av.mp ((Hn x l).mem_iff.mp hz) with rfl|hz
   .exact λd=>TS.llt_irrefl _<|TS.llt_trans d c
   .exact a.1 z hz
  .rename_i b;refine bG.mpr ⟨λz hz=>?_,h⟩;rcases av.mp hz with rfl|hz
   .exact b
   .exact uX.trans b<|a.1 z hz
theorem M6:∀l,(DW l).Pairwise uX
 |[]=>dZ
 |x::l=>Na x _<|M6 l
theorem NM:∀{a b:List o_},a.Pairwise uX->b.Pairwise uX->a.Perm b->a=b
 |[],b,_,_,p=>p.nil_eq
 |x::a,[],_,_,p=>absurd p.symm.nil_eq 'k'
 | x::a,y::b,ha,hb,p=>by
  have c:=bG.mp ha;have d:=bG.mp hb;have e:x=y:=by
   have f:uX y x:=by
    rcases av.mp (p.mem_iff.mp aL) with h|h
    .rw[h];exact TS.llt_irrefl _
    .exact d.1 x h
   have g:uX x y:=by
    rcases av.mp (p.mem_iff.mpr aL) with h|h
    .rw[h];exact TS.llt_irrefl _
    .exact c.1 y h
   exact TS.llt_total f g
  subst e;rw[NM c.2 d.2<|List.Perm.cons_inv p]
def ym{α:Type}(R:V->α->Prop):List V->List α->Prop
 |[],[]=>True
 |v::vs,k::ks=>R v k/\ym R vs ks
 |_,_=>False
def J8(K:ag)(H:Hp)(v:V)(ks:o_):Prop:=∃t,v=.ref t/\qP K H t (ks.map λcs=>V.str ⟨cs.toArray⟩)
def vT:ae->V
 |.ref t=>.ref t
 |_=>.non
theorem Hw:∀{a:o_}{b:List ae},nz (a.map λc=>V.str ⟨c.toArray⟩) b->TS.allS b=Qg a
 |[],_,.nil=>rfl
 | k::a,u::us,.cons r h=>by
  obtain⟨d,rfl⟩:=r;unfold TS.allS;rw[Hw h];rfl
section
variable{X:Cx}{Ex:Nat->Hp->Prop}{H:Hp}{Qb μ:List af}
def KJ(K:ag):List V->Hp->VK->Prop:=λxs H Q=>∃p vs qp,∃R:V->o_->Prop,xs=[.ref p]/\pI K H p vs/\ym R vs qp/\(∀v k,R v k->J8 K H v k/\(2<=vs.length->k≠[]))/\vs.length<=4000000/\∀l qC xP,ym R qC xP->xP.Perm qp->xP.Pairwise uX->H l=Qn->Q (.ref l) (upd H l<|.lst qC)
theorem L9{b:List (af×Obj)}{m:L2.St}{s:aj}(I:L2.Inv X b m H s){R:V->o_->Prop}{B:Prop}(d:∀v k,R v k->J8 X.K H v k/\(B->k≠[])):∀{vs:List V}{c:List o_}{a:List ae},ym R vs c->nz vs a->a.map (TS.keyT s.heap)=c/\∀u∈a,R (vT u) (TS.keyT s.heap u)/\RelV (vT u) u/\∃f,TS.TupS s.heap u f/\(B->f≠[])
 |[],[],_,_,.nil=>⟨rfl,λ_ h=>by cases h⟩
 |[],_::_,_,h,_=>h.elim
 |v::vs,[],_,h,_=>h.elim
 | v::vs,k::c,u::us,⟨h1,h2⟩,.cons r hv=>by
  obtain⟨e,p⟩:=L9 I d h2 hv;obtain⟨⟨t,rfl,q⟩,w⟩:=d v k h1;cases r;obtain⟨a,i,⟨o,g,x,n,j⟩,_⟩:=I.tuple q;have y:TS.TupS s.heap (.ref t) k:=⟨t,o,a.toArray,n,rfl,g,x,j,by simpa using Hw i⟩;have l:TS.keyT s.heap (.ref t)=k:=by
   show((match s.heap.get? t with|some o=>(match o.data with|.seq a _=>TS.allS a.toList|_=>Qn)|none=>Qn):Option _).getD []=_;rw[g];dsimp only;rw[j];dsimp only;rw[show TS.allS a.toArray.toList=Qg k from by simpa using Hw i];rfl
  refine⟨by rw[dr,l,e],λu hu=>?_⟩;rcases av.mp hu with rfl|hu
  .exact⟨by rw[l];exact h1,rfl,k,y,w⟩
  .exact p u hu
theorem MY{R:V->o_->Prop}{f:ae->o_}:∀{l:List ae},(∀u∈l,R (vT u)<|f u)->ym R (l.map vT) (l.map f)
 |[],_=>trivial
 |u::l,h=>⟨h u aL,MY λv a=>h v<|ar _ a⟩
theorem MV:∀{l:List ae},(∀u∈l,RelV (vT u) u)->nz (l.map vT) l
 |[],_=>.nil
 |u::l,h=>.cons (h u aL) (MV λv a=>h v<|ar _ a)
def W3:nM X (.builtin "sorted") (KJ X.K):=by intro f s C H E G Q I r h;obtain⟨p,J,L,R,rfl,k,l,m,n,q⟩:=h;obtain⟨u,rfl,o⟩:=sD r;cases o;obtain⟨g,i,t,M⟩:=I.list k;obtain⟨w,c⟩:=L9 I m l i;have b:=i.length.symm;refine TS.sorted_tups t.isList (λv x=>let ⟨ks,k1,k2⟩:=(c v x).2.2;⟨ks,k1,λz=>k2 'd'⟩) 'd' λa d y=>?_;obtain⟨e,A⟩:=sortedAll_at s.heap g a;have B:=I.hok.fresh<|dH _;have j:∀u∈a.toList,u∈g:=λu h=>d.mem_iff.mp h;refine⟨.ref _,_,I.laid (λ_ _ z=>sortedAll_old z) (dH _) ?_,rfl,q _ _ _ (MY λu h=>(c u<|j u h).1) (by rw[<- w];exact d.map _) (jr.mpr y) B⟩;refine⟨?_,a.toList,e,MV λu h=>(c u<|j u h).2.1,by rw[A]⟩;rw[aW,d.length_eq,b];exact aP n 'b'
theorem My:∀{ds:List D}{a:o_},uJ ds=Qg a->ds=a.map D.str
 |[],a,h=>by cases h;rfl
 | d::ds,a,h=>by
  cases d with
  | str cs=>
   unfold uJ at h;cases e:uJ ds with
   |none=>rw[e] at h;cases h
   |some r=>rw[e] at h;cases h;rw[My e];rfl
  |_=>cases h
set_option tactic.hygienic true in
theorem Nr:∀{ds:List D}{a:List o_},zS ds=Qg a->ds.length=a.length
 |[],a,h=>by cases h;rfl
 | d::ds,a,h=>by
  cases d with
  | tup xs=>
   unfold zS at h;split at h
   .rename_i c t e b;cases h;rw[a7,a7,Nr b]
   .cases h
  |_=>cases h
set_option tactic.hygienic true in
theorem MM{K:ag}{B:Prop}:∀{ds:List D}{vs:List V}{a:List o_},nv K H Qb μ ds vs->zS ds=Qg a->(∀k∈a,B->k≠[])->ym (λv k=>Qe K H Qb μ (toT k) v/\(B->k≠[])) vs a
 | [],vs,a,h,e,_=>by
  cases e;subst h;trivial
 | d::ds,vs,a,h,e,pQ=>by
  obtain⟨v,r,rfl,b,c⟩:=h;cases d with
  | tup xs=>
   unfold zS at e;split at e
   .rename_i f t g i;cases e;refine⟨⟨?_,pQ f aL⟩,MM c i λk j=>pQ k<|ar _ j⟩;have:=My g;unfold toT;rw[<- this];exact b
   .cases e
  |_=>cases e
theorem M_{α:Type}{R:V->α->Prop}:∀{vs:List V}{a:List α},ym R vs a->vs.length=a.length
 |[],[],_=>rfl
 |[],_::_,h=>h.elim
 |_::_,[],h=>h.elim
 |_::_,_::_,h=>by rw[a7,a7,M_ h.2]
theorem N8{K:ag}{B:Prop}:∀{vs:List V}{a:List o_},ym (λv k=>Qe K H Qb μ (toT k) v/\(B->k≠[])) vs a->nv K H Qb μ (a.map toT) vs
 |[],[],_=>by unfold nv;rfl
 |[],_::_,h=>h.elim
 |v::vs,[],h=>h.elim
 | v::vs,k::a,h=>by
  exact⟨v,vs,rfl,h.1.1,N8 h.2⟩
set_option tactic.hygienic true in
def UJ:uq X Ex (KJ X.K) Ef:=by
 intro H Qb μ O E G Q c d q;unfold Ef at q;split at q
 .rename_i x;obtain⟨v,rfl,o⟩:=rQ d;split at q
  .rename_i I e;obtain⟨p,f,rfl,r,g⟩:=tL c o e;split at q
   .rename_i a h;obtain⟨⟨s,i⟩,q⟩:=post.ite q;have b:f.length=a.length:=by rw[<- g.length,Nr h]
    have u:∀k∈a,2<=f.length->k≠[]:=λk w i e=>by
     have:=cE.mp (s 'd') k w;rw[e] at this;cases this
    have j:=MM g h u;refine⟨p,f,a,_,rfl,r,j,λv k m=>⟨?_,m.2⟩,?_,λl J L y A B b=>?_⟩
    .obtain⟨t,M,rfl,n,C⟩:=Af m.1 rfl;have:=GX C<|G_ k;rw[this] at n;exact⟨t,rfl,n⟩
    .rw[M_ j];exact i
    .have e:=NM B (M6 a)<|A.trans (N3 a).symm;subst e;exact post.ok q (.laid b) (c.laid b) (Qe.newL c b<|N8 y)
   .exact ah q
  .exact ah q
 .exact ah q
end
end DL
namespace DL
open PySem L2
open PyProof.Rows (AllBare)
section
variable{prog:aE}{w:aG}{A:aY}{s:aj}{R:Result->aj->Prop}
def VL(g:A.depth<recursionLimit)
  (i:s.heap.get? lam=Qg { cls:=.type "function",data:=.func (b9 name qual params body scope cl pm cd ct) }) (j:s.heap.CodeRec cd q) (k:scope.isCoroutine=Qp) (l:scope.isGenerator=Qp) (m:scope.kind=.function) (n:∀x∈scope.names,x.2 ≠ .cell) (p:scope.names.lookup x=Qg .local)
  (r:bindArgs (b9 name qual params body scope cl pm cd ct) ⟨[u],[]⟩=pure [(x,u)]) (t:s.heap.NoLimit)
  (h:∀h' a,0<a->h'.Ns s.heap.objs.size (λy=>[(x,u)].lookup y)->(∀b o,s.heap.get? b=Qg o->h'.get? b=Qg o)->
   am (aq prog w) (A.deeper<|q0 q scope s.heap.objs.size lam cd cl) (eval body<|q0 q scope s.heap.objs.size lam cd cl) (λv B=>R (.ok<|.ret v) B) (λ_ _=>False) { s with heap:=h',toks:=a }):
  codeAny (aq prog w) A (.call (.ref lam) ⟨[u],[]⟩) R s:=by
 refine jS ?_;show am _ A.in1 (callAny (.ref lam) ⟨[u],[]⟩) _ _ s;refine aa<|kP i ?_;obtain⟨c,M,N,O,C,E,G,H⟩:=j;subst C;simp only[callFunction,k,l];refine aa<|bC E G H (aa<|ak ?_);rw[r];refine aa<|ak (aa<|kS n (λy I=>?_) (λd J L=>?_) m)
 .have e:y=(x,u):=⇑I
  rw[e];exact p
 have f:∀b o,s.heap.get? b=Qg o->d.get? b=Qg o:=λb o e=>L.extBut b o (bb<|aC e)<|ai _ e;refine aa (wpAny_enterFrame (t.keeps f) g<|ak ⟨rfl,?_⟩);exact kT (bQ (h d _ (cR _) J f) (λ_ _ z=>z) λ_ _ z=>z.elim)
end
noncomputable def Dl(P:aE)(w:aG)(K:ag)(mg:ao->Option ae)(base:aJ)(N:List ao)(env:Env)(A:aY)(outer:List Env)(s:aj)(H:Hp):Cx where
 prog:=P
 w:=w
 K:=K
 mg:=mg
 base:=base
 A:=A.deeper env
 N:=N
 s₀:=s
 H₀:=H
 env:=env
 outer:=outer
 stack:=env::outer
 ex:=[]
 calm:=Qo
 fn:=λ_=>Qp
 pn:=[]
 xe:=λ_ _=>False
structure Kr(out sc:cC)(x:ao):Prop where
 kind:sc.kind=.function
 co:sc.isCoroutine=Qp
 gen:sc.isGenerator=Qp
 nd:(sc.names.map (·.1)).Nodup
 cell:∀y∈sc.names,y.2 ≠ .cell
 one:sc.names.lookup x=Qg .local
 loc:∀y∈sc.names,y.2=.local->y.1=x
 frees:∀y∈sc.names,y.2=.free->out.names.lookup y.1=Qg .cell\/out.names.lookup y.1=Qg .free
section
def Wl(f:nV P w K mg base A outer s H)(G:A.handled=Qn)(I:scope.kind=.function)(C:∀y,qu scope y->scope.names.lookup y=Qg .free\/y=x)(E:scope.names.lookup x=Qg .local)(J:x∉N)
  (cells:∀x c,cl.lookup x=Qg c->(∃v,s.heap.IsCell c v)/\H c=Qn) (k:∀x y c,cl.lookup x=Qg c->cl.lookup y=Qg c->x=y) (l:∀x,scope.names.lookup x=Qg .free->∃c,cl.lookup x=Qg c)
  (h:∀(i:Nat)x v,N[i]?=Qg x->σ[i]?=Qg (Qg v)->scope.names.lookup x=Qg .free->∃u c,RelV v u/\cl.lookup x=Qg c/\s.heap.IsCell c (Qg u)) (m:σ.length=N.length) (L:RelV v u)
  (M:h'.Ns s.heap.objs.size (λy=>[(x,u)].lookup y)) (n:∀b o,s.heap.get? b=Qg o->h'.get? b=Qg o) (O:0<tk):
  L2.Inv (Dl P w K mg base (N++[x]) (q0 q scope s.heap.objs.size lam cd cl) A outer s H) [] (σ++[Qg v]) H { s with heap:=h',toks:=tk }:=by
 have a:∀{c:af}{v:Option ae},s.heap.IsCell c v->h'.IsCell c v:=λ{c v}⟨o,ho,r⟩=>⟨o,n c o ho,r⟩;have t:∀b:af,b∉(Dl P w K mg base (N++[x]) (q0 q scope s.heap.objs.size lam cd cl) A outer s H).ex:=λb z=>absurd (show b∈([]:List af) from z) 'k';refine⟨⟨f.mod,I,rfl,rfl,ay _,k,λy Q=>?_,λy c z _=>absurd (show Qp=Qo from z) 'b',λ_=>G,il f.frames,.inr ⟨rfl,rfl⟩,λb z=>absurd z<|t b,f.bs,f.bsz,λb _ _=>t b,λb z=>absurd z<|t b,f.funs,f.frf⟩,
  rfl,f.bare,Un.kept n,⟨_,M,λi y S d j T=>?_⟩,λy c g=>?_,f.hok.fresh<|ay _,λy c g=>(cells y c g).2,λp U=>absurd (show p∈([]:List (af×Obj)) from U) 'k',f.hok.kept n,by show(σ++[Qg v]).length=(N++[x]).length;simp[m],O⟩
 .have B:scope.names.lookup y=Qg .cell\/scope.names.lookup y=Qg .free:=Q;rcases C y (B.elim (λz=>.inr<|.inl z) λz=>.inr<|.inr z) with z|z
  .exact l y z
  .rw[z,E] at B;rcases B with z|z<;>cases z
 .have d:(N++[x])[i]?=Qg y:=d;by_cases Y:i<N.length
  .rw[aD Y] at d;rw[aD 'd'] at j;rcases C y T with z|z
   .obtain⟨u,c,r,Z,g5⟩:=h i y S d j z;exact⟨u,r,.inr ⟨.inr z,c,Z,a g5⟩⟩
   .rw[z] at d;exact absurd (aR d) J
  .rw[bh 'd'] at d j;have e:i-N.length=0:=by
    have:=(al.mp d).1;simp at this;lia
   rw[e] at d;rw[show i-σ.length=0 by lia] at j;cases d;cases j;exact⟨u,L,.inl ⟨E,by simp[dM]⟩⟩
 .obtain⟨⟨v,z⟩,_⟩:=cells y c g;exact⟨v,a z⟩
def Sj(d:nB (k+1) A)(f:nV P w K mg base A outer s H)
  (n:s.heap.get? lam=Qg { cls:=.type "function",data:=.func (b9 name qual params body scope cl pm cd ct) }) (p:s.heap.CodeRec cd q) (r:scope.isCoroutine=Qp) (B:scope.isGenerator=Qp) (l:scope.kind=.function) (C:∀x∈scope.names,x.2 ≠ .cell)
  (E:bindArgs (b9 name qual params body scope cl pm cd ct) ⟨[u],[]⟩=pure [(x,u)]) (G:∀y,qu scope y->scope.names.lookup y=Qg .free\/y=x) (m:scope.names.lookup x=Qg .local) (I:x∉N)
  (cells:∀x c,cl.lookup x=Qg c->(∃v,s.heap.IsCell c v)/\H c=Qn) (g:∀x y c,cl.lookup x=Qg c->cl.lookup y=Qg c->x=y) (h:∀x,scope.names.lookup x=Qg .free->∃c,cl.lookup x=Qg c)
  (a:∀(i:Nat)x v,N[i]?=Qg x->σ[i]?=Qg (Qg v)->scope.names.lookup x=Qg .free->∃u c,RelV v u/\cl.lookup x=Qg c/\s.heap.IsCell c (Qg u)) (j:σ.length=N.length) (L:RelV v u)
  (M:nB k (A.deeper<|q0 q scope s.heap.objs.size lam cd cl)->PD (Dl P w K mg base (N++[x]) (q0 q scope s.heap.objs.size lam cd cl) A outer s H) pe body t)
  (S:ny K H Qb μ AW (σ++[Qg v])) (T:nu K H Qb μ O) (U:pf pe K H Qb μ (t AW O) Q):codeAny (aq P w) A (.call (.ref lam) ⟨[u],[]⟩) (CR yS outer P w H s Q E0) s:=by refine VL d.depth n p r B l C m E (f.mod.nolimit.keeps λb o e=>(f.bs b o e).1) λh' tk Y Z kp=>?_;refine bQ ((M<|d.deeper _).out [] _ (σ++[Qg v]) H Q (Wl f d.hd l G m I cells g h a j L Z kp Y) ⟨Qb,μ,AW,O,S,T,U⟩) (λv s' ⟨v',H',J,rv,z⟩=>?_) λe s' z=>z;exact⟨⟨v',H',J.os,J.bare,J.base,J.hok,rv,z⟩,J.tk⟩
end
end DL
namespace DL
open PySem L2 PyProof.Rows
noncomputable def Ab(tE:DE)(σ:Sg):List D->D->Int->Ow->R D
 |[],b,_,O=>.ok b O
 | x::xs,b,k,O=>match tE (σ++[Qg x]) O with
  |.ok (.int j) O1=>if j<k then Ab tE σ xs x j O1 else Ab tE σ xs b k O1
  |_=>.bad
def DN(tE:DE)(σ:Sg)(O:Ow):List D->R D
 |[]=>.bad
 | x::xs=>match tE (σ++[Qg x]) O with
  |.ok (.int j) O1=>Ab tE σ xs x j O1
  |_=>.bad
def Bb(Pt iT:Nat)(te tE:DE):DE:=λσ O=>match σ[iT]? with
 | some (Qg (.tab p))=>if p=Pt then (te σ O).bnd λx O1=>match x with
  |.lst ds=>DN tE σ O1 ds
  |_=>.bad else .bad
 |_=>.bad
def ny.snoc{K:ag}{H:Hp}{Qb μ:List af}{a:Sg}{b:L2.St}{d:D}{v:V}(e:ny K H Qb μ a b)(q:Qe K H Qb μ d v):ny K H Qb μ (a++[Qg d]) (b++[Qg v]):=by
 refine⟨by simp[e.len],λi x h=>?_⟩;have k:=e.len;by_cases c:i<a.length
 .rw[aD c] at h;obtain⟨w,f,g⟩:=e.at_ i x h;exact⟨w,by rw[aD 'd'];exact f,g⟩
 .rw[bh 'd'] at h;have j:i-a.length=0:=by
   have:=(al.mp h).1;simp at this;lia
  rw[j] at h;cases h;exact⟨v,by rw[bh 'd',show i-b.length=0 by lia];rfl,q⟩
section
variable{X:Cx}{Ex:Nat->Hp->Prop}{Qb:List af}{σ:Sg}{a_:L2.St}{tE:DE}{lam cc:af}{lo:Obj}
def Gr(X:Cx)(lam:af)(lo:Obj)(cc:af)(Qb:List af)(σ:Sg)(a_:L2.St)(tE:DE):Prop:=
 ∀(Qc:List (af×Obj))(s:aj)(H:Hp)(μ:List af)(O:Ow)(d:D)(v:V)(u:ae)(Q:VK),L2.Inv X Qc a_ H s->(lam,lo)∈Qc->(∃φ,H cc=Qg (.ext φ)/\∀h:aJ,φ h->∃q,h.CodeRec (.ref cc) q)->ny X.K H Qb μ σ a_->nu X.K H Qb μ O->Qe X.K H Qb μ d v->RelV v u->
  pf pe X.K H Qb μ (tE (σ++[Qg d]) O) Q->am (aq X.prog X.w) X.A.in1 (call (.ref lam) [u]) (EP X Qc a_ Q) (λ_ _=>False) s
def RI{K:ag}{H:Hp}{μ:List af}{d:D}{O:Ow}:pf pe K H Qb μ (.ok d O) (λv a=>∃b,Ext H μ a b/\nu K a Qb b O/\Qe K a Qb b d v):=λv f e x c r=>⟨e,x,c,r⟩
def Nw{K:ag}{H a:Hp}{μ f:List af}{O:Ow}(c:nu K H Qb μ O)(x:Ext H μ a f){b:aJ->Prop}(h:H cc=Qg (.ext b)):a cc=Qg (.ext b):=by refine x.kept cc _ h (λm=>?_) (by intro i z;cases z);obtain⟨k,g,e⟩:=dD.mp m;obtain⟨j,l,_,d,_⟩:=c.at_ k cc (by rw[aB g,e]);rw[h] at d;cases d
variable{l:af}{vs:List V}{ds:List D}{Q:VK}{Qc:List (af×Obj)}{E:ae->aj->Prop}
def Nj{a S:af}{c oI:Obj}{j:Nat}{s:aj}{H:Hp}{μ:List af}{O:Ow}{d:D}{R:ae->ae->aj->Prop}(m_:X.calm=Qo)(hK:Gr X lam lo cc Qb σ a_ tE)
  (I:L2.Inv X ((S,c)::(a,oI)::(lam,lo)::Qc) a_ H s) (yP:qV X ((S,c)::(lam,lo)::Qc) H a) (hl:l≠a) (k:s.heap.IsListIter a l j) (la:LstAt X.K H Qb μ l vs) (dd:nv X.K H Qb μ ds vs) (ev:ny X.K H Qb μ σ a_) (cl:nu X.K H Qb μ O) (uf:∃L,H cc=Qg (.ext L)/\∀h:aJ,L h->∃q,h.CodeRec (.ref cc) q)
  (M:ds[j]?=Qg d) {m:Int} {O1:Ow} (hE:tE (σ++[Qg d]) O=.ok (.int m) O1)
  (h:∀(v:ae)(tk:Tok)(f:Obj)(n:aj)(i:Hp)(t:List af)(x:V),L2.Inv X ((S,c)::(a,f)::(lam,lo)::Qc) a_ i n->n.heap.IsListIter a l (j+1)->Ext H μ i t->nu X.K i Qb t O1->RelV x v->Qe X.K i Qb t d x->R v (.int m tk) n) {E2:ae->aj->Prop}:
  am (aq X.prog X.w) X.A.in1 (pyNext<|.ref a) (λo s1=>∃v,o=Qg v/\am (aq X.prog X.w) X.A.in1 (call (.ref lam) [v]) (λr y=>R v r y) (λ_ _=>False) s1) E2 s:=by
 obtain⟨g,N,pl,hz⟩:=I.list la.sq;have W:=kR (prog:=X.prog) (w:=X.w) (A:=X.A.in1) (I.ok.hd m_) a l hl g.toArray;have P:ds.length=g.length:=by rw[dd.length,N.length]
 have hj:j<g.length:=by have:=(al.mp M).1;lia
 refine wT I (W.item j _ _ _ ⇑hj ⟨k,pl.isList⟩ λv T B hP Ji uw pB=>?_);have hv:g[j]?=Qg v:=⇑hP
 obtain⟨U,Y,f2,f3,f4,f5⟩:=yP;have I0:L2.Inv X ((S,c)::(lam,lo)::Qc) a_ H s:=I.pins_of λp hp=>I.pin p (ax _ (by
  rcases av.mp hp with rfl|hp
  .exact .head _
  .exact .tail _<|.tail _ hp))
 have C:L2.Inv X ((S,c)::(lam,lo)::Qc) a_ H { s with heap:=T,toks:=B }:=I0.turned (t':=B) (it:=a) (λb o hb e=>uw b o ⇑hb e) U Y f3 f4 f5;obtain⟨f,Jp,yM,Z⟩:=id Ji.1;have I2:L2.Inv X ((S,c)::(a,f)::(lam,lo)::Qc) a_ H { s with heap:=T,toks:=B }:=C.pins_of λp hp=>by
  rcases av.mp hp with rfl|hp
  .exact C.pin _ (ax _<|.head _)
  .rcases av.mp hp with rfl|hp
   .exact⟨Jp,U,Y,f2,λv z=>by rw[Z] at z;cases z⟩
   .exact C.pin p (ax _<|.tail _ hp)
 obtain⟨x,hx,dx⟩:=dd.get M;obtain⟨u,hu,ru⟩:∃u,g[j]?=Qg u/\RelV x u:=N.get hx;rw[hv] at hu;cases hu;refine⟨v,rfl,bQ (hK _ _ H μ O d x v (λv G=>∃J,Ext H μ G J/\nu X.K G Qb J O1/\Qe X.K G Qb J (.int m) v) I2 (.tail _ (.tail _<|.head _)) uf ev cl dx ru (by rw[hE];exact RI)) (λr y ⟨v2,H2,I3,r2,n_,x2,c2,d2⟩=>?_) λ_ _ z=>z⟩;unfold Qe at d2;subst d2;obtain⟨t2,rfl⟩:=r2;exact h v t2 f y H2 n_ x I3 ⟨f,(I3.pin (a,f)<|ax _ (.tail _<|.head _)).1,yM,Z⟩ x2 c2 ru (dx.ext x2)
set_option tactic.hygienic true in
def Ua{a S:af}(m_:X.calm=Qo)(hK:Gr X lam lo cc Qb σ a_ tE)(hl:l≠a)(yb:S≠a){s0:aj}:
  ∀(r j:Nat)(s:aj)(H:Hp)(μ:List af)(O:Ow)(b:D)(N:V)(m:ae)(f:Int)(k:Tok)(c:Nat)(oI:Obj),ds.length-j=r->j<=ds.length->
   L2.Inv X ((S,seqObj "list" #[m,.int f k] c)::(a,oI)::(lam,lo)::Qc) a_ H s->qV X ((lam,lo)::Qc) H a->qV X ((lam,lo)::Qc) H S->s.heap.IsListIter a l j->LstAt X.K H Qb μ l vs->nv X.K H Qb μ ds vs->ny X.K H Qb μ σ a_->nu X.K H Qb μ O->(∃J,H cc=Qg (.ext J)/\∀h:aJ,J h->∃q,h.CodeRec (.ref cc) q)->
   RelV N m->Qe X.K H Qb μ b N->pf Ex X.K H Qb μ (Ab tE σ (ds.drop j) b f O) Q->
   codeAny (aq X.prog X.w) X.A (.builtin "min.loop" ⟨[.ref a,.ref lam,.ref S],[]⟩) (λr Y=>match r with|.ok (.ret u)=>EP X Qc a_ Q u Y|_=>False) s:=by
 have tu:(toString "min" ++ toString ".loop":String) = "min.loop":=by decide
 intro r
 induction r with
 | zero=>
  intro j s H μ O b N m f k c oI hr hj I n fS L la dd ev cl uf rb db q;have AK:j=ds.length:=by lia
  have nS:=I.pin (S,seqObj "list" #[m,.int f k] c) (ax _<|.head _);obtain⟨f_,rv,pl,hz⟩:=I.list la.sq;have W:=kR (prog:=X.prog) (w:=X.w) (A:=X.A.in1) (I.ok.hd m_) a l hl f_.toArray;have hlen:ds.length=f_.length:=by rw[dd.length,rv.length]
  refine f7 gQ ?_;rw[iy cY _];show am _ X.A.in1 (seqItems? (.ref S) >>= _) _ _ _;refine aa<|fz nS.1 rfl ?_;show am _ X.A.in1 (tryCatch (pyNext<|.ref a) _ >>= _) _ _ _;refine aa (fC<|wT I (W.done _ _ _ ⟨by rw[show f_.toArray.size=j by simp;lia];exact L,pl.isList⟩ λh' B6 uw pB=>?_));have I0:L2.Inv X ((lam,lo)::Qc) a_ H s:=I.pins_of λp hp=>I.pin p<|ax _ (.tail _<|.tail _ hp);obtain⟨f0,f1,f2,f3,f4,f5⟩:=n;have I1:L2.Inv X ((lam,lo)::Qc) a_ H { s with heap:=h',toks:=B6 }:=I0.turned (λb o Z e=>uw b o ⇑Z e) f0 f1 f3 f4 f5;have FC:=uw S _ ⇑yb nS.1;have s1:=cF h' S (br λ_=>(#[]:Array ae));obtain⟨g0,g1,g2,g3,g4,g5⟩:=fS;show am _ X.A.in1 (updateSeq S (λ_=>#[]) >>= _) _ _ _;refine aa ?_;refine fg FC rfl<|aa (gN<|ak ?_);have B:=I1.turned (λb o Z e=>(s1.2 b Z).trans e) g0 g1 g3 g4 g5;have I3:L2.Inv X Qc a_ H _:=B.pins_of λp hp=>B.pin p (ax _<|.tail _ hp);rw[AK,mx] at q;exact⟨N,H,I3,rb,post.here q cl db⟩
 | succ r ih=>
  intro j s H μ O b N m f k c oI hr hj I n fS L la dd ev cl uf rb db q;have qt:j<ds.length:=by lia
  have nS:=I.pin (S,seqObj "list" #[m,.int f k] c) (ax _<|.head _);have nI:=I.pin (a,oI)<|ax _ (.tail _<|.head _);obtain⟨d,hd⟩:∃d,ds[j]?=Qg d:=⟨_,aB qt⟩;rw[dj qt,(al.mp hd).2] at q;unfold Ab at q;split at q
  case h_2=>exact ah q
  rename_i g O1 hE;refine f7 gQ ?_;rw[iy cY _];show am _ X.A.in1 (seqItems? (.ref S) >>= _) _ _ _;refine aa<|fz nS.1 rfl ?_;show am _ X.A.in1 (tryCatch (pyNext<|.ref a) _ >>= _) _ _ _;have JL:qV X ((S,seqObj "list" #[m,.int f k] c)::(lam,lo)::Qc) H a:=⟨n.1,n.2.1,n.2.2.1,n.2.2.2.1,n.2.2.2.2.1,λp hp=>by
   rcases aO.mp hp with hp|hp
   .exact n.2.2.2.2.2 p<|cr _ hp
   .rcases av.mp hp with rfl|hp
    .exact yb
    .exact n.2.2.2.2.2 p<|ax _ hp⟩
  refine aa (fC (bQ (Nj m_ hK I JL hl L la dd ev cl uf hd hE (R:=λv u Y=>∃tk t P b_ x,u=.int g tk/\L2.Inv X ((S,seqObj "list" #[m,.int f k] c)::(a,t)::(lam,lo)::Qc) a_ P Y/\Y.heap.IsListIter a l (j+1)/\Ext H μ P b_/\nu X.K P Qb b_ O1/\RelV x v/\Qe X.K P Qb b_ d x)
   λv tk t Y P b_ x a1 a2 a3 a4 a5 a6=>⟨tk,t,P,b_,x,rfl,a1,a2,a3,a4,a5,a6⟩) (λo s1 ho=>?_) λ_ _ z=>z))
  obtain⟨v,rfl,qM⟩:=ho;show am _ X.A.in1 (tryCatch (holding [v]<|call (.ref lam) [v]) _ >>= _) _ _ _;refine aa (fC<|bD (bQ qM (λu M he=>?_) λ_ _ hF=>hF.elim));obtain⟨y,t,C,n_,x,rfl,B,x9,T,yR,rx,dx⟩:=he;have U:=B.pin (S,seqObj "list" #[m,.int f k] c) (ax _<|.head _);have II:=B.pin (a,t)<|ax _ (.tail _<|.head _);have Fm:=la.mv T.mv (hid':=Qb);have zJ:=dd.ext T;have Dh:=ev.ext T;have C4:∃J,C cc=Qg (.ext J)/\∀h:aJ,J h->∃q,h.CodeRec (.ref cc) q:=let ⟨J,h1,h2⟩:=uf;⟨J,Nw cl T h1,h2⟩;have QG:qV X ((lam,lo)::Qc) C a:=⟨II.2.1,n.2⟩;have G:qV X ((lam,lo)::Qc) C S:=⟨U.2.1,fS.2⟩;have q2:=post.ext q T;show am _ X.A.in1 (tryCatch (holding [v,.int g y]<|richCompare .Lt (.int g y) (.int f k) >>= _) _ >>= _) _ _ _;refine aa (fC<|bD (aa<|CmpOf.ints_lt (λi=>if i=0 then g else f) (λi v h=>h) 0 1 _ _ _ _ _ ⟨y,rfl⟩ ⟨k,rfl⟩ ?_));refine aa (bD<|cO ?_);refine aa (gN<|ak ?_);by_cases tQ:g<f
  .have s1:=cF M.heap S (br λ_=>#[v,.int g y]);obtain⟨c2,vQ⟩:∃c2,(M.heap.update S (br λ_=>#[v,.int g y])).get? S=Qg (seqObj "list" #[v,.int g y] c2):=⟨_,get?_update_seq U.1 λ_=>#[v,.int g y]⟩;rw[Qs tQ] at q2;simp only[mG,tQ,decide_true,if_true,cU,if_false];refine aa ?_;refine fg U.1 rfl (aa<|gN ?_);rw[tu];have I3:L2.Inv X ((a,t)::(lam,lo)::Qc) a_ C M:=B.pins_of λp hp=>B.pin p (ax _<|.tail _ hp);have I4:L2.Inv X ((a,t)::(lam,lo)::Qc) a_ C { M with heap:=M.heap.update S (br λ_=>#[v,.int g y]),toks:=M.toks }:=I3.turned (λb o Z e=>(s1.2 b Z).trans e) G.1 G.2.1 G.2.2.2.1 G.2.2.2.2.1 (λp hp=>by
    rcases aO.mp hp with hp|hp
    .exact G.2.2.2.2.2 p<|cr _ hp
    .rcases av.mp hp with rfl|hp
     .exact yb.symm
     .exact G.2.2.2.2.2 p<|ax _ hp)
   have I5:L2.Inv X ((S,seqObj "list" #[v,.int g y] c2)::(a,t)::(lam,lo)::Qc) a_ C _:=I4.pins_of λp hp=>by
    rcases av.mp hp with rfl|hp
    .exact⟨vQ,U.2.1,U.2.2.1,U.2.2.2.1,λv z=>nomatch z⟩
    .exact I4.pin p<|ax _ hp
   obtain⟨oq,Jm,Jl,Jk⟩:=id x9;exact ak ⟨fU cY _,ih (j+1) _ C n_ O1 d x v g y c2 t 'd' qt I5 QG G ⟨oq,(s1.2 a yb.symm).trans Jm,Jl,Jk⟩ Fm zJ Dh yR C4 rx dx q2⟩
  .rw[Qu tQ] at q2;simp only[mG,tQ,decide_false,cU,if_false,if_true];refine aa<|gN ?_;rw[tu];exact ak ⟨fU cY _,ih (j+1) M C n_ O1 b N m f k c t 'd' qt B QG G x9 Fm zJ Dh yR C4 rb (db.ext T) q2⟩
set_option tactic.hygienic true in
def VX{s:aj}{H:Hp}{μ:List af}{O:Ow}(m_:X.calm=Qo)(hK:Gr X lam lo cc Qb σ a_ tE)(I:L2.Inv X ((lam,lo)::Qc) a_ H s)(Y:LstAt X.K H Qb μ l vs)(dd:nv X.K H Qb μ ds vs)(ev:ny X.K H Qb μ σ a_)(cl:nu X.K H Qb μ O)
  (uf:∃J,H cc=Qg (.ext J)/\∀h:aJ,J h->∃q,h.CodeRec (.ref cc) q) (q:pf Ex X.K H Qb μ (DN tE σ O ds) Q):am (aq X.prog X.w) X.A (call (.builtin "min") [.ref l] [(c9 "key",.ref lam)]) (EP X Qc a_ Q) E s:=by
 have tu:(toString "min" ++ toString ".loop":String) = "min.loop":=by decide
 obtain⟨f_,rv,pl,hz⟩:=I.list Y.sq;have Qk:=pl.isList;obtain⟨ol,AI,_⟩:=id Qk;have Jr:l<s.heap.objs.size:=aC AI;cases ds with
 |nil=>exact ah q
 |cons d rm=>
 have q:pf Ex X.K H Qb μ (match tE (σ++[Qg d]) O with|.ok (.int j) L=>Ab tE σ rm d j L|_=>.bad) Q:=q;split at q
 case h_2=>exact ah q
 rename_i g L hE;refine kmb_tree PySem.F.kind_min PySem.F.plain_min PySem.F.entry_min (kmb_min_key _ _) ?_;show am _ X.A.in1 (i6 "min" ["key", "default"] 0 ⟨[],[(c9 "key",.ref lam)]⟩ >>= _) _ _ s;refine aa<|j9 (show i6 "min" ["key", "default"] 0 ⟨[],[(c9 "key",.ref lam)]⟩=pure [Qg<|.ref lam,Qn] from rfl) ?_;refine aa<|ak ?_;refine aa<|ft Qk ?_;refine aa (fT ?_<|cH _);rw[tu];generalize n:s.heap.objs.size=a at *;generalize Z:s.heap.push { cls:=.type "list_iterator",data:=.fields #[.ref l,.int 0 0] } = h1 at *;have hS:h1.objs.size=a+1:=by rw[<- Z,size_push',n]
 generalize hSS:h1.objs.size=S at *;have Ql:l≠a:=bb Jr;have M:S≠a:=by rw[hS];exact dQ<|cj _
 have kp:∀b o,s.heap.get? b=Qg o->(h1.push<|seqObj "list" #[] 0).get? b=Qg o:=λb o e=>ai _ (by rw[<- Z];exact ai _ e);have gI:(h1.push<|seqObj "list" #[] 0).get? a=Qg { cls:=.type "list_iterator",data:=.fields #[.ref l,.int 0 0] }:=ai _ (by rw[<- Z,<- n];exact aA _ rfl);have gS:(h1.push<|seqObj "list" #[] 0).get? S=Qg (seqObj "list" #[] 0):=by rw[<- hSS];exact aA _ rfl
 have c:qV X ((lam,lo)::Qc) H a:=I.fpOk (ij n) (I.hok.fresh<|ij n);have N:qV X ((lam,lo)::Qc) H S:=I.fpOk (by rw[hS,n];exact dH _) (I.hok.fresh (by rw[hS,n];exact dH _));have I1:L2.Inv X ((lam,lo)::Qc) a_ H { s with heap:=h1.push<|seqObj "list" #[] 0,toks:=s.toks }:=I.kept (t':=s.toks) kp;have I2:L2.Inv X ((S,seqObj "list" #[] 0)::(a,{ cls:=.type "list_iterator",data:=.fields #[.ref l,.int 0 0] })::(lam,lo)::Qc) a_ H { s with heap:=h1.push<|seqObj "list" #[] 0,toks:=s.toks }:=I1.pins_of λp hp=>by
  rcases av.mp hp with rfl|hp
  .exact⟨gS,N.1,N.2.1,N.2.2.1,λv z=>nomatch z⟩
  .rcases av.mp hp with rfl|hp
   .exact⟨gI,c.1,c.2.1,c.2.2.1,λv z=>nomatch z⟩
   .exact I1.pin p<|ax _ hp
 refine ak ⟨fU cY _,?_⟩;refine dG (R:=λr t=>match r with|.ok (.ret u)=>EP X Qc a_ Q u t|_=>False) ?_ (λr t h=>by
  cases r with
  |error e=>exact h.elim
  |ok f=>cases f<;>first|exact h|exact h.elim)
 refine f7 gQ ?_;rw[iy cY _];show am _ X.A.in1 (seqItems? (.ref _) >>= _) _ _ _;refine aa<|fz gS rfl ?_;show am _ X.A.in1 (tryCatch (pyNext<|.ref a) _ >>= _) _ _ _;have JL:qV X ((S,seqObj "list" #[] 0)::(lam,lo)::Qc) H a:=⟨c.1,c.2.1,c.2.2.1,c.2.2.2.1,c.2.2.2.2.1,λp hp=>by
  rcases aO.mp hp with hp|hp
  .exact c.2.2.2.2.2 p<|cr _ hp
  .rcases av.mp hp with rfl|hp
   .exact M
   .exact c.2.2.2.2.2 p<|ax _ hp⟩
 refine aa (fC (bQ (Nj m_ hK I2 JL Ql ⟨_,gI,rfl,rfl⟩ Y dd ev cl uf rfl hE (R:=λv u t=>∃tk i y C x,u=.int g tk/\L2.Inv X ((S,seqObj "list" #[] 0)::(a,i)::(lam,lo)::Qc) a_ y t/\t.heap.IsListIter a l (0+1)/\Ext H μ y C/\nu X.K y Qb C L/\RelV x v/\Qe X.K y Qb C d x)
  λv tk i t y C x a1 a2 a3 a4 a5 a6=>⟨tk,i,y,C,x,rfl,a1,a2,a3,a4,a5,a6⟩) (λo s1 ho=>?_) λ_ _ z=>z))
 obtain⟨v,rfl,qM⟩:=ho;show am _ X.A.in1 (tryCatch (holding [v]<|call (.ref lam) [v]) _ >>= _) _ _ _;refine aa (fC<|bD (bQ qM (λu s2 he=>?_) λ_ _ hF=>hF.elim));obtain⟨k,i,P,n_,x,rfl,T,x9,G,yR,rx,dx⟩:=he;have B:=T.pin (S,seqObj "list" #[] 0) (ax _<|.head _);have II:=T.pin (a,i)<|ax _ (.tail _<|.head _);have s1:=cF s2.heap S (br λ_=>#[v,.int g k]);obtain⟨U,vQ⟩:∃U,(s2.heap.update S (br λ_=>#[v,.int g k])).get? S=Qg (seqObj "list" #[v,.int g k] U):=⟨_,get?_update_seq B.1 λ_=>#[v,.int g k]⟩;show am _ X.A.in1 (updateSeq S (λ_=>#[v,.int g k]) >>= _) _ _ _;refine aa ?_;refine fg B.1 rfl ?_;rw[tu];have m:qV X ((lam,lo)::Qc) P S:=⟨B.2.1,N.2⟩;have I4:L2.Inv X ((a,i)::(lam,lo)::Qc) a_ P s2:=T.pins_of λp hp=>T.pin p (ax _<|.tail _ hp);have I5:=I4.turned (λb o hb e=>(s1.2 b hb).trans e) m.1 m.2.1 m.2.2.2.1 m.2.2.2.2.1 (λp hp=>by
  rcases aO.mp hp with hp|hp
  .exact m.2.2.2.2.2 p<|cr _ hp
  .rcases av.mp hp with rfl|hp
   .exact M.symm
   .exact m.2.2.2.2.2 p<|ax _ hp)
 have I6:L2.Inv X ((S,seqObj "list" #[v,.int g k] U)::(a,i)::(lam,lo)::Qc) a_ P _:=I5.pins_of λp hp=>by
  rcases av.mp hp with rfl|hp
  .exact⟨vQ,B.2.1,B.2.2.1,B.2.2.2.1,λv z=>nomatch z⟩
  .exact I5.pin p<|ax _ hp
 obtain⟨oq,Jm,Jl,Jk⟩:=id x9;exact ak ⟨fU cY _,Ua (ds:=d::rm) m_ hK Ql M (s0:=s) _ 1 _ P n_ L d x v g k U i rfl (Nat.succ_le_succ<|cH _) I6 ⟨II.2.1,c.2⟩ m ⟨oq,(s1.2 a M.symm).trans Jm,Jl,Jk⟩ (Y.mv G.mv) (dd.ext G) (ev.ext G) yR (let ⟨J,h1,h2⟩:=uf;⟨J,Nw cl G h1,h2⟩) rx dx (post.ext q G)⟩
set_option tactic.hygienic true in
def TJ(hr:nB (k+2) X.A)(m_:X.calm=Qo)(L:qJ X.mg X.base c Pt)(qz:X.env.code=.ref c)(b:Kr X.env.scope scope x)(sN:defaultsOf params X.env=([],[]))
  (ug:∀(name n:ao)(cl:List (ao×af))(pm o ct u:ae),bindArgs (b9 name n params body scope cl pm o ct) ⟨[u],[]⟩=pure [(x,u)]) (xR:x∉X.N) (he:PD X Ex e te)
  (hE:∀(q:ao)(lam:af)(o:ae)(cl:List (ao×af))(A:aY)(outer:List Env)(s:aj)(H:Hp),nB k (A.deeper<|q0 q scope s.heap.objs.size lam o cl)->PD (Dl X.prog X.w X.K X.mg X.base (X.N++[x]) (q0 q scope s.heap.objs.size lam o cl) A outer s H) pe body tE)
  (hg:Gl X "min") (hm:X.mg "min" = Qn) (C:au [e] X.env=[(Qp,eval e X.env)]:=by rfl):PD X Ex (.Call (.Name "min" pn) [e] [⟨Qg<|c9 "key",.Lambda params body scope pl,kq⟩] pp) (Bb Pt iT te tE):=by
 refine⟨?_⟩;rintro Qc s a_ H Q I ⟨Qb,μ,σ,O,ev,c1,q⟩;obtain⟨ti,q⟩:nJ H Pt/\pf Ex X.K H Qb μ ((te σ O).bnd λx f=>match x with|.lst ds=>DN tE σ f ds|_=>.bad) Q:=by
  unfold Bb at q;split at q
  .rename_i p hp;by_cases G:p=Pt
   .rw[Qs G] at q;obtain⟨v,_,d⟩:=ev.at_ iT _ hp;unfold Qe at d;rw[G] at d;exact⟨d.2,q⟩
   .rw[Qu G] at q;exact ah q
  .exact ah q
 have J:∀{cells:List (ao×af)},(∀y∈scope.names,y.2=.free->∃c,cells.lookup y.1=Qg c)->∀x c,(qo cells scope.names []).lookup x=Qg c->cells.lookup x=Qg c:=λ{cells}i x c e=>by
  rcases BN _ _ (be e) with m|⟨m,z⟩
  .cases m
  .obtain⟨c',x_⟩:=i (x,.free) m rfl;have vQ:cells.lookup x=Qg c':=x_;rw[vQ] at z ⊢;rw[z];rfl
 have i:∀y∈scope.names,y.2=.free->∃c,X.env.cells.lookup y.1=Qg c:=λy M hf=>I.ok.has y.1<|b.frees y M hf;have vS:∀x,scope.names.lookup x=Qg .free->∃c,(qo X.env.cells scope.names []).lookup x=Qg c:=λx e=>by
  have m:=BO (cells:=X.env.cells) scope.names []<|be e;exact⟨_,vt (BM _ _ b.nd 'k' (by intro p hp;cases hp)) m⟩
 have AM:∀x,scope.names.lookup x=Qg .free->X.env.scope.names.lookup x=Qg .cell\/X.env.scope.names.lookup x=Qg .free:=λx e=>b.frees (x,.free) (be e) rfl;have qr:∀y,qu scope y->scope.names.lookup y=Qg .free\/y=x:=λy M=>by
  rcases M with z|z|z
  .exact .inr<|b.loc _ (be z) rfl
  .exact absurd rfl (b.cell _<|be z)
  .exact .inl z
 refine dk<|Ag I hg hm zev ?_ 'b' 'b';refine callWith_kw ?_ (by rw[C];rfl) (by rw[C];rfl);rw[C];show am _ _ (spliced<|(Qp,eval e X.env)::backTo pp []) _ _ s;refine iX (oO (he.out Qc s a_ H _ I (rd.go (Q1:=λP h=>∃j f a,ny X.K h Qb a σ a_/\Ext H μ h a/\nu X.K h Qb a f/\Qe X.K h Qb a j P/\pf Ex X.K h Qb a (match j with|.lst ds=>DN tE σ f ds|_=>.bad) Q) ev c1 q λj f P h a S T U r1 Y=>⟨j,f,a,S,T,U,r1,Y⟩)) λu1 s1 ⟨P,h,I1,Z,j,f,a,S,T,U,da1,Y⟩=>?_);refine jk ?_;refine kws_cons (LN I1 L qz (T.tab _ ti) (Ib i) sN λlam o vV h' tk H' I3 ext cells Fy vM pk sJ=>?_);refine kws_nil ?_;obtain⟨cc,φ,rfl,uf,IZ⟩:=sJ;have JM:=S.ext<|ext a;have cl3:=cells Qb a f U;have q3:=post.ext Y<|ext a;have QM:=da1.ext<|ext a;cases j with
 | lst ds=>
  unfold Qe at QM;obtain⟨l,vs,rfl,la,dd⟩:=QM;cases Z;have t:qV X Qc H' lam:=I1.fpOk vM Fy;have I4:L2.Inv X ((lam,_)::Qc) a_ H' { s1 with heap:=h',toks:=tk }:=I3.pins_of λp hp=>by
   rcases av.mp hp with rfl|hp
   .exact⟨pk,t.1,t.2.1,t.2.2.1,λv z=>nomatch z⟩
   .exact I3.pin p<|ax _ hp
  refine VX (cc:=cc) m_ ?_ I4 la dd JM cl3 ⟨φ,uf,IZ⟩ q3;intro PN s5 H5 xq O5 d5 v5 u5 Q5 g CH zC FI cl5 dx5 rx5 q5;obtain⟨φ5,zC,IY⟩:=zC;obtain⟨qn,Jj⟩:=IY _ (g.hok cc _ zC).1;have hg5:=(g.pin _<|ax _ CH).1;refine gm (dG (Sj (μ:=xq) hr.in1 g.env0.in1 hg5 Jj b.co b.gen b.kind b.cell (ug _ _ _ _ _ _ _) qr b.one xR (OC g Un.refl<|J i) (Nt g<|J i) vS (Ob g Un.refl (J i) vS AM) g.len rx5 (hE _ _ _ _ _ _ _ _) (FI.snoc dx5) cl5 q5) λr s8 B=>?_);cases r with
  |error e=>exact B.elim
  | ok t=>
   cases t with
   |ret u=>exact g.after B
   |next=>exact ah B
   |brk=>exact ah B
   |cont=>exact ah B
 |_=>exact ah q3
end
end DL
namespace DL
open PySem L2
mutual
def nm:D->Bool
 |.map _ _=>Qp
 |.dct=>Qp
 |.exn _=>Qp
 |.lst ds=>yF ds
 |.tup ds=>yF ds
 |_=>Qo
def yF:List D->Bool
 |[]=>Qo
 |d::ds=>nm d&&yF ds
end
section
def KL(b:H p=Qg (.frz o<|.dK c))(h:Rd H a u)(d:∀c,u ≠ .dK c)(e:∀o v,u ≠ .frz o v):a≠p:=by
 rintro rfl;rcases h with h|⟨o,h⟩
 .rw[b] at h;cases h;exact e _ _ rfl
 .rw[b] at h;cases h;exact d _ rfl
mutual
theorem Qe.hide(c:H p=Qg (.frz o<|.dK h_)):∀{d:D}{v:V},nm d=Qo->Qe K H Qb μ d v->Qe K H (p::Qb) μ d v
 |.non,_,_,h=>h
 |.bl _,_,_,h=>h
 |.int _,_,_,h=>h
 |.str _,_,_,h=>h
 | .lst ds,v,n,h=>by
  unfold Qe at h ⊢;obtain⟨a,f,r,l,q⟩:=h;refine⟨a,f,r,l.imp (λz=>⟨z.1,λm=>?_,z.2.2⟩) id,nv.hide c n q⟩;rcases av.mp m with e|m
  .exact KL c z.1 (λ_ z=>nomatch z) (λ_ _ z=>nomatch z) e
  .exact z.2.1 m
 | .tup ds,v,n,h=>by
  unfold Qe at h ⊢;obtain⟨a,f,r,l,q⟩:=h;refine⟨a,f,r,l.imp (λz=>⟨z.1,λm=>?_,z.2.2⟩) id,nv.hide c n q⟩;rcases av.mp m with e|m
  .exact KL c z.1 (λ_ z=>nomatch z) (λ_ _ z=>nomatch z) e
  .exact z.2.1 m
 |.own k,v,_,h=>by unfold Qe at h ⊢;exact h
 |.dct,_,n,_=>by cases n
 |.exn _,_,n,_=>by cases n
 |.tab P,v,_,h=>by unfold Qe at h ⊢;exact h
 |.map _ _,_,n,_=>by cases n
 |.adr _,_,_,h=>h
 | .obj C k,v,_,h=>by
  unfold Qe at h ⊢;obtain⟨a,g,b,r,q,i,j,s⟩:=h;refine⟨a,g,b,r,q,λm=>?_,j,s⟩;rcases av.mp m with rfl|m
  .rw[c] at q;cases q
  .exact i m
theorem nv.hide(a:H p=Qg (.frz o<|.dK h_)):∀{ds:List D}{vs:List V},yF ds=Qo->nv K H Qb μ ds vs->nv K H (p::Qb) μ ds vs
 |[],_,_,h=>h
 | d::ds,vs,n,h=>by
  unfold nv at h ⊢;unfold yF at n;obtain⟨b,c⟩:=iz.mp n;obtain⟨v,r,e,f,g⟩:=h;exact⟨v,r,e,Qe.hide a b f,nv.hide a c g⟩
end
def nu.hide(d:H p=Qg (.frz o<|.dK h_))(n:O.all yF=Qo)(c:nu K H Qb μ O):nu K H (p::Qb) μ O:=by
 refine⟨c.len,c.nd,λa m z=>?_,λa m=>?_,λk a e=>?_⟩
 .rcases av.mp z with e|z
  .obtain⟨k,i,j⟩:=dD.mp m;obtain⟨f,g,_,b,_⟩:=c.at_ k a (by rw[aB i,j]);rw[e,d] at b;cases b
  .exact c.nh a m z
 .rcases av.mp m with e|m
  .rw[e,d];simp
  .exact c.ht a m
 .obtain⟨f,g,h,b,l⟩:=c.at_ k a e;exact⟨f,g,h,b,l.hide d (cE.mp n f<|aR h)⟩
def ny.put(e:ny K H Qb μ σ a_)(h:a_[i]?=Qg (Qg v))(q:Qe K H Qb μ d v):ny K H Qb μ (σ.set i<|Qg d) a_:=by
 refine⟨by simp[e.len],λj x g=>?_⟩;by_cases a:i=j
 .subst a;have b:i<σ.length:=by have:=(al.mp g).1;simpa using this
  rw[aX b] at g;cases g;exact⟨v,h,q⟩
 .rw[aQ a] at g;exact e.at_ j x g
def ny.forget(e:ny K H Qb μ σ a_)(o:Option V):ny K H Qb μ (σ.set i Qn) (a_.set i o):=by
 refine⟨by simp[e.len],λj x g=>?_⟩;by_cases a:i=j
 .subst a;have b:i<σ.length:=by have:=(al.mp g).1;simpa using this
  rw[aX b] at g;cases g
 .rw[aQ a] at g;obtain⟨v,c,d⟩:=e.at_ j x g;exact⟨v,by rw[aQ a];exact c,d⟩
def Fn(k:DK)(ks:List DK):Bool:=ks.any λj=>decide<|j=k
def tW(k:DK)(ks:List DK):List DK:=ks.filter λj=>decide<|j≠k
def xG(k:DK):List DK->List D->List D
 |j::ks,d::ds=>if j=k then xG k ks ds else d::xG k ks ds
 |_,_=>[]
theorem Mq:∀{a:List DK}{ds:List D}{vs:List V},a.length=vs.length->nv K H Qb μ ds vs->∃b,xE ((a.map kD).zip vs) (kD k)=((tW k a).map kD).zip b/\(tW k a).length=b.length/\nv K H Qb μ (xG k a ds) b
 |[],ds,vs,_,_=>⟨[],rfl,rfl,.nil⟩
 |j::a,ds,[],h,_=>by cases h
 |j::a,[],v::vs,_,h=>by unfold nv at h;cases h
 | j::a,d::ds,v::vs,hl,h=>by
  obtain⟨w,r,e,i,l⟩:=(by unfold nv at h;exact h);cases e;obtain⟨b,c,f,g⟩:=Mq (k:=k) (lQ hl) l;show ∃b,xE ((kD j,v)::(a.map kD).zip vs) (kD k)=_/\_;by_cases e:j=k
  .subst e;refine⟨b,?_,?_,?_⟩
   .unfold xE tW at *;rw[gA 'k',gA 'k'];exact c
   .unfold tW at *;rw[gA 'k'];exact f
   .unfold xG;rw[Qs rfl];exact g
  .have m:kD j≠kD k:=λz=>e<|Eo z;refine⟨v::b,?_,?_,?_⟩
   .unfold xE tW at *;rw[gC ⇑m,gC ⇑e,c];rfl
   .unfold tW at *;rw[gC ⇑e];simpa using f
   .unfold xG;rw[Qu e];exact .cons i g
theorem N6:∀{a:List DK}{vs:List V},a.length=vs.length->Fn k a=Qo->(sU ((a.map kD).zip vs)<|kD k).isSome=Qo
 |[],_,_,h=>by cases h
 |_::_,[],h,_=>by cases h
 | j::a,v::vs,hl,h=>by
  show(sU ((kD j,v)::(a.map kD).zip vs)<|kD k).isSome=Qo;by_cases e:j=k
  .rw[BK<|congrArg kD e];rfl
  .rw[Ap (λz=>e<|Eo z)];unfold Fn at h;rw[gT,decide_eq_false e,mT] at h;exact N6 (lQ hl) h
end
def Bd(iR rS iL:Nat)(t1 t3:DE):List D->List DK->List D->Sg->Ow->RS
 |[],_,_,σ,O=>.nx σ O
 | x::xs,ks,ds,σ,O=>match yn x with
  | some k=>if Fn k ks=Qo then match t1 (σ.set rS<|Qg x) O with
    | .ok d1 O1=>match t3 (((σ.set rS<|Qg x).set iL<|Qg d1).set iR<|Qg (.map (tW k ks)<|xG k ks ds)) O1 with
     |.ok _ O2=>if O2.all yF=Qo then Bd iR rS iL t1 t3 xs (tW k ks) (xG k ks ds) ((σ.set rS<|Qg x).set iL<|Qg d1) O2 else .bad
     |_=>.bad
    |_=>.bad
   else .bad
  |none=>.bad
def Gi(iR rS iL:Nat)(tH:DE)(it:DI)(t1 t3:DE)(tt:DS):DS:=λσ O=>(tH σ O).bnS λx O1=>match x with
 | .map ks ds=>(it (σ.set iR Qn) O1).bnS λsrc O2=>match src with
  | .val xs=>match Bd iR rS iL t1 t3 xs ks ds (σ.set iR Qn) O2 with
   |.nx σ' O'=>tt σ' O'
   |_=>.bad
  |_=>.bad
 |_=>.bad
def Ea.ext(e:Ea p H μ H' b_)(h:H p=Qn):Ext H μ H' b_:=⟨e.pre,λb o g n a=>e.kept b o g n (qS g h) a,e.fresh,e.there,e.tab⟩
section
def KW(f:H A=Qg (.frz ob u)):∀P2,nJ H P2->nJ (upd H A o) P2:=by
 rintro P2 ⟨g,a,h,i⟩;have j:P2≠A:=by rintro rfl;rw[f] at a;cases a
 refine⟨g,by rw[oN j];exact a,h,λb k e=>?_⟩;obtain⟨c,l,rfl,d,m⟩:=i b k e;have n:c≠A:=by rintro rfl;rw[f] at d;cases d
 exact⟨c,l,rfl,by rw[oN n];exact d,m⟩
def SM(g:PE X e te):PE X e (λc H Q=>∃p a,H p=Qg (.dK a)/\∀o,te c (upd H p (.frz o<|.dK a)) λv d=>d p=Qg (.frz o<|.dK a)/\Q v (upd d p<|.dK a)):=by rintro b s c H Q I ⟨p,a,f,h⟩;obtain⟨o,J⟩:=Inv.frzK I f;exact oO (g b s c _ _ J<|h o) λv k ⟨x,l,i,r,j,q⟩=>⟨x,_,Inv.thawK i j<|Inv.nofrz I f,r,q⟩
def XE:nM X (.type "dict") (λf H Q=>∃(a:af)(d:List (Key×V)),f=[.ref a]/\Rd H a (.dK d)/\∀p,H p=Qn->Q (.ref p) (upd H p<|.dK d)):=by intro g s x H f y Q I r h;obtain⟨a,d,rfl,i,q⟩:=h;obtain⟨u,rfl,j⟩:=sD r;cases j;obtain⟨z,k,A,c,l⟩:=D9 I.hok i;refine kt_call_dict k l (by rw[<- c.length];exact z) λm n t=>?_;have v:∀b o,s.heap.get? b=Qg o->m.get? b=Qg o:=λb o e=>(t.2 b (bb<|aC e)).trans<|ai _ e;have w:=I.hok.fresh<|ay s.heap.objs.size;exact⟨.ref _,_,I.laid v (ay _)<|GL z (beq_eq_false_iff_ne.mpr (bO<|bb I.big)) c n,rfl,q _ w⟩
def XT{d k c:aZ}{f:List aZ}{l:List cD}{b:cC}{j t u:Pos}{y:ao}{i:Nat}(o:Bool)(ext:List ao){n:DI}{g:Tg}{p:List DT}{r:List Cl}{w:DE}(P:X.calm=Qo)(Q:X.N.Nodup)(S:X.N[i]?=Qg y)(A:X.env.scope.names.lookup y=Qg .local)
  (T:rn X Ex k c n) (U:ui X.env.scope b (X.N++ext) (pj<|⟨n,g,p⟩::r))
  (Y:Be X ext b k g f p l r d w)
  (Z:swapsWith (.ListComp d (⟨k,c,f,0⟩::l) b j) (Qg<|.Name y u) t.line X.env=pure Qo)
  (hs:∀x,bw c X.env x=pure x:=by intro _;rfl):PS X (.Assign [.Name y u] (.ListComp d (⟨k,c,f,0⟩::l) b j) t) (zW (rd Ex X.K<|qc o ext.length n g p r w)<|xD i):=by
 rintro B s a_ H E I ⟨Qb,μ,σ,O,e1,G,q⟩;rw[kB _ _ _ _ Z];refine aa (eH<|aa ?_);unfold qc at q;rw[<- HG] at q;refine aa (bQ (BD (He d) P T U (λh Cn s H fp _ _ _=>FX Y h Cn s H fp) hs I e1 G (NI G q λL H' hQ s' C I' ns nC J y1 M pn=>?_)) (λ_ s' hq=>ak<|ak hq) λ_ _ e=>e);obtain⟨m,hn⟩:=ns;refine ji (Hr (v:=.ref L) I' Q S (.inl A) rfl (λq9 J0 vE=>?_)<|.inr A);obtain⟨a,zp,ha⟩:=vE;have JK:C≠a:=by
  rcases ha with z|z
  .rw[z];exact J
  .exact λe=>M y a z e.symm
 refine⟨m,hn.sameBut zp JK,λh' xV=>?_⟩;exact⟨_,H',Inv.bare J0 xV nC J y1 M pn,hQ⟩
def Xa(n:iW (aq X.prog X.w) X.A X.env X.xe)(hc:X.calm=Qo)
  (hA:∀te,PE X e te->PS X sA (zW (Fb (λxs H Q=>∃(a:af)(h_:List (Key×V)),xs=[.ref a]/\Rd H a (.dK h_)/\∀p,H p=Qn->Q (.ref p) (upd H p<|.dK h_))<|Bj te zR)<|xD iR)) (hH:PD X Ex e tH)
  (hi:rn X Ex tg iter it) (hg:PG X tg ((Tg.one rS).rd X.K)) (vR:PE X (.Name r p2) (A7 iR)) (vT:PE X (.Name tm p3) (A7 rS)) (hL:PS X sL (zW (rd Ex X.K t1)<|xD iL)) (hE:PD X Ex e3 t3) (xU:swapsWith e3 Qn pE.line X.env=pure Qp) (ht:qv X Ex xs tt)
  (n1:iR≠rS) (n2:iR≠iL) (hl:iR<X.N.length) (hT:rS<X.N.length) (hs:∀x,bw iter X.env x=pure x:=by intro _;rfl):qv X Ex (sA :: .For tg iter [.Delete [.Subscript (.Name r p2) (.Name tm p3) p4] p1,sL,.Expr e3 pE] [] pos::xs) (Gi iR rS iL tH it t1 t3 tt):=by
 refine⟨?_⟩;rintro Qc s a_ H E I ⟨b,μ,σ,O,e1,c1,q⟩;have hlv:iR<a_.length:=by rw[I.len];exact hl
 refine(Aw (hA _ hH.out)<|Aw (Lx n hc hi.out hg (Aw (TM vR vT)<|Aw hL (GY<|MK (SM hE.out) xU)) hs) ht.out) Qc s a_ H E I (rd.goS e1 c1 q λx O1 v L C ea xa ca da qa=>?_);cases x with
 | map ks ds=>
  obtain⟨a0,vs,rfl,ra,na1,na2,hlen,dvs⟩:=da;refine⟨a0,_,rfl,.inr ra,λp n=>?_⟩;have IJ:Mv L b C (upd L p (.dK<|(ks.map kD).zip vs)) (p::b) C:=(Mv.hide n).trans (Ext.laid n).mv;have QI:ny X.K (upd L p (.dK<|(ks.map kD).zip vs)) (p::b) C (σ.set iR Qn) (a_.set iR (Qg<|.ref p)):=(ea.mv IJ).forget _;have PU:p∉C:=λm=>by
   obtain⟨k,hk,e2⟩:=dD.mp m;obtain⟨_,_,_,h2,_⟩:=ca.at_ k p (by rw[aB hk,e2]);rw[n] at h2;cases h2
  have nph:p∉b:=λm=>ca.ht p m n;have cap:nu X.K (upd L p (.dK<|(ks.map kD).zip vs)) (p::b) C O1:=by
   have c0:=ca.laid (o:=.dK<|(ks.map kD).zip vs) n;refine⟨c0.len,c0.nd,λa m z=>?_,λa m=>?_,λk a e=>?_⟩
   .rcases av.mp z with e|z
    .exact PU (e▸m)
    .exact c0.nh a m z
   .rcases av.mp m with e|m
    .rw[e,pK];simp
    .exact c0.ht a m
   .obtain⟨M,G,Y,h2,Z⟩:=ca.at_ k a e;exact⟨M,G,Y,by rw[oN<|qS h2 n];exact h2,Z.mv IJ⟩
  have t:=qa;refine⟨p::b,C,σ.set iR Qn,O1,QI,cap,?_⟩;cases P:it (σ.set iR Qn) O1 with
  |bad=>rw[P] at t;exact ah t
  | exc c' l=>
   rw[P] at t;exact λg j x c2=>t g j ((Ext.laid n).trans x) c2.unhide
  | ok src O2=>
   rw[P] at t;intro J H1 c_ x1 c2 sa;cases src with
   |own _=>exact ah t
   |zip _ _=>exact ah t
   | val ys=>
    have t:=t;have e0:Ea p L C H1 c_:=(Ext.laid n).ea.trans x1.ea;have zq:=x1.keep p _ pK PU;refine⟨λi m S g=>∃j f l T M G,m=ys.length-i/\i<=ys.length/\S.length=X.N.length/\Ea p H1 c_ g j/\ny X.K g (p::b) j f S/\nu X.K g (p::b) j l/\S[iR]?=Qg (Qg<|.ref p)/\g p=Qg (.dK<|(T.map kD).zip G)/\T.length=G.length/\nv X.K g (p::b) j M G/\
     nE Ex X.K L b C (match Bd iR rS iL t1 t3 (ys.drop i) T M f l with
      |.nx f l=>tt f l
      |_=>.bad) E,
     ⟨_,c_,_,O2,ks,ds,vs,rfl,cH _,by rw[dS];exact I.len,.refl,QI.ext x1,c2,by rw[aX hlv],zq,hlen,(dvs.mv IJ).ext x1,t⟩,?_⟩
    rintro i m uE H2 ⟨u,qQ,Dt,B,FJ,tZ,hm,hile,Qa,JU,Dh,yR,Fs,hp2,Jt,zJ,c⟩;have AB:=sa (p::b) H2 u Dt JU.mv yR i;have Ff:match ys[i]? with
     |some d=>J.go i H2/\∀x rO,J.yld i H2 x rO->Ext H2 u rO u/\nu X.K rO (p::b) u Dt/\Qe X.K rO (p::b) u d x
     |none=>J.stop i H2:=AB
    cases pk:ys[i]? with
    | none=>
     rw[pk] at Ff;have ux:i=ys.length:=by have:=ba.mp pk;lia
     rw[ux,mx] at c;exact .inl ⟨Ff,b,u,qQ,Dt,Dh.mv .unhide,yR.unhide,c.ext<|(e0.trans JU).ext n⟩
    | some d=>
     rw[pk] at Ff;obtain⟨go,yl⟩:=Ff;have ux:=(al.mp pk).1;rw[dj ux,(al.mp pk).2] at c;unfold Bd at c;cases hk:yn d with
     |none=>rw[hk] at c;exact ah c
     | some k=>
      rw[hk] at c;dsimp only at c;by_cases tw:Fn k B=Qo
      case neg=>rw[Qu tw] at c;exact ah c
      rw[Qs tw] at c;refine .inr ⟨go,λS g=>∃j f l T M G,S.length=X.N.length/\Ea p H1 c_ g j/\ny X.K g (p::b) j f S/\nu X.K g (p::b) j l/\S[iR]?=Qg (Qg<|.ref p)/\g p=Qg (.dK<|(T.map kD).zip G)/\T.length=G.length/\nv X.K g (p::b) j M G/\
       nE Ex X.K L b C (match Bd iR rS iL t1 t3 (ys.drop<|i+1) T M f l with
        |.nx f l=>tt f l
        |_=>.bad) E,λf g ⟨j,qI,O3,ks3,ds3,Z9,h⟩=>⟨ys.length-(i+1),by lia,j,qI,O3,ks3,ds3,Z9,rfl,ux,h⟩,λv H3 y=>?_⟩
      obtain⟨x3,c3,r3⟩:=yl v H3 y;have Ce:p∉u:=λm=>yR.nh p m 'k';have Jn:=x3.keep p _ hp2 Ce;have JM:=(Dh.ext x3).set r3 rS;have dd3:=zJ.ext x3;have ekv:=Gq hk r3;have CD:(uE.set rS<|Qg v)[iR]?=Qg (Qg<|.ref p):=by rw[aQ<|bO n1];exact Fs
      have Jh:(uE.set rS<|Qg v)[rS]?=Qg (Qg v):=by
       rw[aX (by rw[Qa];exact hT)]
      refine⟨_,CD,v,Jh,p,_,kD k,rfl,Jn,ekv,N6 Jt tw,?_⟩;obtain⟨U,hd1,hd2,hd3⟩:=Mq Jt dd3;rw[hd1];have JT:Ea p H3 u (upd H3 p (.dK<|((tW k B).map kD).zip U)) u:=.putX<|xy Jn;have QJ:=JM.mv<|JT.mv;have cl4:=c3.putX (o:=.dK<|((tW k B).map kD).zip U)<|xy Jn;have dd4:=hd3.mv<|JT.mv;cases Y:t1 (qQ.set rS<|Qg d) Dt with
      |bad=>rw[Y] at c;exact ah c
      |exc c' l=>rw[Y] at c;exact ah c
      | ok d1 O5=>
       rw[Y] at c;dsimp only at c;refine⟨p::b,u,qQ.set rS<|Qg d,Dt,QJ,cl4,?_⟩;rw[Y];intro v1 H5 xq x5 c5 r5;have CH:=x5.keep p _ pK Ce;have Cd:p∉xq:=λm=>c5.nh p m 'k';have FI:=(QJ.ext x5).set r5 iL;have QL:=dd4.ext x5;have CC:((uE.set rS<|Qg v).set iL<|Qg v1)[iR]?=Qg (Qg<|.ref p):=by rw[aQ<|bO n2];exact CD
       cases Z:t3 (((qQ.set rS<|Qg d).set iL<|Qg d1).set iR<|Qg (.map (tW k B)<|xG k B FJ)) O5 with
       |bad=>rw[Z] at c;exact ah c
       |exc c' l=>rw[Z] at c;exact ah c
       | ok d3 O6=>
        rw[Z] at c;dsimp only at c;by_cases hn:O6.all yF=Qo
        case neg=>rw[Qu hn] at c;exact ah c
        rw[Qs hn] at c;refine⟨p,_,CH,λo=>?_⟩;have JS:Ea p H5 xq (upd H5 p<|.frz o (.dK<|((tW k B).map kD).zip U)) xq:=.putX<|xy CH;have dm:Qe X.K (upd H5 p<|.frz o (.dK<|((tW k B).map kD).zip U)) b xq (.map (tW k B)<|xG k B FJ) (.ref p):=by
         exact⟨p,U,rfl,⟨o,pK⟩,nph,Cd,hd2,(QL.mv<|JS.mv).mv .unhide⟩
        refine⟨b,xq,_,O5,((FI.mv<|JS.mv).mv .unhide).put CC dm,(c5.putX<|xy CH).unhide,?_⟩;rw[Z];intro v3 H6 Dy x6 c6 r6;have Fu:=x6.keep p _ pK Cd;have ea7:Ea p H6 Dy (upd H6 p (.dK<|((tW k B).map kD).zip U)) Dy:=.putX<|KW Fu;have JR:=(JS.trans x6.ea).trans ea7;exact⟨Fu,Dy,_,O6,_,_,U,by rw[dS,dS];exact Qa,((JU.trans x3.ea).trans JT).trans<|x5.ea.trans JR,FI.mv<|JR.mv,(c6.hide Fu hn).putX<|KW Fu,CC,pK,hd2,QL.mv<|JR.mv,c⟩
 |_=>exact ah qa
end
def DM(o:Obj):Nat:=match o.data with
 |.dict _ ep=>ep
 |_=>0
def QS(a:af)(o:Obj)(h_:List (Key×V)):It:=⟨λi H=>H a=Qg (.frz o<|.dK h_)/\i<h_.length,λi H x H'=>H'=H/\∃k v,h_[i]?=Qg (k,v)/\x=kV k,λi H=>H a=Qg (.frz o<|.dK h_)/\h_.length<=i⟩
theorem LM:∀{h_:List (Key×V)}{ws:List (Key×ae)}{i:Nat}{k:Key}{v:V},KV h_ ws->h_[i]?=Qg (k,v)->∃u,ws[i]?=Qg (k,u)
 |_,_,_,_,_,.nil,h=>by simp at h
 | (k0,v0)::_,(k1,u1)::_,0,k,v,.cons h _,e=>by
  obtain⟨rfl,rfl⟩:=e;have a:=h.1;subst a;exact⟨u1,rfl⟩
 |_::_,_::_,i+1,k,v,.cons _ t,e=>LM (i:=i) t ⇑e
def Vo(h:(u9 P w).is k u=Qo):RelV (kV k) u:=by
 rcases vw h with⟨i,t,rfl,rfl⟩|⟨x,t,rfl,rfl⟩
 .exact⟨t,rfl⟩
 .exact⟨t,rfl⟩
def G0(ok:HOk P w H h)(e:H a=Qg (.frz o<|.dK h_)):(a==sysModules)=Qp/\∃b,KV h_ b/\h.DictAt (u9 P w) a b (DM o):=by
 obtain⟨d,z,i,b,c,m,j,k,f,l,g,r⟩:=ok a _ e;rw[d] at f;cases f;have:DM o=k:=by unfold DM;rw[g]
 rw[this];exact⟨i,b,c,o,j,d,l,g,r⟩
def W2(a it:af)(o:Obj)(n:List (Key×V)):vi P w K tg (QS a o n) [it] it (λi h=>h.IsKeyIter it a i n.length<|DM o) where
 mem:=by simp
 obj:=λi h g b j=>by
  have e:b=it:=⇑j
  subst e;obtain⟨o,e,c,d⟩:=g;exact⟨o,e,λv z=>by rw[d] at z;cases z⟩
 keep:=λi h Q g k=>g.at λo e=>k it 'k' o e
 item:=by
  intro X q r t S i l s U H E I m g x;subst q r t;obtain⟨y,A⟩:=x;obtain⟨Y,Z,f,B⟩:=G0 I.hok y;obtain⟨⟨k,v⟩,T⟩:∃p,n[i]?=Qg p:=⟨_,aB A⟩;obtain⟨u,hu⟩:=LM f T;obtain⟨C,G,f2,J,L,M⟩:=m it 'k';rw[f.length] at g;refine wpAny_pyNext_dict_item g B hu λN Q rE O sb=>?_;have I1:=I.turned (λb o j e=>(sb.2 b j).trans e) C G J L M;obtain⟨o2,e,c,d⟩:=id O;rw[<- f.length] at O;exact⟨N,rfl,Bg e c d 'b' ⟨kV k,H,I1,Vo rE,⟨rfl,k,v,T,rfl⟩,O,λb j=>(m b j).1⟩⟩
 done:=by
  intro X q r t S i l s U H E I m g x;subst q r t;obtain⟨y,A⟩:=x;obtain⟨Y,Z,f,B⟩:=G0 I.hok y;obtain⟨C,G,f2,J,L,M⟩:=m it 'k';rw[f.length] at g;exact wpAny_pyNext_dict_end (I.ok.hd S) g B (ba.mpr (by rw[<- f.length];exact A)) λQ eb=>⟨rfl,I.turned (λb o j e=>eb b o j e) C G J L M⟩
 self:=λ_ _ _ _ _ g h=>wpAny_pyIter_keyiter g h
noncomputable def ze:DK->D
 |.inl i=>.int i
 |.inr cs=>.str cs
def UG:∀k:DK,Qe K H Qb μ (ze k) (kV<|kD k)
 |.inl _=>by unfold ze Qe;rfl
 |.inr _=>by unfold ze Qe;rfl
def nH.keys{K:ag}{H:Hp}{Qb μ:List af}{b:List DK}{vs:List V}{a:af}{o:Obj}(h:H a=Qg (.frz o (.dK<|(b.map kD).zip vs)))(n:a∉Qb)(p:a∉μ)(g:b.length=vs.length):nH K (QS a o<|(b.map kD).zip vs) (.val<|b.map ze) H Qb μ:=by
 intro j u v w m c i;have l:=m.kept a _ h p n (by intro A z;cases z);have f:((b.map kD).zip vs).length=b.length:=by rw[mF,aW,g,Nat.min_self]
 show match (b.map ze)[i]? with|some d=>_|none=>_
 rw[bE];cases e:b[i]? with
 | some k=>
  have q:=(al.mp e).1;refine⟨⟨l,by rw[f];exact q⟩,λx B y=>?_⟩;obtain⟨rfl,r,C,s,rfl⟩:=y;have t:r=kD k:=by
   have:=congrArg (mz Prod.fst) s;rw[<- bE,List.map_fst_zip (by rw[aW];exact ij g),bE,e] at this;cases this;rfl
  subst t;exact⟨.refl,c,UG k⟩
 | none=>
  exact⟨l,by rw[f];exact ba.mp e⟩
def Gc(t:DE):DI:=λσ O=>(t σ O).bnd λx O1=>match x with
 |.map ks _=>.ok (.val<|ks.map ze) O1
 |_=>.bad
def V3{X:Cx}{l:Nat->Hp->Prop}{a y:aZ}{t:DE}(A:PD X l a t):rn X l y a (Gc t):=by
 refine⟨?_⟩;rintro i s B H C I ⟨f,Z,σ,O,E,G,q⟩;refine oO (A.out i s B H _ I (rd.go E G q (Q1:=λv g=>∃f h j d,nu X.K g f h j/\Qe X.K g f h d v/\post l X.K (λL M s J=>nH X.K J s L f M) g f h (match d with|.map ks _=>.ok (.val<|ks.map ze) j|_=>.bad) C)
  λd j v g h e2 x c r p=>⟨f,h,j,d,c,r,p⟩)) λu m ⟨v,g,k,N,f,h,j,d,c,r,p⟩=>?_
 cases d with
 | map ks ds=>
  obtain⟨a,vs,rfl,⟨o,w⟩,P,Q,S,dd⟩:=r;cases N;obtain⟨T,ws,n,U⟩:=G0 k.hok w;refine wpAny_pyIter_dict T U ?_;rw[<- n.length];refine⟨m.heap.objs.size,[m.heap.objs.size],_,_,g,rfl,k.kept λb o e=>ai _ e,W2 a _ o _,⟨_,aA _ rfl,rfl,rfl⟩,λb Y=>?_,post.here p c<|.keys w P Q S⟩;have e:b=m.heap.objs.size:=⇑Y
  subst e;exact k.fpOk (ay _) (k.hok.fresh<|ay _)
 |_=>exact ah p
end DL
namespace DL
open PySem L2 PyProof.Rows
noncomputable def ltP(i j k l:Int):Bool:=decide (i<k)||(decide (i=k)&&decide (j<l))
section
def zkV:Ow->D->D->R D:=λO x y=>match x,y with
 |.tup [.int i,.int j],.tup [.int k,.int l]=>.ok (.bl<|ltP i j k l) O
 |_,_=>.bad
def A2:List Int->Int
 |[]=>0
 |x::l=>l.foldl min x
theorem MA:∀(l:List Int)(x:Int),l.foldl min x<=x/\∀a∈l,l.foldl min x<=a
 |[],x=>⟨Int.le_refl _,λ_ h=>by cases h⟩
 | y::l,x=>by
  obtain⟨c,b⟩:=MA l<|min x y;rw[fZ];refine⟨by lia,λa ha=>?_⟩;rcases av.mp ha with rfl|ha
  .lia
  .exact b a ha
theorem MT:∀(l:List Int)(x:Int),l.foldl min x=x\/l.foldl min x∈l
 |[],x=>.inl rfl
 | y::l,x=>by
  rw[fZ];rcases MT l (min x y) with h|h
  .rcases Int.le_total x y with e|e
   .left;rw[h];lia
   .right;rw[h];rw[show min x y=y by lia];exact aL
  .exact .inr<|ar _ h
def WE(hm:M∈ns)(b:∀a,a∈ns->M<=a):M=A2 ns:=by
 cases ns with
 |nil=>cases hm
 | cons x l=>
  show M=l.foldl min x;obtain⟨c,d⟩:=MA l x;have f:l.foldl min x<=M:=by
   rcases av.mp hm with rfl|hm
   .exact c
   .exact d M hm
  have g:M<=l.foldl min x:=by
   rcases MT l x with e|e
   .rw[e];exact b x aL
   .exact b _<|ar _ e
  lia
def Wg(n:X.calm=Qo):nM X (.builtin "min") (λe H Q=>∃(p:af)(c:List Int),e=[.ref p]/\pI X.K H p (c.map V.int)/\c≠[]/\Q (.int<|A2 c) H):=by
 intro f s N H e O Q I r h;obtain⟨p,c,rfl,o,w,q⟩:=h;obtain⟨u,rfl,x⟩:=sD r;cases x;obtain⟨P,y,A,S⟩:=I.list o;have g:=Of y;obtain⟨b,k⟩:=g.allInts.items;have d:c=b.toList.map (·.1):=by rw[<- g.numsOf,<- lm,<- k]
 have l:=A.isList;rw[k] at l;have B:0<b.size:=by
  rcases Nat.eq_zero_or_pos b.size with z|z
  .exact absurd (by rw[d,Array.eq_empty_of_size_eq_zero z];rfl) w
  .exact z
 refine wT I (min_intList (I.ok.hd n) l B λv T C E G U=>?_);obtain⟨t,rfl⟩:=intItems_at E;obtain⟨Y,J⟩:=argBest_lt (numAt b)<|b.size-1;have L:numAt b (argBest (λi j=>decide<|numAt b i<numAt b j)<|b.size-1)=A2 c:=by
  refine WE ?_ λa m=>?_
  .rw[d,numAt_eq];exact getD_mem (by rw[aW,aw];lia)
  .rw[d] at m;obtain⟨j,M,rfl⟩:=mem_getD m;rw[aW,aw] at M;rw[<- numAt_eq];exact J j 'd'
 rw[L];exact⟨.int _,H,I.kept (t':=C) G,⟨_,rfl⟩,q⟩
def D_:Ow->List D->R D:=λO xs=>match xs with
 | [x]=>match tN O x with
  | some ds=>match z9 ds with
   |some ns=>if ns≠[] then .ok (.int<|A2 ns) O else .bad
   |none=>.bad
  |none=>.bad
 |_=>.bad
set_option tactic.hygienic true in
def UI:uq X Ex (λb H Q=>∃(p:af)(a:List Int),b=[.ref p]/\pI X.K H p (a.map V.int)/\a≠[]/\Q (.int<|A2 a) H) D_:=by
 intro H f l O b m Q c d q;unfold D_ at q;split at q
 .rename_i x;obtain⟨v,rfl,g⟩:=rQ d;split at q
  .rename_i n e;obtain⟨p,o,rfl,h,i⟩:=tL c g e;split at q
   .rename_i a j;obtain⟨k,q⟩:=post.ite q;refine⟨p,a,rfl,?_,k,post.here q c rK⟩;rw[<- G6 i j];exact h
   .exact ah q
  .exact ah q
 .exact ah q
noncomputable def DB(i:Nat)(t:DE):DS:=λσ O=>match σ[i]? with
 | some (Qg (.int a))=>(t σ O).bnS λd O1=>match d with
  |.int b=>.nx (σ.set i<|Qg (.int<|a+b)) O1
  |_=>.bad
 |_=>.bad
set_option tactic.hygienic true in
def TX(h:X.N.Nodup)(j:X.N[i]?=Qg x)(k:Loc X.env.scope x)(l:PD X Ex e te)(m:X.fn x=Qo\/X.env.scope.names.lookup x=Qg .local:=by first|exact .inl rfl|exact .inr rfl):
  qE X Ex (.AugAssign (.Name x pos') .Add e pos) (DB i te):=
 yt (Sb h j k l.out Uh m) λn B C O E o H f s q=>by
  unfold DB at q;split at q
  .rename_i a t;obtain⟨v,u,g⟩:=f.at_ i _ t;unfold Qe at g;subst g;refine⟨.int a,u,rd.goS f s q λd G v w y A x c r p=>?_⟩;cases d with
   | int b=>
    unfold Qe at r;subst r;exact⟨a,b,rfl,rfl,p (o.set i<|Qg (.int<|a+b)) w y .refl (A.set rK i) c⟩
   |_=>exact ah p
  .exact ah q
end
end DL
namespace DL
open PySem L2
open PyProof.Rows (AllBare)
structure nD(P:aE)(w:aG)(K:ag)(mg:ao->Option ae)(base:aJ)(x:ao)(k n:Nat)(Pt:af)(F:oU):Prop where
 ex:∃f fd ps,mg x=Qg (.ref f)/\bN K (.ref f)=Qo/\Binds K fd ps []/\nG P w K mg base yS k f fd ps (xv K FR n Pt F)
section
def nD.imp(c:nD P w K mg base x k n Pt F)(h:∀ds O H Qb μ Q,nu K H Qb μ O->pf pe K H Qb μ (G ds O) Q->pf pe K H Qb μ (F ds O) Q):nD P w K mg base x k n Pt G:=by obtain⟨f,b,e,g,i,j,l⟩:=c.ex;exact⟨f,b,e,g,i,j,l.imp λp H Q E ⟨m,Qb,μ,ds,O,d,a,o,q⟩=>⟨m,Qb,μ,ds,O,d,a,o,h ds O H Qb μ Q a q⟩⟩
def nD.bad(c:nD P w K mg base x k n Pt F):nD P w K mg base x k n Pt (λ_ _=>.bad):=c.imp λ_ _ _ _ _ _ _ q=>ah q
def nD.self(c:nD P w K mg base x k n Pt F):nD P w K mg base x k n Pt F:=c
def nD.frz(c:nD P w K mg base x k n Pt F):nD P w K mg base x k n Pt (Kc F):=c.imp λd O H a e Q b q=>VH b.len q
def LR{f:af}{name b:ao}{j:fc}{body:List cN}{a:cC}{y B m C n ct J:ae}{G L:Option af}{M:Array (Option ae)}{N ps:List ao}{t:DS}
  (T:K.lookup f=Qg ⟨J,L,.func<|a8 name b j body a y B m C G n ct,M⟩) (U:cg K n b=Qo) (S:oZ N ps a) (Y:N[i]?=Qg z) (Z:¬ qu a z)
  (oP:∀(A:aY)(g:List Env)(s:aj)(H:Hp)(E:XK),nB k (A.deeper<|aU b a s.heap.objs.size f n)->qv (Dm P w K mg base N b a f n A g s H E) pe body t):
  nG P w K mg base yS (k+1) f (a8 name b j body a y B m C G n ct) ps (xv K FR ps.length Pt<|sk N.length i Pt t):=by
 refine yp T U S (λvs H Q E h=>h.1) λA g s H vs Q E hr h=>?_;obtain⟨hl,u,μ,I,O,d,c,ti,l⟩:=h;refine⟨_,(qH.fake Y Z (oP A g s H E hr).out).nox,u,μ,_,O,(BL d N).set (d:=.tab Pt) (by unfold Qe;exact⟨rfl,ti⟩) i,c,?_⟩;unfold sk at l;generalize t ((I.map Qg++aN (N.length-I.length) Qn).set i (Qg<|.tab Pt)) O=r at l;cases r with
 |nx σ O'=>exact λa_ o p x e q=>l .non o p x q xg
 |rt d' O'=>exact λv o p x q r=>l v o p x q r
 |bk σ O'=>exact ah l
 |ct σ O'=>exact ah l
 |exc q O'=>exact λo p x c2=>l o p x c2
 |bad=>exact ah l
def AR(h:pD K mg x st)(S:oZ N ps (l_ st))(l:N[i]?=Qg z)(m:¬ qu (l_ st) z)
  (n:∀(d c e:ae)(g:Option af)(b j:ae)(us:List ae),us.length=ps.length->bindArgs (a8 x x (sG st) (qK st) (l_ st) .none d c e g b j) ⟨us,[]⟩=pure (ps.zip us))
  (o:∀(f:af)(b:ae)(A:aY)(a:List Env)(s:aj)(H:Hp)(E:XK),nB k (A.deeper<|aU x (l_ st) s.heap.objs.size f b)->qv (Dm P w K mg base N x (l_ st) f b A a s H E) pe (qK st) t):
  nD P w K mg base x (k+1) ps.length Pt (sk N.length i Pt t):=by obtain⟨f,p,q,F⟩:=h;refine⟨f,p,ps,q,F.kp,F.binds n,?_⟩;obtain⟨y,B,d,c,e,g,b,j,C,rfl,r,u⟩:=F.ex;exact LR r u S l m λA a s H E v=>o f b A a s H E v
def Kg(h:tJ K mg x st c)(S:oZ N ps (l_ st))(m:N[i]?=Qg z)(n:¬ qu (l_ st) z)
  (o:∀(d b e:ae)(g:Option af)(j l:ae)(us:List ae),us.length=ps.length->bindArgs (a8 x x (sG st) (qK st) (l_ st) .none d b e g j l) ⟨us,[]⟩=pure (ps.zip us))
  (p:∀(f:af)(A:aY)(a:List Env)(s:aj)(H:Hp)(E:XK),nB k (A.deeper (aU x (l_ st) s.heap.objs.size f<|.ref c))->qv (Dm P w K mg base N x (l_ st) f (.ref c) A a s H E) pe (qK st) t):
  nD P w K mg base x (k+1) ps.length Pt (sk N.length i Pt t):=by obtain⟨f,q,r,F,u⟩:=h.ex;refine⟨f,q,ps,r,F.kp,F.binds o,?_⟩;obtain⟨C,G,d,b,e,g,j,l,I,rfl,v,y⟩:=F.ex;cases (u);exact LR v y S m n λA a s H E B=>p f A a s H E B
end
set_option tactic.hygienic true in
def xH(c:nD X.prog X.w X.K X.mg X.base x k n Pt F)(l:nB j X.A)(m:k<=j)(o:Gl X x)(r:qW X pe (e::es) t)
  (s:pL x:=by decide) (u:au (e::es) X.env=(Qp,eval e X.env)::au es X.env:=by rfl) (y:(backTo pos<|au es X.env).any (·.1)=Qp:=by rfl):
  PD X pe (.Call (.Name x p) (e::es) [] pos) (sC Pt iT n F t):=by
 obtain⟨f,fd,ps,B,C,E,G⟩:=c.ex;refine qd (MF (G.mono m) l o B C E .nil K4 r.out s u y) λa I J O a_ H Q h L q=>?_;obtain⟨M,q⟩:nJ H Pt/\pf pe X.K H a I (oM n F t J O) Q:=by
  unfold sC at q;split at q
  .rename_i p N;by_cases b:p=Pt
   .rw[Qs b] at q;obtain⟨v,_,d⟩:=h.at_ iT _ N;rw[b] at d;exact⟨d.2,q⟩
   .rw[Qu b] at q;exact ah q
  .exact ah q
 refine r9.go h L q λP S vs H1 T e2 U Y i g=>?_;obtain⟨Z,g⟩:=post.ite g;refine⟨by rw[cf,<- i.length];exact Z,a,T,P,S,?_,Y,U.tab _ M,g⟩;rw[cf];exact i
end DL
namespace DL
open PySem L2 PyProof.Rows
def X0{prog:aE}{w:aG}{A:aY}{E:ae->aj->Prop}{s:aj}{p:af}{T:String}{o:Obj}{vs:List ae}{n:Nat}{k:List ao}{Q:ae->aj->Prop}(u:T = "list" \/ T = "tuple")(v:s.heap.get? p=Qg o)(x:o.cls=.type T)(y:o.data=.seq vs.toArray n)(g:fo vs k)(l:vs.length<=4000000)
  (h:∀(a h':aJ)(d:Array ae)(i:List ao)(c:Nat),(∀b f,s.heap.get? b=Qg f->a.get? b=Qg f)->(∀b f,a.get? b=Qg f->h'.get? b=Qg f)->h'.get? a.objs.size=Qg { cls:=.type "list",data:=.seq d c }->fo d.toList i->i.Perm k->sortedS i=Qo->Q (.ref a.objs.size) { s with heap:=h' }):
  am (aq prog w) A (call (.builtin "sorted") [.ref p]) Q E s:=by
 refine f6 mh lL lN (lO _) ?_;refine aa<|ak ?_;have S:vs.toArray.size<=aK:=by rw[aM];exact aP l 'b'
 refine aa (wpAny_collect_seq p u v x y λa B=>?_);refine aa<|fT ?_;have U:vs.toArray.toList=vs:=by simp
 have j:(a.push<|seqObj "list" vs.toArray 0).get? a.objs.size=Qg (seqObj "list" vs.toArray 0):=aA _ rfl;refine aa (bD (bF kL ⟨_,j,rfl⟩ jY (TS.list_sort_big lf j g.keysOf (λY Z m e=>keyKind_strs (by rw[<- e];exact g)) l λC G H=>⟨_,rfl,?_⟩) (kM _)));obtain⟨I,J,L,M⟩:=sorted_out_str g G H;refine ak ⟨_,rfl,?_⟩;have N:=bj (br λ_=>#[]) j rfl;have O:=ai (seqObj "list" #[] 0)<|ai (seqObj "tuple" vs.toArray 0) N;have P:=bj (br λ_=>(Qw C).map (·.2)) O rfl;refine h a _ _ I _ B (λb o r=>?_) P J L M;have t:a.objs.size≠b:=λq=>absurd (aC r) (by rw[<- q];exact bV _);exact(bg _ _ t).trans (ai _<|ai _ ((bg _ _ t).trans<|ai _ r))
section
variable{X:Cx}{Ex:Nat->Hp->Prop}{H:Hp}{Qb μ:List af}
def Gp(K:ag):List V->Hp->VK->Prop:=λxs H Q=>∃p ss,xs=[.ref p]/\(qP K H p (ss.map λcs=>V.str ⟨cs.toArray⟩)\/pI K H p (ss.map λcs=>V.str ⟨cs.toArray⟩))/\ss.Nodup/\ss.length<=1000/\∀l,H l=Qn->Q (.ref l) (upd H l<|.lst ((sv ss).map λcs=>V.str ⟨cs.toArray⟩))
def WJ:nM X (.builtin "sorted") (Gp X.K):=by
 intro m s U H Y Z Q I r h;obtain⟨p,a,rfl,sq,x,y,q⟩:=h;obtain⟨u,rfl,A⟩:=sD r;cases A;obtain⟨b,f,T,B,o,j,k,n,l⟩:∃b:List ae,nz (a.map λd=>V.str ⟨d.toArray⟩) b/\∃T,(T = "list" \/ T = "tuple")/\∃o,s.heap.get? p=Qg o/\o.cls=.type T/\∃n,o.data=.seq b.toArray n:=by
  rcases sq with sq|sq
  .obtain⟨b,f,⟨o,j,k,n,l⟩,_⟩:=I.tuple sq;exact⟨b,f,_,.inr rfl,o,j,k,n,l⟩
  .obtain⟨b,f,C,_⟩:=I.list sq;exact⟨b,f,_,.inl rfl,C.isList⟩
 have E:(a.map λd=>V.str ⟨d.toArray⟩)=(a.map toS).map V.str:=by rw[eZ];rfl
 have G:=HA (by rw[<- E];exact f);have t:b.length=a.length:=by have:=f.length;simpa using this.symm
 refine X0 B j k l G 'd' λJ h' g os c L M N O v P=>?_;have e:=Uo v x P;subst e;have w:=I.kept L;have i:nz ((sv a).map λd=>V.str ⟨d.toArray⟩) g.toList:=by
  have i:=Hx O;rw[eZ] at i;exact i
 have S:(sv a).length=a.length:=by have:=v.length_eq;simpa using this
 exact⟨.ref J.objs.size,_,w.laid (o:=.lst ((sv a).map λd=>V.str ⟨d.toArray⟩)) M (ay _) ⟨by rw[aW,S];exact aP y 'b',g.toList,c,i,by rw[N]⟩,rfl,q _ (w.hok.fresh<|ay _)⟩
def D7(O:Ow)(ds:List D):R D:=match uJ ds with
 |some ss=>if ss.Nodup/\ss.length<=1000 then .ok (.lst<|(sv ss).map .str) O else .bad
 |none=>.bad
def Ee:Ow->List D->R D:=λO xs=>match xs with
 |[.tup ds]=>D7 O ds
 | [x]=>match tN O x with
  |some ds=>D7 O ds
  |none=>.bad
 |_=>.bad
set_option tactic.hygienic true in
def L8{K:ag}{O:Ow}{p:af}{ds:List D}{a:List V}{Q:VK}(c:nu K H Qb μ O)(d:qP K H p a\/pI K H p a)(dd:nv K H Qb μ ds a)(q:pf Ex K H Qb μ (D7 O ds) Q):Gp K [.ref p] H Q:=by
 unfold D7 at q;split at q
 .rename_i e f;obtain⟨⟨g,h⟩,q⟩:=post.ite q;have i:=GX dd f;subst i;exact⟨p,e,rfl,d,g,h,λl b=>post.ok q (.laid b) (c.laid b) (Qe.newL c b<|BG _)⟩
 .exact ah q
set_option tactic.hygienic true in
def U0:uq X Ex (Gp X.K) Ee:=by
 intro H Qb μ O h i Q c d q;unfold Ee at q;split at q
 .obtain⟨v,rfl,a⟩:=rQ d;obtain⟨p,g,rfl,b,f⟩:=Af a rfl;exact L8 c (.inl b) f q
 .obtain⟨v,rfl,a⟩:=rQ d;split at q
  .rename_i e;obtain⟨p,g,rfl,b,f⟩:=tL c a e;exact L8 c (.inr b) f q
  .exact ah q
 .exact ah q
end
noncomputable def Gm(out sc:cC)(x:ao):Bool:=(match sc.kind with|.function=>Qo|_=>Qp) && !sc.isCoroutine && !sc.isGenerator&&decide ((sc.names.map (·.1)).Nodup)&&(sc.names.lookup x==Qg .local)&&(sc.names.all λy=>!(y.2 == .cell)&&(!(y.2 == .local)||y.1==x))&&(sc.names.all λy=>!(y.2 == .free)||out.names.lookup y.1==Qg .cell||out.names.lookup y.1==Qg .free)
def RX{a c:cC}{x:ao}(h:Gm a c x=Qo):Kr a c x:=by
 unfold Gm at h;simp only[ck,decide_eq_true_eq,cE] at h;obtain⟨⟨⟨⟨⟨⟨f,i⟩,j⟩,k⟩,l⟩,g⟩,m⟩:=h;refine⟨?_,by simpa using i,by simpa using j,k,λy b=>?_,by simpa using l,λy b d=>?_,λy b d=>?_⟩
 .cases e:c.kind<;>rw[e] at f<;>first|rfl|cases f
 .have:=(g y b).1;simpa using this
 .have:=(g y b).2;rw[d] at this;simpa using this
 .have:=m y b;rw[d] at this;simpa using this
def Wp{X:Cx}{h:Nat->Hp->Prop}{i:DE}{k l:Nat}{c Pt:af}{e:aZ}{j:DE}{b:fc}{body:aZ}{a:cC}{x:ao}{m pl n o:Pos}(p:nB (k+2) X.A)(r:X.calm=Qo)(L:qJ X.mg X.base c Pt)(t:X.env.code=.ref c)(v:Gm X.env.scope a x=Qo)(y:defaultsOf b X.env=([],[]))
  (B:∀(name d:ao)(cl:List (ao×af))(pm g ct u:ae),bindArgs (b9 name d b body a cl pm g ct) ⟨[u],[]⟩=pure [(x,u)]) (C:(X.N++[x]).Nodup) (E:PD X h e j)
  (G:∀(q:ao)(f:af)(g:ae)(cl:List (ao×af))(A:aY)(outer:List Env)(s:aj)(H:Hp),nB k (A.deeper<|q0 q a s.heap.objs.size f g cl)->PD (Dl X.prog X.w X.K X.mg X.base (X.N++[x]) (q0 q a s.heap.objs.size f g cl) A outer s H) pe body i)
  (I:Gl X "min") (J:X.mg "min" = Qn) (M:au [e] X.env=[(Qp,eval e X.env)]:=by rfl):PD X h (.Call (.Name "min" m) [e] [⟨Qg<|c9 "key",.Lambda b body a pl,o⟩] n) (Bb Pt l j i):=
 TJ p r L t (RX v) y B (λz=>(fq.mp C).2.2 x z x 'k' rfl) E G I J M
def OH{X:Cx}{n:Nat->Hp->Prop}{c f b:aZ}{d:List aZ}{h:List cD}{a:cC}{e p q:Pos}{y:ao}{i k:Nat}{ext:List ao}{j:DI}{g:Tg}{l:List DT}{m:List Cl}{r:DE}(_:Nx ext)(o:Bool)(s:X.calm=Qo)(t:X.N.Nodup)(u:X.N[i]?=Qg y)(v:X.env.scope.names.lookup y=Qg .local)(w:ui X.env.scope a (X.N++ext) (pj<|⟨j,g,l⟩::m))(A:rn X n f b j)(B:Be X ext a f g d l h m c r)
  (C:swapsWith (.ListComp c (⟨f,b,d,0⟩::h) a e) (Qg<|.Name y q) p.line X.env=pure Qo) (E:ext.length=k:=by rfl) (G:∀x,bw b X.env x=pure x:=by intro _;rfl):
  PS X (.Assign [.Name y q] (.ListComp c (⟨f,b,d,0⟩::h) a e) p) (zW (rd n X.K<|qc o k j g l m r)<|xD i):=E▸XT o ext s t u v A w B C G
end DL
namespace DL
open PySem L2
section
end
end DL
namespace DL
open PySem L2 PyProof.Rows
section
end
end DL
namespace DL
open PySem L2
def rY(F:oU):oU:=λds O=>match F ds O with
 |.exc _ _=>.bad
 |r=>r
def Wr(h:F ds O=.ok d O1):rY F ds O=.ok d O1:=by unfold rY;rw[h]
def Oe(h:pf Ex K H Qb μ (rY F ds O) Q):pf Ex' K H Qb μ (F ds O) Q:=by
 unfold rY at h;cases e:F ds O with
 |ok d O1=>rw[e] at h;exact h
 |exc c O1=>rw[e] at h;exact ah h
 |bad=>rw[e] at h;exact ah h
def nG.calm(F:nG P w K mg base yS k f fd ps sp):nG P w K mg base CX k f fd ps sp:=
 ⟨F.len,λA a s H b d e Q E g h i j l=>dG (F.run A a s H b d e Q E g h i j l) λr m c=>by
  unfold CR at c ⊢;split at c
  .exact c
  .exact ah c
  .exact ah c⟩
section
variable{Cl:Nat->ae}{P:aE}{w:aG}{K:ag}{mg:ao->Option ae}{base:aJ}{k n:Nat}{x:ao}{Pt:af}{F:oU}
def Callee.toX(c:Callee P w K mg base x k n F):nK Cl P w K mg base x k n (rY F):=by obtain⟨f,b,e,g,h,i,j⟩:=c.ex;exact⟨f,b,e,g,h,i,(nG.calm j).imp λr H Q E ⟨l,a,m,o,O,d,p,q⟩=>⟨l,a,m,o,O,d,p,Oe q⟩⟩
def nD.toT(c:nD P w K mg base x k n Pt F):nU Cl P w K mg base x k n Pt (rY F):=by obtain⟨f,b,e,g,h,i,j⟩:=c.ex;exact⟨f,b,e,g,h,i,(nG.calm j).imp λs H Q E ⟨l,a,m,o,O,d,p,r,q⟩=>⟨l,a,m,o,O,d,p,r,Oe q⟩⟩
end
open PyProof.Rows (AllBare IntsAre)
def Xy{P:aE}{w:aG}{K:ag}{y mb:ao->Option ae}{CX:uD}{k:Nat}{fa a:af}{g:List (af×af)}{fd:cV}{x:ao}{sp:Sp}{c:aj}{vs:List ae}{M:List Int}
  (KX:K.In c.heap) (uv:c.heap.Ns bt y) (i:c.heap.Ns builtinsNs mb) (FA:∀x:ao,x ≠ "__name__"->mb x=bi x) (vI:c.heap.NoLimit) (hg:c.gens = #[]) (pB:0<c.toks)
  (G:c.heap.get? a=Qg { cls:=.type "list",data:=.seq vs.toArray }) (hi:ku vs M) (hl:M.length<=aK) (hr:nB k callerA)
  (hC:∀q∈g,mJ c.heap q.1 q.2) (C:∀q∈g,c.heap.get? q.2=Qg (kE #[])) (hK:gq K=Qo) (hB:∀q∈g,c.heap.BuiltinsAt y q.2)
  (F:∀base:aJ,K.In base->base.Ns bt y->(∀q∈g,qJ y base q.1 q.2)->nG P w K y base CX k fa fd [x] sp) (qN:∀(s:aj)(u:ae),gk s fd ⟨[u],[]⟩ [(x,u)])
  (yJ:∀H:Hp,(∀q∈g,H q.2=Qg (.tbl #[]))->pI K H a (M.map V.int)->sp [.ref a] H (λv _=>v=.bl Qo) λ_ _ _=>False)
  (hCX:∀H e l,CX [] H c (λ_ _ _=>False) e l->False):
  codeAny (aq P w) callerA (.call (.ref fa) ⟨[.ref a],[]⟩) (λr l=>r=.ok (.ret<|.bool Qo)/\OldK c.heap l.heap/\l.os=c.os/\fw l.gens) c:=by
 have rv:=NO hi;have IQ:=hi.length;have naP:∀q∈g,a≠q.2:=λq p e=>by have h:=C q p;rw[<- e,G] at h;cases h
 have nKP:∀q∈g,K.lookup q.2=Qn:=λz j=>by
  cases q:K.lookup z.2 with
  |none=>rfl
  | some o=>
   have e:=KX z.2 o q;rw[C z j] at e;cases e;have h2:=cE.mp hK (z.2,_)<|PySem.W.mem_of_lookupK q;exact absurd (show Qp=Qo from h2) bo
 have IH:a∉g.map (·.2):=λh=>by obtain⟨q,p,e⟩:=bz.mp h;exact naP q p e.symm
 -- H: the table, and the IC where it is Qn of the Co objects
 have A:∀H:Hp,(∀q∈g,H q.2=Qg (.tbl #[]))->pI K H a (M.map V.int)->HOk P w H c.heap->(∀b,H b≠Qn->b=a \/ ∃q∈g,q.2=b)->(H a=Qn\/(K.lookup a=Qn/\∃o xs,H a=Qg (.frz o<|.lst xs)))->
   codeAny (aq P w) callerA (.call (.ref fa) ⟨[.ref a],[]⟩) (λr l=>r=.ok (.ret<|.bool Qo)/\OldK c.heap l.heap/\l.os=c.os/\fw l.gens) c:=by
  intro H hT hS N U Qy;have f:∀{b:af}{o:Obj},c.heap.get? b=Qg o->H b=Qn->(vW c.heap H).get? b=Qg o:=λe n=>Vz e n;have uR:∀{b:af}{o:Obj}{I:Array jV}{J:Nat},c.heap.get? b=Qg o->o.data=.dict I J->H b=Qn:=λ{b o I J}e d=>by
   cases q:H b with
   |none=>rfl
   | some u=>
    rcases U b (by rw[q];simp) with e'|e'
    .subst e';rw[G] at e;cases e;have d':Data.seq vs.toArray _=Data.dict I J:=d;cases d'
    .obtain⟨z,j,e'⟩:=e';subst e';rw[C z j] at e;cases e;have d':Data.fields #[]=Data.dict I J:=d;cases d'
  have Y:∀{b:af}{m:ao->Option ae},c.heap.Ns b m->(vW c.heap H).Ns b m:=λ{b m}⟨o,I,J,e,d,r⟩=>⟨o,I,J,f e<|uR e d,d,r⟩;have Qx:K.In (vW c.heap H):=λb o e=>f (KX b o e) (by
   cases q:H b with
   |none=>rfl
   | some u=>
    rcases U b (by rw[q];simp) with e'|e'
    .subst e';rcases Qy with z|⟨z,_⟩
     .rw[z] at q;cases q
     .rw[z] at e;cases e
    .obtain⟨z,j,e'⟩:=e';subst e';rw[nKP z j] at e;cases e)
  have hM:Mod K y (vW c.heap H):=⟨Qx,Y uv,⟨mb,Y i,FA⟩,let ⟨mc,h1,h2⟩:=vI;⟨mc,Y h1,h2⟩⟩;have e0:nV P w K y (vW c.heap H) callerA [] c H:=⟨rfl,hM,λb o e=>UD e,ij<|WO _ _,trivial,λb i=>absurd (show b∈([]:List af) from i) 'k',N,.of_eq hg,pB⟩;have PV:∀{b:af}{o:Obj},c.heap.get? b=Qg o->o.cls ≠ .none->(o.cls ≠ .type "list")->H b=Qn:=λ{b o}e d1 d2=>by
   cases q:H b with
   |none=>rfl
   | some u=>
    rcases U b (by rw[q];simp) with e'|e'
    .subst e';rw[G] at e;cases e;exact absurd rfl d2
    .obtain⟨z,j,e'⟩:=e';subst e';rw[C z j] at e;cases e;exact absurd rfl d1
  have hL:∀q∈g,qJ y (vW c.heap H) q.1 q.2:=λz j=>by
   obtain⟨o,vs,O,tf,E,tg,AG,Q,tt,S,r1,r⟩:=hC z j;obtain⟨bm,ob,b1,b2,b3,b4,b5,b6,b7,b8⟩:=hB z j;exact⟨⟨o,vs,O,tf,E,tg,AG,Q,tt,f S (PV S (by rw[r1];exact λz=>nomatch z) (by rw[r1];decide)),r1,r⟩,⟨bm,ob,b1,b2,b3,b4,f b5 (PV b5 (by rw[b6];exact λz=>nomatch z) (by rw[b6];decide)),b6,b7,b8⟩⟩
  refine dG ((F _ Qx (Y uv) hL).run callerA [] c H ⟨[.ref a],[]⟩ [.ref a] [.ref a] _ _ hr e0 (qN c<|.ref a) (.cons rfl .nil) (yJ H hT hS)) λr l h=>?_;cases r with
  |error e=>exact(hCX H e l h).elim
  | ok fl=>
   cases fl with
   |next=>exact ah h
   |brk=>exact ah h
   |cont=>exact ah h
   | ret u=>
    obtain⟨⟨v,H',os,T,Z,CI,r',q⟩,_⟩:=h;have q':v=.bl Qo:=q;subst q';obtain rfl:u=mB Qo:=r';refine⟨rfl,⟨λb o e=>?_,λb o e=>?_⟩,os,T⟩
    .by_cases uy:∃q∈g,q.2=b
     .obtain⟨z,j,uy⟩:=uy;subst uy;obtain⟨B,hT'⟩:=Z.tbls z.2 #[] (hT z j);have FD:l.heap.get? z.2=Qg { cls:=.none,data:=.fields (#[]++B) }:=CI z.2 _ hT';have h3:=C z j;rw[h3] at e;cases e;exact .inr<|.inl ⟨((hC z j).tab h3).isCodeTable,rfl,#[],B,rfl,FD⟩
     .cases q:H b with
      |none=>exact .inl (Z.keep b o e q (by intro z;exact absurd (show b∈([]:List af) from z) 'k') 'k')
      | some u=>
       rcases U b (by rw[q];simp) with e'|e'
       .subst e';rcases Qy with z|⟨_,ob,xs,z⟩
        .rw[q] at z;cases z
        .have z2:=Z.frzs b ob _ z;obtain⟨S,_⟩:=N b _ z;obtain⟨e2,_⟩:=CI b _ z2;rw[e] at S;cases S;exact .inl e2
       .exact absurd e' uy
    .exact Z.there b o e 'k'
 cases hk:K.lookup a with
 | some o=>
  have e:=KX a o hk;rw[G] at e;cases e;refine A (λb=>if b∈g.map (·.2) then Qg (.tbl #[]) else Qn) (λq p=>Qs<|bz.mpr ⟨q,p,rfl⟩) (.inr ⟨_,vs.toArray,_,hk,rfl,rfl,rfl,by rw[aM,IQ];exact hl,by simpa using rv⟩) (λb u z=>?_) (λb z=>?_) (.inl<|Qu IH)
  .by_cases i:b∈g.map (·.2)
   .have t:=(Qs i).symm.trans z;cases t;obtain⟨q,p,rfl⟩:=bz.mp i;exact C q p
   .have t:=(Qu i).symm.trans z;cases t
  .by_cases i:b∈g.map (·.2)
   .exact .inr<|bz.mp i
   .exact absurd (Qu i) z
 | none=>
  refine A (λb=>if b∈g.map (·.2) then Qg (.tbl #[]) else if b=a then Qg (.frz { cls:=.type "list",data:=.seq vs.toArray } (.lst<|M.map V.int)) else Qn) (λq p=>Qs<|bz.mpr ⟨q,p,rfl⟩) (.inl<|.inr ⟨{ cls:=.type "list",data:=.seq vs.toArray },(Qu IH).trans<|Qs rfl⟩) (λb u z=>?_) (λb z=>?_)<|.inr ⟨hk,_,_,(Qu IH).trans<|Qs rfl⟩
  .by_cases i:b∈g.map (·.2)
   .have t:=(Qs i).symm.trans z;cases t;obtain⟨q,p,rfl⟩:=bz.mp i;exact C q p
   .by_cases L:b=a
    .have t:=((Qu i).trans<|Qs L).symm.trans z;cases t;subst L;exact⟨G,by rw[aW];exact hl,vs,_,rv,G⟩
    .have t:=((Qu i).trans<|Qu L).symm.trans z;cases t
  .by_cases i:b∈g.map (·.2)
   .exact .inr<|bz.mp i
   .by_cases L:b=a
    .exact .inl L
    .exact absurd ((Qu i).trans<|Qu L) z
noncomputable def xw(K:ag)(Ec:XK->Nat->Hp->Prop)(n:Nat)(P1 P2:af)(F:oU):Sp:=λvs H Q E=>vs.length=n/\∃Qb μ ds O,nv K H Qb μ ds vs/\nu K H Qb μ O/\nJ H P1/\nJ H P2/\pf (Ec E) K H Qb μ (F ds O) Q
def DP(n i j P1 P2:Nat)(t:DS):oU:=λds O=>fin<|t (((ds.map Qg++aN (n-ds.length) Qn).set i (Qg<|.tab P1)).set j (Qg<|.tab P2)) O
def So{Cl:Nat->ae}{P:aE}{w:aG}{K:ag}{G:ao->Option ae}{base:aJ}{k i j:Nat}{f u P2:af}{x y:ao}{name b:ao}{l:fc}{body:List cN}{a:cC}{I J n L o ct U:ae}{M Y:Option af}{Z:Array (Option ae)}{N ps:List ao}{t:DS}
  (lk:K.lookup f=Qg ⟨U,Y,.func<|a8 name b l body a I J n L M o ct,Z⟩) (o6:cg K o b=Qo) (S:oZ N ps a) (hi:N[i]?=Qg x) (hx:¬ qu a x) (hj:N[j]?=Qg y) (hy:¬ qu a y)
  (oP:∀(A:aY)(g:List Env)(s:aj)(H:Hp)(E:XK),nB k (A.deeper<|aU b a s.heap.objs.size f o)->qv (sR Cl P w K G base N b a f o A g s H E) (Xk Cl E) body t):
  nG P w K G base (pZ P w Cl) (k+1) f (a8 name b l body a I J n L M o ct) ps (xw K (Xk Cl) ps.length u P2<|DP N.length i j u P2 t):=by
 refine yp lk o6 S (λvs H Q E h=>h.1) λA g s H vs Q E hr h=>?_;obtain⟨hl,C,μ,T,O,d,c,t1,t2,m⟩:=h;refine⟨_,qH.fake hi hx<|qH.fake hj hy (oP A g s H E hr).out,C,μ,_,O,((BL d N).set (d:=.tab u) (by unfold Qe;exact⟨rfl,t1⟩) i).set (d:=.tab P2) (by unfold Qe;exact⟨rfl,t2⟩) j,c,?_⟩;unfold DP at m;generalize t (((T.map Qg++aN (N.length-T.length) Qn).set i (Qg<|.tab u)).set j (Qg<|.tab P2)) O=r at m;cases r with
 |nx σ O'=>exact λa_ p q x e B=>m .non p q x B xg
 |rt d' O'=>exact λv p q x B r=>m v p q x B r
 |bk σ O'=>exact ah m
 |ct σ O'=>exact ah m
 |exc B O'=>exact λp q x c2=>m p q x c2
 |bad=>exact ah m
def RC{Cl:Nat->ae}{P:aE}{w:aG}{K:ag}{d:ao->Option ae}{base:aJ}{k i j:Nat}{f c g P2:af}{fd:cV}{x z y:ao}{a:cN}{N ps:List ao}{t:DS}(h:L2.Fun K x x a f fd)(l:fd.code=.ref c)(S:oZ N ps (l_ a))(m:N[i]?=Qg z)(n:¬ qu (l_ a) z)(o:N[j]?=Qg y)(p:¬ qu (l_ a) y)
  (q:∀(A:aY)(b:List Env)(s:aj)(H:Hp)(E:XK),nB k (A.deeper (aU x (l_ a) s.heap.objs.size f<|.ref c))->qv (sR Cl P w K d base N x (l_ a) f (.ref c) A b s H E) (Xk Cl E) (qK a) t):
  nG P w K d base (pZ P w Cl) (k+1) f fd ps (xw K (Xk Cl) ps.length g P2<|DP N.length i j g P2 t):=by obtain⟨C,G,I,r,J,L,u,M,O,rfl,v,B⟩:=h.ex;have e:u=.ref c:=l;subst e;exact So v B S m n o p q
def Ue{K:ag}{i:XK->Nat->Hp->Prop}{f P2:af}{F:oU}{H:Hp}{a:af}{g:List Int}(h:∃O,F [.lst<|g.map .int] []=.ok (.bl Qo) O)(j:H f=Qg (.tbl #[]))(k:H P2=Qg (.tbl #[]))(l:pI K H a (g.map V.int)):xw K i 1 f P2 F [.ref a] H (λv _=>v=.bl Qo) λ_ _ _=>False:=by obtain⟨e,b,m,n,O,d,c,o,q⟩:=SR h j l;exact⟨e,b,m,n,O,d,c,o,nJ.empty k,q⟩
def RL{l:jl}{q:aE}{loose:List ao}{XP:(ao->Option ae)->aJ->Prop}{y:aG->aJ->Prop}{d:DefRec}{K:f8->ag}{Cl:Nat->ae}{k:Nat}{x xd:ao}{F:Nat->Nat->oU}{α:Type}{Yf:aj->α}{Ya:aG->α}(hn:l.most=Qg 63)(C2:d.params.defaults=[])(hr:nB k callerA)
  (C_:∀w s,Yf s=Ya w->y w s.heap) (C9:∀w h h',y w h->(∀b o,h.get? b=Qg o->h'.get? b=Qg o)->y w h')
  (hY:∀(w:aG)(h:aJ),y w h->(K w.params).In h) (sJ:(fW q).find? (λe=>e.name==d.name)=Qg d) (vF:((fW q).find? (λe=>e.name==xd)).isSome=Qo)
  (hF:∀(w:aG)(i:ao->Option ae)(A:af)(h:aJ),(K w.params).In h->h.Ns bt i->i d.name=Qg (.ref A)->
   gq (K w.params)=Qo/\∃(c Pt m P2:af),eI (K w.params) d.name=Qg (c,Pt)/\eI (K w.params) xd=Qg (m,P2)/\∃fd:cV,(∀(s:aj)(u:ae),gk s fd ⟨[u],[]⟩ [(x,u)])/\∀base:aJ,(K w.params).In base->base.Ns bt i->qJ i base c Pt->qJ i base m P2->nG l.prog w (K w.params) i base (pZ l.prog w Cl) k A fd [x] (xw (K w.params) (Xk Cl) 1 Pt P2<|F Pt P2))
  (n:∀(Pt P2:Nat)(B:List Int),B.length<=63->∃O,F Pt P2 [.lst<|B.map .int] []=.ok (.bl Qo) O):
  my q loose XP (λs=>(Yf s,decide<|0<s.toks)) (λw=>(Ya w,Qo)) l.row.toRowW d [] (λf vs=>mD f vs):=by
 refine Att.attach_call hn C2 C_ C9 λw N P i mb A o pm cd doc a vs B G Y ho Q o6 CM zt r j hg pB=>?_;have C:=hY w _ Y;obtain⟨hK,c,Pt,m,P2,ht,E,fd,hb,hG⟩:=hF w i A _ C G.T.g CM;obtain⟨hC,S⟩:=mQ G.T C sJ ht;obtain⟨dd,U⟩:=gd.mp vF;have I:dd.name=xd:=by simpa using List.find?_some U
 subst I;obtain⟨J,Z⟩:=mQ G.T C U E;have hB:∀{p:af},P.heap.get? p=Qg (kE #[])->P.heap.BuiltinsAt i p:=λ{p}hp=>by
  obtain⟨bm,ob,b1,b2,v,b4,b5,M⟩:=G.T.bmain;refine⟨bm,ob,b1,b2,λq=>?_,λq=>?_,v,b4,b5,M⟩
  .obtain⟨o,es,ep,e,Q,_⟩:=G.T.g;rw[q,e] at v;cases v;rw[Q] at M;cases M
  .rw[q,hp] at v;cases v;cases b4
 have t:∀{R:af×af->Prop},R (c,Pt)->R (m,P2)->∀z∈[(c,Pt),(m,P2)],R z:=λ{R}r1 r2 z hz=>by
  rcases av.mp hz with rfl|hz
  .exact r1
  .rw[cz.mp hz];exact r2
 exact Xy C G.T.g G.T.b G.T.builtins G.T.nolimit hg pB zt r (aP j 'b') hr (t hC J) (t S Z) hK (t (hB S)<|hB Z) (λbase k1 k2 L=>hG base k1 k2 (L (c,Pt) 'k')<|L (m,P2) 'k') hb (λH hT hS=>Ue (n Pt P2 B j) (hT (c,Pt) 'k') (hT (m,P2) 'k') hS) λH e s' ⟨_,_,_,_,_,_,_,_,_,_,z⟩=>z
end DL
namespace DL
open PySem L2 PySem.Spec PyProof.Rows
section
end
end DL
namespace DL
open PySem L2
open PyProof.Rows (AllBare IntsAre)
structure ziX(Cl:Nat->ae)(P:aE)(w:aG)(K:ag)(mg:ao->Option ae)(base:aJ)(x:ao)(k n:Nat)(P1 P2:af)(F:oU):Prop where
 ex:∃f fd ps,mg x=Qg (.ref f)/\bN K (.ref f)=Qo/\Binds K fd ps []/\nG P w K mg base (pZ P w Cl) k f fd ps (xw K (Xk Cl) n P1 P2 F)
section
end
end DL
namespace DL
open PySem L2 PySem.Spec PyProof.Rows
section
variable{X:Cx}{Ex:Nat->Hp->Prop}{o e a:aZ}{to:DE}{t:DA}{es:List aZ}{apos k_ p:Pos}
def Rg(K:ag)(to:TE)(t:TA):TE:=λσ H Q=>to σ H λx H1=>(∃l xs,x=.ref l/\pI K H1 l xs)/\t σ H1 λys H2=>∃(y:V)(Qb μ:List af)(O:Ow)(dx dy:D)(ps:List d9)(q:d9)(j:Nat),ys=[y]/\nu K H2 Qb μ O/\Qe K H2 Qb μ dx x/\Qe K H2 Qb μ dy y/\py O dx=Qg (.list ps)/\py O dy=Qg q/\ps.length<4000000/\ps.findIdx? (λz=>eO z q)=Qg j/\Q (.int (j:Nat)) H2
set_option tactic.hygienic true in
def U_{to:TE}{t:TA}(hu:X.A.units+64<cLine)(ho:PE X o to)(ha:PA X (e::es) t)(oQ:attributeBase o "index" X.env (eval o X.env)=eval o X.env:=by rfl)
  (qD:((backTo k_<|au (e::es) X.env).all (λx=>!x.1)&&(backToKw k_<|keywordEach [] X.env).all (λx=>x.1.isSome)&&decide ((e::es).length+([]:List dB).length+(if ([]:List dB).isEmpty then 0 else 1)<30))=Qo:=by rfl)
  (pM:(apos.endLine==k_.line)=Qo:=by rfl) (hs:au (e::es) X.env=(Qp,eval e X.env)::au es X.env:=by rfl) (o8:(backTo k_<|au es X.env).any (·.1)=Qp:=by rfl):
  PE X (.Call (.Attribute o "index" apos) (e::es) [] k_) (Rg X.K to t):=by
 intro b s J H Q I h;refine j7 oQ qD pM rfl (oO (ho b s J H _ I h) λv s1 ⟨x,H1,I1,r1,⟨l,xs,ex,sq⟩,q1⟩=>?_);subst ex;cases r1;obtain⟨f_,_,⟨L,n,M,ue,C1,zA⟩,_⟩:=I1.list sq;refine⟨"list", "list.index",gz,jM,PySem.F.type_list_index,⟨L,M,ue⟩,λa e=>by cases e;exact⟨L,M,C1⟩,?_⟩;have N:=ha k_ b s1 J H1 _ I1 q1;rw[hs] at N ⊢;refine j8 (by show(Qp||(backTo k_<|au es X.env).any (·.1))=Qp;rw[o8]<;>rfl)<|gK ?_;refine oO N λus d ⟨vs,H2,k,r2,y,Qb,μ,O,dx,dy,f,q,j,ev,P,dX,dY,e1,e2,S,hj,q2⟩=>?_;subst ev;obtain⟨u,rfl,ru⟩:=sD r2;obtain⟨as,z1,T,z3⟩:=xi k P 8 dx (.ref l) (.ref l) _ dX rfl e1;obtain⟨bs,y1,y2,y3⟩:=xi k P 8 dy y u q dY ru e2;cases z1 with
 | list h1 r w h4=>
  rename_i B c U as2;obtain⟨C,dd,g,sl⟩:=B;have r:C=.type "list":=r;have w:g=.seq c U:=w;subst r w;have Y:=SeqAt.readsAll_map f _ _ T h4;have pd:c.size=f.length:=by
   have:=congrArg j5 Y;rw[aW,aw] at this;exact this
  obtain⟨AK,E,G⟩:=gP.mp hj;have Z:∀m(i:m<c.size),iA d.heap c[m]=f[m]''d':=λm i=>by
   have:(c.toList.map<|iA d.heap)[m]?=f[m]?:=by rw[Y]
   rw[bE,aB (by rw[aw];exact i),aB 'd'] at this;simpa using this
  refine ip jM ⟨_,h1,rfl⟩ PySem.F.entry_list_index (PySem.F.args_list_index_2 _ _)
   (SeqAt.list_indexAt l c U dd sl u (λz=>eO (iA d.heap z) q) j 'd' 'd' (by
    show eO (iA d.heap c[j]) q=Qo;rw[Z j 'd'];exact E) (λm i qt=>by
    show eO (iA d.heap c[m]) q=Qp;rw[Z m i];have:=G m qt;simpa using this)) ⟨h1,SeqAt.items_eqAt h4 y1 T y2 ?_,.int _,H2,k.tok _,⟨_,rfl⟩,q2⟩
  have:jT f+1<=8:=z3;lia
def F9(to:DE)(t:DA):DE:=λσ O=>(to σ O).bnd λx O1=>match x with
 | .lst ds=>(t σ O1).bnd λys O2=>match ys with
  | [y]=>match py O2 (.lst ds),py O2 y with
   | some (.list ps),Qg q=>if ps.length<4000000 then (match ps.findIdx? (λz=>eO z q) with
    |some j=>.ok (.int (j:Nat)) O2
    |none=>.bad) else .bad
   |_,_=>.bad
  |_=>.bad
 |_=>.bad
set_option tactic.hygienic true in
def Uu(g:X.A.units+64<cLine)(h:PD X Ex o to)(i:qW X Ex (e::es) t)(k:attributeBase o "index" X.env (eval o X.env)=eval o X.env:=by rfl)
  (m:((backTo k_<|au (e::es) X.env).all (λx=>!x.1)&&(backToKw k_<|keywordEach [] X.env).all (λx=>x.1.isSome)&&decide ((e::es).length+([]:List dB).length+(if ([]:List dB).isEmpty then 0 else 1)<30))=Qo:=by rfl)
  (n:(apos.endLine==k_.line)=Qo:=by rfl) (s:au (e::es) X.env=(Qp,eval e X.env)::au es X.env:=by rfl) (u:(backTo k_<|au es X.env).any (·.1)=Qp:=by rfl):
  PD X Ex (.Call (.Attribute o "index" apos) (e::es) [] k_) (F9 to t):=
 qd (U_ g h.out i.out k m n s u) λc μ σ O a_ H Q B C q=>rd.go B C q λd O1 v H1 c_ E x G r p=>by
  cases d with
  | lst ds=>
   have I:=r;unfold Qe at r;obtain⟨l,J,rfl,L,dd⟩:=r;refine⟨⟨l,J,rfl,L.sq⟩,r9.go E G p λys M ws H2 N e3 P f S b=>?_⟩;split at b
   .rename_i y;obtain⟨w,rfl,T⟩:=rQ S;split at b
    .rename_i U q Y Z;obtain⟨hl,b⟩:=post.ite b;split at b
     .rename_i j hj;exact⟨w,c,N,M,_,_,U,q,j,rfl,f,I.ext P,T,Y,Z,hl,hj,post.here b f rK⟩
     .exact ah b
    .exact ah b
   .exact ah b
  |_=>exact ah p
end
def DC:Option Key->ae->Bool
 |none,v=>(match v with|.none=>Qo|_=>Qp)
 |some k,v=>yo k v
def AE(w:aG):Option Key->Int
 |none=>4238894112
 |some k=>J3 w k
def vp(h:DC k v=Qo):(k=Qn/\v=.none)\/(∃i t,k=Qg (.inl i)/\v=.int i t)\/(∃x t,k=Qg (.inr x)/\v=.str x t):=by
 cases k with
 | none=>
  cases v with
  |none=>exact .inl ⟨rfl,rfl⟩
  |_=>cases h
 | some k=>
  rcases vw (show yo k v=Qo from h) with⟨i,t,rfl,rfl⟩|⟨x,t,rfl,rfl⟩
  .exact .inr<|.inl ⟨i,t,rfl,rfl⟩
  .exact .inr<|.inr ⟨x,t,rfl,rfl⟩
def XU(h:Q 4238894112 { s with toks:=s.toks+1 }):am (aq P w) A (pyHash .none) Q E s:=by
 have a:s.TypeIs .none "NoneType":=rfl;unfold pyHash;have b:[bW].any Value.onHeap=Qp:=rfl;refine aa ?_;rw[cRoomFor,Qu (by rw[b];exact bo)];refine ak ?_;refine aa<|iq a fQ.lookup ?_;show am _ _ (if (Qg (e8 "NoneType.__hash__")==Qg bW)=Qo then _ else _) Q E s;rw[Qu (by rw[beq_builtin_none];exact bo)];refine aa<|iq a fQ.lookup ?_;show am _ _ (callSpecialIfBoundUnlessNone? .none "__hash__" _ >>= _) Q E s;refine aa (wpAny_callSpecialIfBoundUnlessNone?_slot a fQ
  (bF fQ a F.entry_NoneType_hash
   (show am _ _ (do ret (<- mkInt 4238894112)) _ _ s from wpAny_ret_mkInt ?_) (F.args_NoneType_hash_1 _)))
 show am _ _ (if (decide (-(2:Int) ^ 63<=4238894112)&&decide ((4238894112:Int)<2 ^ 63))=Qo then _ else _) Q E _;rw[Qs 'b'];exact ak h
def w_(prog:aE)(w:aG):mS prog w (Option Key) where
 is:=DC
 hash:=AE w
 inj:=λv a b ha hb=>by
  rcases vp ha with⟨rfl,rfl⟩|⟨i,t,rfl,rfl⟩|⟨x,t,rfl,rfl⟩
  .rcases vp hb with⟨rfl,e⟩|⟨j,u,rfl,e⟩|⟨y,u,rfl,e⟩
   .rfl
   .exact nomatch e
   .exact nomatch e
  .rcases vp hb with⟨rfl,e⟩|⟨j,u,rfl,e⟩|⟨y,u,rfl,e⟩
   .exact nomatch e
   .injection e with e1 _;rw[e1]
   .exact nomatch e
  .rcases vp hb with⟨rfl,e⟩|⟨j,u,rfl,e⟩|⟨y,u,rfl,e⟩
   .exact nomatch e
   .exact nomatch e
   .injection e with e1 _;rw[e1]
 byValue:=λk v h=>by
  rcases vp h with⟨rfl,rfl⟩|⟨i,t,rfl,rfl⟩|⟨x,t,rfl,rfl⟩<;>rfl
 pyHash:=λhv h=>by
  rcases vp hv with⟨rfl,rfl⟩|⟨i,t,rfl,rfl⟩|⟨x,t,rfl,rfl⟩
  .exact XU h
  .exact wpAny_pyHash_int h
  .exact wpAny_pyHash_str h
 eqBool:=λ{A E s a b u v Q}hu hv h=>by
  rcases vp hu with⟨rfl,rfl⟩|⟨i,t,rfl,rfl⟩|⟨x,t,rfl,rfl⟩
  .rcases vp hv with⟨rfl,rfl⟩|⟨j,u,rfl,rfl⟩|⟨y,u,rfl,rfl⟩
   .exact SeqAt.EqAt.same .none _ _ _ _ ⇑h
   .exact SeqAt.EqAt.none_int j u _ _ _ _ ⇑h
   .exact SeqAt.EqAt.none_str y u _ _ _ _ ⇑h
  .rcases vp hv with⟨rfl,rfl⟩|⟨j,u,rfl,rfl⟩|⟨y,u,rfl,rfl⟩
   .exact SeqAt.EqAt.int_none i t _ _ _ _ ⇑h
   .exact wpAny_eqBool_int (by
     have e:decide (Qg (g8 i:Key)=Qg (g8 j))=(i==j):=by
      by_cases q:i=j
      .subst q;simp
      .simp[q]
     rw[<- e];exact h)
   .exact lu i t y u _ _ _ _ ⇑h
  .rcases vp hv with⟨rfl,rfl⟩|⟨j,u,rfl,rfl⟩|⟨y,u,rfl,rfl⟩
   .exact SeqAt.EqAt.str_none x t _ _ _ _ ⇑h
   .exact lv x t j u _ _ _ _ ⇑h
   .exact jz (by
     have e:decide (Qg (g9 x:Key)=Qg (g9 y))=decide (x=y):=by
      by_cases q:x=y
      .subst q;simp
      .simp[q]
     rw[<- e];exact h)
 «strs»:=λk x t v h=>by
  rcases vp h with⟨rfl,e⟩|⟨i,u,rfl,e⟩|⟨y,u,rfl,e⟩
  .exact nomatch e
  .exact nomatch e
  .injection e with e1 _;subst e1;cases v<;>rfl
end DL
namespace DL
open PySem L2 PySem.Spec
noncomputable def su:D->Option (Option Key)
 |.non=>Qg Qn
 |.int i=>Qg (Qg<|.inl i)
 |.str cs=>Qg<|Qg (.inr<|toS cs)
 |_=>Qn
noncomputable def zV:D->ae->Bool
 |.non,.none=>Qo
 |.int i,.int j _=>i==j
 |.str cs,.str x _=>decide<|x=toS cs
 |_,_=>Qp
def vD:D->V
 |.int i=>.int i
 |.str cs=>.str<|toS cs
 |.adr a=>.ref a
 |_=>.non
def DR:D->ae->Bool
 |.adr a,.ref b=>a==b
 |d,u=>zV d u
def uZ(tab:List (D×D))(x:D):Option D:=(tab.find? λp=>decide<|su p.1=su x).map (·.2)
section
def GV(e:su d=Qg k)(r:Qe K H Qb μ d y)(a:RelV y u):DC k u=Qo:=by
 cases d with
 |non=>cases e;unfold Qe at r;subst r;cases (show u=bW from a);rfl
 |int i=>cases e;unfold Qe at r;subst r;obtain⟨t,rfl⟩:=a;exact Hu i t
 |str cs=>cases e;unfold Qe at r;subst r;obtain⟨t,rfl⟩:=a;exact Hy _ t
 |_=>cases e
set_option tactic.hygienic true in
def U3(h:zV d u=Qo):∃k,su d=Qg k/\DC k u=Qo:=by
 unfold zV at h;split at h
 .exact⟨_,rfl,rfl⟩
 .rename_i i j t;have:i=j:=⇑h
  subst this;exact⟨_,rfl,Hu i t⟩
 .rename_i a x t;have:x=toS a:=⇑h
  subst this;exact⟨_,rfl,Hy _ t⟩
 .cases h
set_option tactic.hygienic true in
def TH(h:zV d u=Qo):RelV (vD d) u/\Qe K H Qb μ d (vD d):=by
 unfold zV at h;split at h
 .exact⟨rfl,xg⟩
 .rename_i i j t;have:i=j:=⇑h
  subst this;exact⟨⟨t,rfl⟩,rK⟩
 .rename_i a x t;have:x=toS a:=⇑h
  subst this;exact⟨⟨t,rfl⟩,EA⟩
 .cases h
set_option tactic.hygienic true in
def Ww{d:D}{u:ae}(h:DR d u=Qo):RelV (vD d) u/\Qe K H Qb μ d (vD d):=by
 unfold DR at h;split at h
 .rename_i a b;have:a=b:=⇑h
  subst this;exact⟨rfl,rfl⟩
 .exact TH h
end
def Eh(tab:List (D×D))(f:Option Key->Option ae):Prop:=∀x k,su x=Qg k->match uZ tab x with
 |some d=>∃v,f k=Qg v/\DR d v=Qo
 |none=>f k=Qn
def D6:List jV->List (D×D)->Bool
 |[],[]=>Qo
 |e::es,(k,v)::r=>zV k e.key&&DR v e.val&&D6 es r
 |_,_=>Qp
def Xo:uZ ((k,v)::r) x=if su k=su x then Qg v else uZ r x:=by
 unfold uZ;rw[dg];by_cases h:su k=su x
 .simp[h]
 .simp[h]
def Yl{k:Option Key}{v:ae}{q:Option Key}{r:List (Option Key×ae)}:valueAt ((k,v)::r) q=if k=q then Qg v else valueAt r q:=by
 unfold valueAt;rw[dg];by_cases h:k=q
 .simp[h]
 .simp[h]
theorem Og{P:aE}{w:aG}:∀{a:List jV}{tab:List (D×D)},D6 a tab=Qo->a.map (λe=>Qg e.hash)=tab.map (λp=>(su p.1).map<|AE w)->
  ∃b:List (Option Key×ae),Pairs (w_ P w) a b/\(∀e∈a,∃k,(w_ P w).is k e.key=Qo/\e.hash=(w_ P w).hash k)/\b.map (λp=>Qg p.1)=tab.map (λp=>su p.1)/\Eh tab (valueAt b)
 |[],[],_,_=>⟨[],.nil,by simp,rfl,λx k _=>rfl⟩
 |[],_::_,h,_=>by cases h
 |_::_,[],h,_=>by cases h
 | e::a,(k,v)::r,h,hh=>by
  unfold D6 at h;simp only[ck] at h;obtain⟨⟨l,m⟩,n⟩:=h;simp only[dr,List.cons.injEq] at hh;obtain⟨c,d,i⟩:=U3 l;obtain⟨b,p,o,s,f⟩:=Og (P:=P) (w:=w) n hh.2;have t:e.hash=AE w c:=by have:=hh.1;rw[d] at this;simpa using this
  refine⟨(c,e.val)::b,.cons i rfl p,λu he=>?_,by simp[s,d],λx q j=>?_⟩
  .rcases av.mp he with rfl|he
   .exact⟨c,i,t⟩
   .exact o u he
  .rw[Xo,Yl,d,j];by_cases g:c=q
   .subst g;rw[Qs rfl,Qs rfl];exact⟨_,rfl,m⟩
   .rw[Qu g,Qu (λz=>g<|bL z)];exact f x q j
def G4(o:Obj):List (Option Int):=match o.data with
 |.dict es _=>es.toList.map (λe=>Qg e.hash)
 |_=>[]
def D8(o:Obj)(tab:List (D×D)):Bool:=(match o.cls with|.type n=>n == "dict"|_=>Qp)&&o.dict.isNone&&o.slots.isEmpty&&decide ((tab.map λp=>su p.1).Nodup)&&(match o.data with|.dict es _=>D6 es.toList tab|_=>Qp)
structure u7(w:aG)(K:ag)(mg:ao->Option ae)(x:ao)(tab:List (D×D)):Prop where
 ex:∃e o,mg x=Qg (.ref e)/\K.lookup e=Qg o/\D8 o tab=Qo/\G4 o=tab.map (λp=>(su p.1).map<|AE w)/\(e==sysModules)=Qp
set_option tactic.hygienic true in
def W_(h:D8 o tab=Qo)(r:G4 o=tab.map (λp=>(su p.1).map<|AE w)):∃f:Option Key->Option ae,(∀(c:aJ)(e:af),c.get? e=Qg o->c.MapOf (w_ P w) e f)/\Eh tab f:=by
 obtain⟨s,l,m,d⟩:=o;unfold D8 at h;simp only[ck,decide_eq_true_eq] at h;obtain⟨⟨⟨⟨a,t⟩,u⟩,b⟩,g⟩:=h;split at a
 .rename_i n;have a:n = "dict":=⇑a
  split at g
  .rename_i v x;obtain⟨q,p,y,A,i⟩:=Og (P:=P) (w:=w) g r;refine⟨valueAt q,λc e j=>?_,i⟩;refine l5 (knd:=w_ P w) ⟨_,v,x,j,⟨?_,?_,?_⟩,rfl,?_,p,?_⟩
   .show dJ n=_;rw[a]
   .simpa using t
   .simpa using u
   .intro e j;exact y e ⇑j
   .rw[<- A] at b;have b:((q.map (·.1)).map Qg).Nodup:=by rw[eZ];exact b
    exact List.Pairwise.imp (λk e=>k<|congrArg Qg e)<|jr.mp b
  .cases g
 .cases a
section
def MX(h:u7 X.w X.K X.mg x tab):∃e,X.mg x=Qg (.ref e)/\(e==sysModules)=Qp/\∃f:Option Key->Option ae,(∀(a:List (af×Obj))(c:St)(H:Hp)(s:aj),L2.Inv X a c H s->s.heap.MapOf (w_ X.prog X.w) e f)/\Eh tab f:=by obtain⟨e,o,d,g,i,j,k⟩:=h.ex;obtain⟨f,m,b⟩:=W_ (P:=X.prog) (w:=X.w) i j;exact⟨e,d,k,f,λa c H s I=>m _ e<|I.kIn e o g,b⟩
def Ek(tab:List (D×D))(O:Ow)(x:D):R D:=match su x with
 | some _=>(match uZ tab x with
  |some v=>.ok v O
  |none=>.bad)
 |none=>.bad
def xB(tab:List (D×D))(t:DE):DE:=λσ O=>(t σ O).bnd λx O1=>Ek tab O1 x
def F3(neg:Bool)(tab:List (D×D))(O:Ow)(x:D):R D:=match su x with
 |some _=>.ok (.bl (if neg=Qo then !(uZ tab x).isSome else (uZ tab x).isSome)) O
 |none=>.bad
def uH(neg:Bool)(tab:List (D×D))(t:DE):DE:=λσ O=>(t σ O).bnd λx O1=>F3 neg tab O1 x
def Rj(I:L2.Inv X Qc a_ H s)(c:nu X.K H Qb μ O)(r:Qe X.K H Qb μ d y)(i:RelV y u)
  (M:s.heap.MapOf (w_ X.prog X.w) e f) (g:Eh tab f) (p:pf Ex X.K H Qb μ (Ek tab O d) Q):am (aq X.prog X.w) X.A (getItem (.ref e) u) (EP X Qc a_ Q) X.xe s:=by
 unfold Ek at p;cases b:su d with
 |none=>rw[b] at p;exact ah p
 | some k=>
  rw[b] at p;have a:=g d k b;cases h:uZ tab d with
  |none=>rw[h] at p;exact ah p
  | some v=>
   rw[h] at p a;obtain⟨o,j,l⟩:=a;obtain⟨m,n⟩:=Ww (K:=X.K) (H:=H) (Qb:=Qb) (μ:=μ) l;exact jC (knd:=w_ X.prog X.w) (GV b r i) M j ⟨vD v,H,I.tok _,m,post.here p c n⟩
def Ez(h:u7 X.w X.K X.mg x tab)(B:Gl X x)(C:PD X Ex i ti)(E:A8 i)(G:pL x:=by decide):PD X Ex (.Subscript (.Name x p) i pos) (xB tab ti):=by
 obtain⟨e,J,h4,f,L,k⟩:=MX h;refine⟨?_⟩;rintro b s l H Q I ⟨a,μ,σ,O,N,P,q⟩;refine G2 (T := "dict") fY.lookup E (Am (v:=.ref e) B J rfl G b s l H (λv m=>v=.ref e/\m=H) I ⟨rfl,rfl⟩ |> λz=>oO z λu S ⟨v,m,U,n,Y,Z⟩=>?_);subst Y Z;cases n;refine oO (C.out b S l m _ U (rd.go N P q (Q1:=λy c=>∃a g j d,nu X.K c a g j/\Qe X.K c a g d y/\pf Ex X.K c a g (Ek tab j d) Q)
  λd j y c g e2 x2 o r t=>⟨a,g,j,d,o,r,t⟩)) λu s2 ⟨y,c,A,n,a,g,j,d,o,r,t⟩=>?_
 have M:=L b l c s2 A;exact⟨M.typeIs,Rj A o r n M k t⟩
def El(c:Bool)(h:u7 X.w X.K X.mg x tab)(N:Gl X x)(P:PD X Ex i ti)(S:pL x:=by decide):PC X (if c=Qo then .NotIn else .In) i (.Name x p) (rd Ex X.K<|uH c tab ti):=by
 obtain⟨e,T,G,f,U,B⟩:=MX h;rintro g s C H Q I ⟨b,μ,σ,O,Y,Z,q⟩;refine oO (P.out g s C H _ I (rd.go Y Z q (Q1:=λy l=>∃b m n d,nu X.K l b m n/\Qe X.K l b m d y/\pf Ex X.K l b m (F3 c tab n d) Q)
  λd n y l m e2 x2 t r j=>⟨b,m,n,d,t,r,j⟩)) λu s2 ⟨y,l,I2,J,b,m,n,d,t,r,j⟩=>?_
 refine oO (Am (v:=.ref e) N T rfl S g s2 C l (λv H1=>v=.ref e/\H1=l) I2 ⟨rfl,rfl⟩) λw s3 ⟨v,A,E,xN,ev,eh⟩=>?_;subst ev eh;cases xN;have M:=U g C A s3 E;unfold F3 at j;cases o:su d with
 |none=>rw[o] at j;exact ah j
 | some k=>
  rw[o] at j;have a:(f k).isSome=(uZ tab d).isSome:=by
   have a:=B d k o;cases L:uZ tab d with
   |none=>rw[L] at a;rw[a];rfl
   |some v=>rw[L] at a;obtain⟨v',hv,_⟩:=a;rw[hv];rfl
  have j:pf Ex X.K A b m (.ok (.bl (if c=Qo then !(uZ tab d).isSome else (uZ tab d).isSome)) n) Q:=j;rw[<- a] at j;cases c with
  |false=>exact wpAny_in_of (knd:=w_ X.prog X.w) (GV o r J) G M ⟨.bl _,A,E.tok _,rfl,post.here j t s_⟩
  |true=>exact wpAny_notIn_of (knd:=w_ X.prog X.w) (GV o r J) G M ⟨.bl _,A,E.tok _,rfl,post.here j t s_⟩
def Lh(h:u7 X.w X.K X.mg x tab)(a:Gl X x)(b:PD X Ex i ti)(c:pL x:=by decide)(d:behindInMarks .In (.Name x p)=Qp:=by rfl):PD X Ex (.Compare i [.In] [.Name x p] pos) (uH Qp tab ti):=⟨GP (El Qp h a b c) d⟩
end
theorem NW:∀(k:Nat)(l:List ao),nz (l.map V.str)<|PySem.strsFrom k l
 |_,[]=>.nil
 |k,x::r=>.cons ⟨_,rfl⟩ (NW (k+1) r)
section
variable{X:Cx}{Ex:Nat->Hp->Prop}{o e a:aZ}{to:DE}
def Wo:Dv X "str.split" (λx vs H Q=>∃i j:ao,x=.str i/\vs=[.str j]/\(j.length==0)=Qp/\i.length<=aK/\(fi i j).length<=aK/\∀l,H l=Qn->Q (.ref l) (upd H l (.lst<|(fi i j).map V.str))):=by
 intro m s A H x B v C Q I p r h;obtain⟨i,j,rfl,rfl,n,w,g,q⟩:=h;obtain⟨t,rfl⟩:=p;obtain⟨u,rfl,k,rfl⟩:=sD r;have y:H s.heap.objs.size=Qn:=I.hok.fresh<|ay _;have b:=q _ y;cases c:(decide (i.length<j.length)||decide (ln i<ln j))
 .cases f:(bq i j 0 i.length<|i.length+1).isEmpty
  .have d:fi i j=jJ i (bq i j 0 i.length<|i.length+1) j.length:=by
    unfold fi;rw[Qu (by rw[c];exact bo),Qu (by rw[f];exact bo)]
   rw[d] at b g;refine ip gr (io _ _ _) js (i7 _ _) (meets_str_split_sep i j t k c n f w g) ?_;exact⟨.ref _,_,I.laid (ht:=aV I.tk<|fL _ _) (o:=.lst<|(jJ i (bq i j 0 i.length<|i.length+1) j.length).map V.str) (λ_ _ z=>ai _ z) (ay _) ⟨by rw[aW];exact g,_,0,NW _ _,aA _ rfl⟩,rfl,b⟩
  .have d:fi i j=[i]:=by
    unfold fi;rw[Qu (by rw[c];exact bo),Qs f]
   rw[d] at b;refine ip gr (io _ _ _) js (i7 _ _) (meets_str_split_not_found i j t k c n f) ?_;exact⟨.ref _,_,I.laid (t':=s.toks) (o:=.lst<|[i].map V.str) (λ_ _ z=>ai _ z) (ay _) ⟨fD rfl,[.str i t],0,.cons ⟨_,rfl⟩ .nil,aA _ rfl⟩,rfl,b⟩
 .have d:fi i j=[i]:=by
   unfold fi;rw[Qs c]
  rw[d] at b;refine ip gr (io _ _ _) js (i7 _ _) (meets_str_split_cannot_occur i j t k c) ?_;exact⟨.ref _,_,I.laid (t':=s.toks) (o:=.lst<|[i].map V.str) (λ_ _ z=>ai _ z) (ay _) ⟨fD rfl,[.str i t],0,.cons ⟨_,rfl⟩ .nil,aA _ rfl⟩,rfl,b⟩
noncomputable def B8(i j:qB):o_:=(fi (toS i)<|toS j).map (·.cps.toList)
def GN(to:DE)(t:DA):DE:=λσ O=>(to σ O).bnd λx O1=>match x with
 | .str i=>(t σ O1).bnd λys O2=>match ys with
  |[.str j]=>if j≠[]/\i.length<=4000000/\(B8 i j).length<=4000000 then .ok (.lst<|(B8 i j).map .str) O2 else .bad
  |_=>.bad
 |_=>.bad
set_option tactic.hygienic true in
def VW(m:PD X Ex o to)(n:qW X Ex (e::es) t)(s:attributeBase o "split" X.env (eval o X.env)=eval o X.env:=by rfl)
  (u:((backTo k_<|au (e::es) X.env).all (λx=>!x.1)&&(backToKw k_<|keywordEach [] X.env).all (λx=>x.1.isSome)&&decide ((e::es).length+([]:List dB).length+(if ([]:List dB).isEmpty then 0 else 1)<30))=Qo:=by rfl)
  (y:(apos.endLine==k_.line)=Qo:=by rfl) (A:au (e::es) X.env=(Qp,eval e X.env)::au es X.env:=by rfl) (B:(backTo k_<|au es X.env).any (·.1)=Qp:=by rfl):
  PD X Ex (.Call (.Attribute o "split" apos) (e::es) [] k_) (GN to t):=
 qd (A_ gL gr PySem.F.type_str_split Wo m.out n.out s u y A B) λC S T O U H Q E G q=>rd.go E G q λd Y v Z c_ I x J r p=>by
  cases d with
  | str i=>
   unfold Qe at r;subst r;refine⟨rfl,r9.go I J p λys O2 ws H2 n_ e3 x3 h L b=>?_⟩;split at b
   .rename_i j;obtain⟨w,rfl,k⟩:=rQ L;unfold Qe at k;subst k;obtain⟨⟨M,N,f⟩,b⟩:=post.ite b;have e:(fi (toS i)<|toS j).map V.str=(B8 i j).map λP=>V.str (toS P):=by
     unfold B8;rw[eZ];refine iG λz _=>?_;obtain⟨c⟩:=z;rfl
    refine⟨toS i,toS j,rfl,rfl,?_,?_,?_,λl g=>?_⟩
    .show(j.toArray.size==0)=Qp;cases j with
     |nil=>exact absurd rfl M
     |cons a r=>simp
    .show i.toArray.size<=_;rw[aM];exact uM N
    .unfold B8 at f;rw[aW] at f;exact uM f
    .rw[e];exact post.ok b (.laid g) (h.laid g) (Qe.newL h g<|BG _)
   .exact ah b
  |_=>exact ah p
end
end DL
namespace DL
open PySem L2
open PyProof.Rows (AllBare)
structure zZ(K:ag)(C:af):Prop where
 cls:vf K C
 na:nZ K C "stands"
section
variable{X:Cx}{Ex:Nat->Hp->Prop}{pos:Pos}{C:af}{o:aZ}{to:DE}
def Al(C:Nat)(t:DE):DE:=λσ O=>(t σ O).bnd λd O1=>match d with
 |.obj c k=>if c=C then .ok (.own k) O1 else .bad
 |_=>.bad
def Xh(c:zZ X.K C)(h:PD X Ex o to)(e:attributeBase o "stands" X.env (eval o X.env)=eval o X.env:=by rfl):PD X Ex (.Attribute o "stands" pos) (Al C to):=
 qd (Tx h.out e) λf x y O A H Q g i q=>rd.go g i q λd j v l m B E n r p=>by
  cases d with
  | obj c' k=>
   have p:pf Ex X.K l f m (if c'=C then .ok (.own k) j else .bad) Q:=p;obtain⟨s,t⟩:=post.ite p;subst s;unfold Qe at r;obtain⟨a,u,b,rfl,w,G,I,e⟩:=r;exact⟨a,c',u,_,.ref b,rfl,w,c.cls,c.na,rfl,post.here t n ⟨b,rfl,e⟩⟩
  |_=>exact ah p
end
def Ae(K:ag)(C:af)(m qual:ao)(st:cN):Prop:=∃f fd,zX K C m f/\L2.Fun K m qual st f fd
structure y9(Cl:Nat->ae)(P:aE)(w:aG)(K:ag)(mg:ao->Option ae)(base:aJ)(C:af)(m:ao)(k n:Nat)(Pt:af)(F:oU):Prop where
 ex:∃f fd ps,zX K C m f/\Binds K fd ps []/\nG P w K mg base (pZ P w Cl) k f fd ps (xv K (Xk Cl) n Pt F)
def DH{Cl:Nat->ae}{P:aE}{w:aG}{K:ag}{o:ao->Option ae}{base:aJ}{k i:Nat}{C Pt:af}{m a z:ao}{b:cN}{N ps:List ao}{t:DS}(h:Ae K C m a b)(S:oZ N ps (l_ b))(p:N[i]?=Qg z)(q:¬ qu (l_ b) z)
  (r:∀(g c j:ae)(l:Option af)(d n:ae)(us:List ae),us.length=ps.length->bindArgs (a8 m a (sG b) (qK b) (l_ b) .none g c j l d n) ⟨us,[]⟩=pure (ps.zip us))
  (u:∀(f:af)(d:ae)(A:aY)(e:List Env)(s:aj)(H:Hp)(E:XK),nB k (A.deeper<|aU a (l_ b) s.heap.objs.size f d)->qv (sR Cl P w K o base N a (l_ b) f d A e s H E) (Xk Cl E) (qK b) t):
  y9 Cl P w K o base C m (k+1) ps.length Pt (sk N.length i Pt t):=by obtain⟨f,B,v,F⟩:=h;obtain⟨G,I,g,c,j,l,d,n,J,rfl,x,y⟩:=F.ex;exact⟨f,_,ps,v,Binds.all<|r g c j l d n,Ug x y S p q<|u f d⟩
noncomputable def KC(C n:Nat)(F:oU)(to:DE)(t:DA):DE:=λσ O=>(to σ O).bnd λd O1=>match d with
 |.obj c k=>if c=C then (t σ O1).bnd λds O2=>if ds.length+1=n then F (.obj c k::ds) O2 else .bad else .bad
 |_=>.bad
def rZ(Pt iT C n:Nat)(F:oU)(to:DE)(t:DA):DE:=λσ O=>match σ[iT]? with
 |some (Qg (.tab p))=>if p=Pt then KC C n F to t σ O else .bad
 |_=>.bad
section
variable{Cl:Nat->ae}{X:Cx}{E:XK}{m:ao}{k j n Pt iT:Nat}{C:af}{F:oU}{apos pos:Pos}{o e:aZ}{es:List aZ}{to:DE}{t:DA}{pl:Sem Bool}
set_option tactic.hygienic true in
def M5{ps:List ao}{u:TA}{f:af}{fd:cV}(J:(m==("stands":ao))=Qp)
  (L:∀Qb μ c O g H w,ny X.K H Qb μ c g->nu X.K H Qb μ O->Gg (Xk Cl E) X.K H Qb μ (t c O) w->u g H w):
  ∀Qb μ c O g H Q,ny X.K H Qb μ c g->nu X.K H Qb μ O->pf (Xk Cl E) X.K H Qb μ (rZ Pt iT C n F to t c O) Q->Gj C m (xv X.K (Xk Cl) n Pt F) [] E (rd (Xk Cl E) X.K to) u g H Q:=λQb μ c O g H Q x M q=>by
 obtain⟨N,q⟩:nJ H Pt/\pf (Xk Cl E) X.K H Qb μ (KC C n F to t c O) Q:=by
  unfold rZ at q;split at q
  .rename_i p P;by_cases h:p=Pt
   .rw[Qs h] at q;obtain⟨v,_,d⟩:=x.at_ iT _ P;unfold Qe at d;rw[h] at d;exact⟨d.2,q⟩
   .rw[Qu h] at q;exact ah q
  .exact ah q
 refine rd.go x M q λd y v A B S T U r p=>?_;cases d with
 | obj c' kk=>
  have p:pf (Xk Cl E) X.K A Qb B (if c'=C then (t c y).bnd λi l=>if i.length+1=n then F (.obj c' kk::i) l else .bad else .bad) Q:=p;obtain⟨Y,Z⟩:=post.ite p;subst Y;have r0:=r;unfold Qe at r;obtain⟨a,dx,b,rfl,q1,n1,n2,hb⟩:=r;refine⟨a,dx,_,rfl,q1,?_,L Qb B c y g A _ S U ?_⟩
  .show eu m [(("stands":ao),V.ref b)]=Qn;simp only[eu,J]
  .refine post.bnd Z λi l vs H2 n_ G c3 I s=>?_;obtain⟨hl,s⟩:=post.ite s;refine⟨by rw[cf,a7,<- I.length];exact hl,Qb,n_,_,l,?_,c3,(T.trans G).tab _ N,s⟩;rw[cf];exact .cons (r0.ext G) I
 |_=>exact ah p
def xK(c:y9 Cl X.prog X.w X.K X.mg X.base C m k n Pt F)(b:zZ X.K C)(d:tX (pZ X.prog X.w Cl) X E)(g:nB j X.A)(h:k<=j)(i:PD X (Xk Cl E) o to)(l:qW X (Xk Cl E) (e::es) t)(p:(m==("stands":ao))=Qp:=by decide)
  (r:au (e::es) X.env=(Qp,eval e X.env)::au es X.env:=by rfl) (s:(backTo pos<|au es X.env).any (·.1)=Qp:=by rfl)
  (ht:eval (.Call (.Attribute o m apos) (e::es) [] pos) X.env=(do
   let ov <- eval o X.env
   standAt apos.atName
   let (f,first) <- holding [ov] (getMethod ov m pl)
   callWith pos f first (backTo pos<|au (e::es) X.env) (backToKw pos<|keywordEach [] X.env)):=by rfl):
  PD X (Xk Cl E) (.Call (.Attribute o m apos) (e::es) [] pos) (rZ Pt iT C n F to t):=by obtain⟨f,fd,ps,u,v,G⟩:=c.ex;exact qd (UZ (dvs:=[]) (ds:=[]) i.out b.cls u (G.mono h) g v .nil d l.out r s ht) (M5 (ps:=ps) (f:=f) (fd:=fd) p λa x y O J H L B I q=>⟨a,x,y,O,B,I,q⟩)
def Ht(c:y9 Cl X.prog X.w X.K X.mg X.base C m k n Pt F)(a:zZ X.K C)(b:tX (pZ X.prog X.w Cl) X E)(d:nB j X.A)(g:k<=j)(h:PD X (Xk Cl E) o to)(i:(m==("stands":ao))=Qp:=by decide)
  (ht:eval (.Call (.Attribute o m apos) [] [] pos) X.env=(do
   let ov <- eval o X.env
   standAt apos.atName
   let (f,first) <- holding [ov] (getMethod ov m pl)
   callWith pos f first (backTo pos<|au [] X.env) (backToKw pos<|keywordEach [] X.env)):=by rfl):
  PD X (Xk Cl E) (.Call (.Attribute o m apos) [] [] pos) (rZ Pt iT C n F to i_):=by obtain⟨f,fd,ps,l,p,G⟩:=c.ex;exact qd (VG (dvs:=[]) (ds:=[]) h.out a.cls l (G.mono g) d p .nil b ht) (M5 (t:=i_) (ps:=ps) (f:=f) (fd:=fd) i λr u v O x H y B s q=>post.here q s .nil)
end
def Ep(Pt iT i n:Nat)(fs:List (af×(oU)))(t:DA):DE:=λσ O=>match σ[iT]? with
 | some (Qg (.tab p))=>if p=Pt then (match σ[i]? with
  | some (Qg (.adr a))=>(match fs.lookup a with
   |some F=>oM n F t σ O
   |none=>.bad)
  |_=>.bad) else .bad
 |_=>.bad
structure zQ(Cl:Nat->ae)(P:aE)(w:aG)(K:ag)(mg:ao->Option ae)(base:aJ)(k n:Nat)(Pt a:af)(F:oU):Prop where
 ex:∃fd ps,bN K (.ref a)=Qo/\Binds K fd ps []/\nG P w K mg base (pZ P w Cl) k a fd ps (xv K (Xk Cl) n Pt F)
def nU.adr{Cl:Nat->ae}{P:aE}{w:aG}{K:ag}{b:ao->Option ae}{base:aJ}{x:ao}{k j n:Nat}{Pt a:af}{F:oU}(c:nU Cl P w K b base x k n Pt F)(h:b x=Qg (.ref a))(e:k<=j):zQ Cl P w K b base j n Pt a F:=by obtain⟨f,g,i,d,l,m,G⟩:=c.ex;rw[h] at d;cases d;exact⟨g,i,l,m,G.mono e⟩
def nK.toT{Cl:Nat->ae}{P:aE}{w:aG}{K:ag}{b:ao->Option ae}{base:aJ}{x:ao}{k n:Nat}{Pt:af}{F:oU}(c:nK Cl P w K b base x k n F):nU Cl P w K b base x k n Pt F:=by obtain⟨f,e,g,h,i,j,G⟩:=c.ex;exact⟨f,e,g,h,i,j,G.imp λr H Q E ⟨l,a,m,o,O,d,p,_,q⟩=>⟨l,a,m,o,O,d,p,q⟩⟩
set_option tactic.hygienic true in
def VY{Cl:Nat->ae}{X:Cx}{E:XK}{x:ao}{i k n Pt L:Nat}{g:List (af×(oU))}{p c:Pos}{e:aZ}{d:List aZ}{t:DA}(hN:X.N[i]?=Qg x)(hv:qu X.env.scope x)(M:∀y∈g,zQ Cl X.prog X.w X.K X.mg X.base k n Pt y.1 y.2)(hx:tX (pZ X.prog X.w Cl) X E)(hr:nB k X.A)(ha:qW X (Xk Cl E) (e::d) t)
  (hd:pL x:=by decide) (o6:(x==("__classdict__":ao))=Qp:=by decide) (he:au (e::d) X.env=(Qp,eval e X.env)::au d X.env:=by rfl) (pV:(backTo c<|au d X.env).any (·.1)=Qp:=by rfl):
  PD X (Xk Cl E) (.Call (.Name x p) (e::d) [] c) (Ep Pt L i n g t):=by
 refine⟨?_⟩;rintro b s P H Q I ⟨h,μ,σ,O,j,c1,q⟩;unfold Ep at q;split at q
 case h_2=>exact ah q
 rename_i S hp;by_cases l:S=Pt
 case neg=>rw[Qu l] at q;exact ah q
 rw[Qs l] at q;subst l;obtain⟨_,_,T⟩:=j.at_ L _ hp;unfold Qe at T;split at q
 case h_2=>exact ah q
 rename_i a hi;obtain⟨v,m,U⟩:=j.at_ i _ hi;unfold Qe at U;subst U;split at q
 case h_2=>exact ah q
 rename_i F f;have hm:(a,F)∈g:=by
  clear M q
  induction g with
  |nil=>cases f
  | cons y r ih=>
   rw[dM] at f;split at f
   .rename_i z;have z:a=y.1:=⇑z
    cases f;subst z;exact aL
   .exact ar _<|ih f
 obtain⟨fd,ps,rT,hb,G⟩:=(M _ hm).ex;refine dk (oO (Ad hN hv hd o6 b s P H (λv o=>v=.ref a/\o=H) I ⟨_,m,rfl,rfl⟩) λu s1 ⟨v,o,Y,ru,ev,eh⟩=>?_);subst ev eh;cases ru;refine gc (h₀:=X.base) Y.ok.mod.kin rT (oO (ha.out c b s1 P o _ Y (r9.go j c1 q (Q1:=λB C=>xv X.K (Xk Cl) n S F (B++[]) C Q E) λds O1 B C c_ e2 x2 c2 Z J=>?_)) λus s2 ⟨B,C,I2,r,q⟩=>⟨I2.kIn,?_⟩) he pV
 .obtain⟨hl,J⟩:=post.ite J;refine⟨by rw[cf,<- Z.length];exact hl,h,c_,ds,O1,?_,c2,x2.tab _ T.2,J⟩;rw[cf];exact Z
 .exact Er (dvs:=[]) (ds:=[]) G hr hb .nil hx I2 r q
def Ud(C:af):Sp:=λvs H Q _=>∃x dx,vs=[.ref x]/\H x=Qg (.ins C dx [])/\∀t l,H t=Qn->H l=Qn->l≠t->Q .non (upd (upd (upd H t<|.tup [.int 0,.int 0]) l<|.lst [.ref t]) x<|.ins C dx [(("stands":ao),.ref l)])
def GO(K:ag)(C:af)(qual:ao)(st:cN):Prop:=∃f fd,Mk K C f/\L2.Fun K "__init__" qual st f fd
structure GK(Cl:Nat->ae)(P:aE)(w:aG)(K:ag)(mg:ao->Option ae)(base:aJ)(C:af)(k:Nat):Prop where
 ex:∃f fd ps,Mk K C f/\Binds K fd ps []/\nG P w K mg base (pZ P w Cl) k f fd ps (Ud C)
def Va{Cl:Nat->ae}{P:aE}{w:aG}{K:ag}{G:ao->Option ae}{base:aJ}{k:Nat}{C:af}{a:ao}{b:cN}{I J L N O e:Pos}{T U:_}{k1 k2:_}(h:GO K C a b)(u:zZ K C)(S:oZ ["self"] ["self"] (l_ b))
  (Y:qK b=[.Assign [.Attribute (.Name "self" I) "stands" J] (.List [.Tuple [.Constant (.int 0) k1 L,.Constant (.int 0) k2 N] T O] U) e])
  (Z:qu (l_ b) "self")
  (hb:∀(g c i:ae)(j:Option af)(m n:ae)(us:List ae),us.length=1->bindArgs (a8 "__init__" a (sG b) (qK b) (l_ b) .none g c i j m n) ⟨us,[]⟩=pure ((["self"]:List ao).zip us)):
  GK Cl P w K G base C (k+1):=by
 obtain⟨f,fd,M,F⟩:=h;obtain⟨PR,od,g,c,i,j,m,n,qx,rfl,lk,o6⟩:=F.ex;refine⟨f,_,["self"],M,Binds.all<|hb g c i j m n,?_⟩;refine yp lk o6 S (λvs H Q E h=>by obtain⟨x,v,rfl,_⟩:=h;rfl) λA o s H vs Q E hr h=>?_;obtain⟨x,v,rfl,p,q⟩:=h;refine⟨Ki K (A7 0) (J6<|Bj (Kf (Bj (tC<|.int 0)<|Bj (tC<|.int 0) zR)) zR) "stands",?_,?_⟩
 .rw[Y];exact GY<|Tn (pv 0 rfl Z) (GA<|u_ (Ln (u_ Gx<|u_ Gx yr)) yr) rfl
 .refine⟨by show 2<=aK;decide,λt r=>⟨by show 1<=aK;decide,λl d=>?_⟩⟩;have y:l≠t:=by rintro rfl;rw[pK] at d;cases d
  have B:x≠t:=by rintro rfl;rw[p] at r;cases r
  have lx:x≠l:=by
   rintro rfl;rw[oN B,p] at d;cases d
  rw[oN y] at d;exact⟨.ref x,rfl,x,C,v,[],rfl,by rw[oN lx,oN B];exact p,u.cls,u.na,by decide,q t l r d y⟩
def Bl(C:Nat):DE:=λ_ O=>.ok (.obj C O.length)<|O++[[.tup [.int 0,.int 0]]]
def Uz{Cl:Nat->ae}{X:Cx}{E:XK}{x:ao}{k j:Nat}{C:af}{p s:Pos}(c:GK Cl X.prog X.w X.K X.mg X.base C k)(h:tX (pZ X.prog X.w Cl) X E)(Z:nB (j+1) X.A)(hk:k<=j)(hg:Gl X x)(hm:X.mg x=Qg (.ref C))(qy:pL x:=by decide):
  PD X (Xk Cl E) (.Call (.Name x p) [] [] s) (Bl C):=by
 obtain⟨f,fd,ps,M,d,G⟩:=c.ex;refine qd (Vu (dvs:=[]) (ds:=[]) M (G.mono hk) Z hg hm d .nil h qy) λu L σ O a_ H Q e1 v q=>?_;intro x a h N ne;refine⟨x,a,rfl,pK,λt l i n qt=>⟨rfl,?_⟩⟩;have r:t≠x:=by rintro rfl;rw[pK] at i;cases i
 have g:l≠x:=by rintro rfl;rw[pK] at n;cases n
 rw[oN r] at i;rw[oN g] at n;have P:(upd H a<|.own x) x=Qn:=by rw[oN<|bO ne];exact h
 have e:∀S y:HO,upd (upd (upd (upd (upd H a<|.own x) x S) t<|.tup [.int 0,.int 0]) l<|.lst [.ref t]) x y=upd (upd (upd (upd H a<|.own x) x y) t<|.tup [.int 0,.int 0]) l (.lst [.ref t]):=λS y=>by
  funext b;by_cases d:b=x
  .subst d;rw[pK,oN<|bO g,oN<|bO r,pK]
  .rw[oN d];by_cases B:b=l
   .subst B;rw[pK,pK]
   .rw[oN B,oN B];by_cases I:b=t
    .subst I;rw[pK,pK]
    .rw[oN I,oN I,oN d,oN d]
 rw[e];have J:(upd (upd H a<|.own x) x<|.ins C a [(("stands":ao),V.ref l)]) t=Qn:=by rw[oN r];exact i
 have T:(upd (upd (upd H a<|.own x) x<|.ins C a [(("stands":ao),V.ref l)]) t<|.tup [.int 0,.int 0]) l=Qn:=by rw[oN qt,oN g];exact n
 have U:=(v.laid (o:=.own x) N).laid (o:=.ins C a [(("stands":ao),V.ref l)]) P;have d2:nv X.K (upd (upd H a<|.own x) x<|.ins C a [(("stands":ao),V.ref l)]) u L [.int 0,.int 0] [.int 0,.int 0]:=.cons rK<|.cons rK .nil;have d3:=Qe.newT U J d2;have c3:=(U.laid (o:=.tup [.int 0,.int 0]) J).cell T<|.cons d3 .nil;have Y:=v.not_in h;refine q _ _ (L++[l]) ((((Ext.laid N).trans<|Ext.laid P).trans<|Ext.laid J).trans<|Ext.cell T) c3 ⟨x,a,l,rfl,by rw[oN<|bO g,oN<|bO r,pK],Y.1,λm=>?_,by rw[<- v.len];simp⟩;rcases aO.mp m with m|m
 .exact Y.2 m
 .exact g (cz.mp m).symm
section
variable{X:Cx}{Ex:Nat->Hp->Prop}{i:aZ}{ti:DE}{pos:Pos}
def Um{x:ao}{a:List (D×D)}{p:Pos}(h:u7 X.w X.K X.mg x a)(b:Gl X x)(c:PD X Ex i ti)(d:pL x:=by decide)(e:behindInMarks .NotIn (.Name x p)=Qp:=by rfl):PD X Ex (.Compare i [.NotIn] [.Name x p] pos) (uH Qo a ti):=⟨GP (El Qo h b c d) e⟩
def Uq{x:ao}{a:List (D×D)}{p:Pos}(h:u7 X.w X.K X.mg x a)(b:Gl X x)(c:PD X Ex i ti)(d:pL x:=by decide)(e:behindInMarks .In (.Name x p)=Qp:=by rfl):pO X Ex (.Compare i [.In] [.Name x p] pos) (p_<|uH Qp a ti):=
 Ah (GF (El Qp h b c d) e) λf k l O m H Q g j q=>Gf g j q
def V4{x:ao}{a:List (D×D)}{p:Pos}(h:u7 X.w X.K X.mg x a)(b:Gl X x)(c:PD X Ex i ti)(d:pL x:=by decide)(e:behindInMarks .NotIn (.Name x p)=Qp:=by rfl):pO X Ex (.Compare i [.NotIn] [.Name x p] pos) (p_<|uH Qo a ti):=
 Ah (GF (El Qo h b c d) e) λf k l O m H Q g j q=>Gf g j q
end
section
variable{Cl:Nat->ae}{P:aE}{w:aG}{K:ag}{mg:ao->Option ae}{base:aJ}{k n:Nat}{Pt a:af}{F:oU}{fs:List (af×(oU))}
def V5:∀y∈([]:List (af×(oU))),zQ Cl P w K mg base k n Pt y.1 y.2:=λy h=>(fM h).elim
def BI(h:zQ Cl P w K mg base k n Pt a F)(r:∀y∈fs,zQ Cl P w K mg base k n Pt y.1 y.2):∀y∈(a,F)::fs,zQ Cl P w K mg base k n Pt y.1 y.2:=λy m=>by
 rcases av.mp m with rfl|m
 .exact h
 .exact r y m
end
def me_mk{K:ag}{C f:af}{m c:ao}{d:cN}{g h:Option af}{i:Array (Option ae)}{j n o p r e:ae}(a:bu K (.ref C) m=Qg (Qg<|.ref f))(b:ii K (.ref f)=Qo)
  (l:K.lookup f=Qg ⟨j,g,.func<|a8 m c (sG d) (qK d) (l_ d) .none n o p h e r,i⟩) (q:cg K e c=Qo) (k:bN K (.ref f)=Qo):Ae K C m c d:=⟨f,_,⟨a,b,k⟩,Bw l q k⟩
def ini_mk{K:ag}{C f:af}{c:ao}{d:cN}{g h:Option af}{i:Array (Option ae)}{j n o p r e:ae}(a:bu K (.ref C) "__init__" = Qg (Qg<|.ref f))(b:ii K (.ref f)=Qo)
  (l:K.lookup f=Qg ⟨j,g,.func<|a8 "__init__" c (sG d) (qK d) (l_ d) .none n o p h e r,i⟩) (q:cg K e c=Qo) (k:bN K (.ref f)=Qo) (m:jO K C=Qo) (s:bN K (.ref C)=Qo):GO K C c d:=⟨f,_,⟨m,a,b,s⟩,Bw l q k⟩
def oc_mk{K:ag}{C:af}(a:fJ K C Str.empty=Qo)(b:gE K C=Qo)(c:jj K C=Qo)(d:bu K (.ref C) "__setattr__" = Qg (Qg<|.builtin "object.__setattr__"))(e:bu K (.ref C) "stands" = Qg Qn):zZ K C:=⟨⟨a,b,c,d⟩,e⟩
open PyProof.Rows (AllBare IntsAre)
def walk2c{l:jl}{q:aE}{loose:List ao}{XP:(ao->Option ae)->aJ->Prop}{j:aG->aJ->Prop}{d:DefRec}{K:f8->ag}{Cl:Nat->ae}{k:Nat}{x xd:ao}{Pt P2:af}{F:oU}{α:Type}{Yf:aj->α}{Ya:aG->α}(r:l.most=Qg 63)(t:d.params.defaults=[])(v:nB k callerA)
  (y:∀w s,Yf s=Ya w->j w s.heap) (A:∀w h h',j w h->(∀b o,h.get? b=Qg o->h'.get? b=Qg o)->j w h')
  (B:∀(w:aG)(h:aJ),j w h->(K w.params).In h) (C:(fW q).find? (λe=>e.name==d.name)=Qg d) (E:((fW q).find? (λe=>e.name==xd)).isSome=Qo)
  (H:∀(w:aG)(g:ao->Option ae)(m:af)(h:aJ),(K w.params).In h->h.Ns bt g->g d.name=Qg (.ref m)->
   gq (K w.params)=Qo/\∃(c n:af),eI (K w.params) d.name=Qg (c,Pt)/\eI (K w.params) xd=Qg (n,P2)/\∃fd:cV,(∀(s:aj)(u:ae),gk s fd ⟨[u],[]⟩ [(x,u)])/\∀base:aJ,(K w.params).In base->base.Ns bt g->qJ g base c Pt->qJ g base n P2->nG l.prog w (K w.params) g base (pZ l.prog w Cl) k m fd [x] (xw (K w.params) (Xk Cl) 1 Pt P2 F))
  (i:∀(p:List Int),p.length<=63->∃O,F [.lst<|p.map .int] []=.ok (.bl Qo) O):
  my q loose XP (λs=>(Yf s,decide<|0<s.toks)) (λw=>(Ya w,Qo)) l.row.toRowW d [] (λf vs=>mD f vs):=by
 refine RL (x:=x) (Cl:=Cl) (F:=λa b=>if a=Pt/\b=P2 then F else λ_ O=>.ok (.bl Qo) O) r t v y A B C E (λw g m h X G I=>?_) λa b p J=>?_
 .obtain⟨z,c,n,L,M,fd,N,G⟩:=H w g m h X G I;refine⟨z,c,Pt,n,P2,L,M,fd,N,?_⟩;rw[Qs ⟨rfl,rfl⟩];exact G
 .split
  .exact i p J
  .exact⟨[],rfl⟩
def D2:List ao->Bool
 |[]=>Qo
 |x::l=>!(l.contains x)&&D2 l
theorem sH:∀{l:List ao},D2 l=Qo->l.Nodup
 |[],_=>mP
 | x::l,h=>by
  unfold D2 at h;rw[ck,jn] at h;refine cL.mpr ⟨λm=>?_,sH h.2⟩;rw[fB.mpr m] at h;exact Bool.noConfusion h.1
noncomputable def FZ:Option fK->Bool
 |some .local=>Qo
 |some .cell=>Qo
 |_=>Qp
def Ur(h:FZ o=Qo):o=Qg .local\/o=Qg .cell:=by
 unfold FZ at h;split at h
 .exact .inl rfl
 .exact .inr rfl
 .cases h
def kNf:fK->Bool
 |.free=>Qp
 |_=>Qo
def QF(N P:List ao)(sc:cC):Bool:=D2 N&&(N.take P.length==P)&&P.all (λx=>FZ<|sc.names.lookup x)&&sc.names.all (λy=>kNf y.2)
def pF(f:sc.kind=.function)(g:sc.isCoroutine=Qp)(i:sc.isGenerator=Qp)(h:QF N P sc=Qo):oZ N P sc:=by unfold QF at h;simp only[ck] at h;obtain⟨⟨⟨a,b⟩,c⟩,d⟩:=h;refine⟨f,g,i,sH a,eq_of_beq b,λx j=>Ur<|cE.mp c x j,λy k e=>?_⟩;have:=cE.mp d y k;rw[e] at this;cases this
end DL
namespace DL
open PySem
noncomputable def pl:Nat->D->Bool
 |n,.non=>Qo
 |n,.int _=>Qo
 |n,.str cs=>cs.all (· < 1114112)
 |n+1,.lst ds=>ds.all<|pl n
 |n+1,.tup ds=>ds.all<|pl n
 |_,_=>Qp
section
variable{σ:Sg}{O O1:Ow}
def yp(a:tA σ O=.ok ds O1)(b:F ds O1=z)(c:ds.length=n:=by rfl):oM n F tA σ O=z:=by rw[SY a c];exact b
end
end DL
set_option maxHeartbeats 400000
namespace K93
open PySem L2 DL
abbrev zg(x:Int):Option D:=Qg<|.int x
abbrev rq(x:List D):Option D:=Qg<|.lst x
noncomputable def top(i:Nat):cN:=PySem.Challenge.pw_leastterms_k93_lines_that_are_none.main.body.getD i<|.Pass ⟨0,0,0,0⟩
def v8(i j:Nat):cN:=match top i with
 |.ClassDef _ _ _ b _ _ _ _ _ _ _=>b.getD j<|.Pass ⟨0,0,0,0⟩
 |s=>s
def zc:List (Int×Int):=[(2,1),(4,2),(8,3),(16,4)]
def Ii:List (D×D):=[(.int 0,.str [48]),(.int 1,.str [49]),(.non,.str [45])]
def B1:List (D×D):=[(.str [48],.int 0),(.str [49],.int 1),(.str [45],.non)]
def AA:List (D×D):=[(.str [111,110,101],.int 1),(.str [102,114,101,101],.non),(.str [110,111,117,103,104,116],.int 0)]
noncomputable def Ay:List (D×D):=[(.str [115,104,111,119,110],.adr 370),(.str [103,114,101,97,116,101,115,116],.adr 377),(.str [110,101,101,100,101,100],.adr 384),(.str [108,101,97,115,116],.adr 391),(.str [109,97,110,121],.adr 398)]
noncomputable def Ca:Nat->Nat:=λc=>match c with
 |_=>121
def Cl:Nat->ae:=λc=>.ref<|Ca c
def BX:Nat->Option Bool:=λC=>match C with
 |121=>Qg Qp
 |_=>Qn
def BS:Nat->Option Bool:=λC=>match C with
 |121=>Qg Qp
 |_=>Qn
def BU:Nat->Option Bool:=λC=>match C with
 |121=>Qg Qp
 |_=>Qn
def BV:Nat->Option Bool:=λC=>match C with
 |121=>Qg Qp
 |_=>Qn
def BY:Nat->Option Bool:=λC=>match C with
 |121=>Qg Qp
 |_=>Qn
def B0:Nat->Option Bool:=λC=>match C with
 |121=>Qg Qp
 |_=>Qn
def BR:Nat->Option Bool:=λC=>match C with
 |121=>Qg Qp
 |_=>Qn
def BW:Nat->Option Bool:=λC=>match C with
 |121=>Qg Qo
 |_=>Qn
def BZ:Nat->Option Bool:=λC=>match C with
 |121=>Qg Qp
 |_=>Qn
def BQ:Nat->Option Bool:=λC=>match C with
 |121=>Qg Qo
 |_=>Qn
structure Txt(w:aG)(K:ag)(mg:ao->Option ae):Prop where
 w0:pD K mg "is_whole" (top 12)
 w1:pD K mg "is_whole_within" (top 13)
 w2:pD K mg "is_answer" (top 16)
 w3:pD K mg "is_function" (top 17)
 w4:pD K mg "need_function" (top 18)
 w5:pD K mg "switches_of" (top 19)
 w6:pD K mg "points_with" (top 20)
 w7:pD K mg "all_terms" (top 25)
 w8:pD K mg "bits_of" (top 26)
 w9:pD K mg "points_of" (top 27)
 wa:pD K mg "with_sign" (top 28)
 wb:pD K mg "signs_in" (top 29)
 wc:pD K mg "terms_holding" (top 30)
 wd:pD K mg "holds_no_nought" (top 32)
 we:pD K mg "holds_a_one" (top 33)
 wf:pD K mg "is_good" (top 34)
 wg:pD K mg "good_terms" (top 35)
 wh:pD K mg "can_widen_at" (top 36)
 wi:pD K mg "is_widest" (top 37)
 wj:pD K mg "greatest" (top 38)
 wk:pD K mg "signs_of" (top 40)
 wl:pD K mg "holders_in" (top 41)
 wm:pD K mg "covers" (top 42)
 wn:pD K mg "least_covers" (top 43)
 wo:pD K mg "held_points" (top 44)
 wp:pD K mg "least_forms" (top 45)
 wq:pD K mg "least_form" (top 46)
 wr:pD K mg "least_many" (top 47)
 ws:pD K mg "sole_holders" (top 49)
 wt:pD K mg "terms_alone" (top 50)
 wu:pD K mg "needed" (top 51)
 wv:pD K mg "function_text" (top 56)
 ww:pD K mg "form_text" (top 57)
 wx:pD K mg "is_function_text" (top 58)
 wy:pD K mg "read_function" (top 59)
 wz:pD K mg "terms_text" (top 63)
 wA:pD K mg "say_shown" (top 64)
 wB:pD K mg "say_greatest" (top 65)
 wC:pD K mg "say_needed" (top 66)
 wD:pD K mg "say_least" (top 67)
 wE:pD K mg "say_many" (top 68)
 wF:pD K mg "words_of" (top 70)
 wG:pD K mg "read_point" (top 71)
 wH:pD K mg "deed_done" (top 72)
 wI:GO K 463 "Desk.__init__" (v8 73 0)
 wJ:Ae K 463 "say" "Desk.say" (v8 73 1)
 wK:Ae K 463 "say_alone" "Desk.say_alone" (v8 73 2)
 wL:Ae K 463 "say_of" "Desk.say_of" (v8 73 3)
 wM:Ae K 463 "undo" "Desk.undo" (v8 73 4)
 wN:pD K mg "_law_refused" (top 75)
 wO:pD K mg "_law_bad" (top 76)
 wP:pD K mg "law" (top 77)
 wQ:zZ K 463
 wR:mg "Desk" = Qg (.ref 463)
 wS:mg "say_shown" = Qg (.ref 370)
 wT:mg "say_greatest" = Qg (.ref 377)
 wU:mg "say_needed" = Qg (.ref 384)
 wV:mg "say_least" = Qg (.ref 391)
 wW:mg "say_many" = Qg (.ref 398)
 wX:mg "ValueError" = Qn
 wY:mg "all" = Qn
 wZ:mg "any" = Qn
 w01:mg "bool" = Qn
 w11:mg "dict" = Qn
 w21:mg "enumerate" = Qn
 w31:mg "int" = Qn
 w41:mg "isinstance" = Qn
 w51:mg "len" = Qn
 w61:mg "min" = Qn
 w71:mg "range" = Qn
 w81:mg "sorted" = Qn
 w91:mg "str" = Qn
 wa1:mg "sum" = Qn
 wb1:mg "tuple" = Qn
 wc1:A4 mg "FIGURES" [48,49,50,51,52,53,54,55,56,57]
 wd1:A4 mg "NO_TERMS" [110,111,110,101]
 we1:A4 mg "SIGNS" [45,48,49]
 wf1:u7 w K mg "ANSWER_BY_SIGN" B1
 wg1:u7 w K mg "ANSWER_BY_WORD" AA
 wh1:u7 w K mg "QUESTIONS" Ay
 wi1:u7 w K mg "SIGN_BY_ANSWER" Ii
 wj1:yT K mg "SWITCHES_BY_POINTS" zc
 wk1:mg "NoFunction" = Qg (.ref 37)
 wl1:mg "NoTerm" = Qg (.ref 49)
 wm1:mg "NoPoint" = Qg (.ref 61)
 wn1:mg "NoNumber" = Qg (.ref 73)
 wo1:mg "NoForm" = Qg (.ref 85)
 wp1:mg "NoChange" = Qg (.ref 97)
 wq1:mg "NoText" = Qg (.ref 109)
 wr1:mg "NoLine" = Qg (.ref 121)
 ws1:mg "NoDeed" = Qg (.ref 133)
 wt1:mg "TermError" = Qg (.ref 24)
 wu1:aH K (.type "NoneType") (.ref 37)=Qg Qp
 wv1:aH K (.type "NoneType") (.ref 49)=Qg Qp
 ww1:aH K (.type "NoneType") (.ref 61)=Qg Qp
 wx1:aH K (.type "NoneType") (.ref 73)=Qg Qp
 wy1:aH K (.type "NoneType") (.ref 85)=Qg Qp
 wz1:aH K (.type "NoneType") (.ref 97)=Qg Qp
 wA1:aH K (.type "NoneType") (.ref 109)=Qg Qp
 wB1:aH K (.type "NoneType") (.ref 121)=Qg Qp
 wC1:aH K (.type "NoneType") (.ref 133)=Qg Qp
 wD1:aH K (.type "NoneType") (.type "ValueError")=Qg Qp
 wE1:el K (.ref 121) (.ref 24)=Qg Qo
 wF1:aH K (.ref 121) (.ref 37)=Qg Qp
 wG1:aH K (.ref 121) (.ref 49)=Qg Qp
 wH1:aH K (.ref 121) (.ref 61)=Qg Qp
 wI1:aH K (.ref 121) (.ref 73)=Qg Qp
 wJ1:aH K (.ref 121) (.ref 85)=Qg Qp
 wK1:aH K (.ref 121) (.ref 97)=Qg Qp
 wL1:aH K (.ref 121) (.ref 109)=Qg Qp
 wM1:aH K (.ref 121) (.ref 121)=Qg Qo
 wN1:aH K (.ref 121) (.ref 133)=Qg Qp
 wO1:aH K (.ref 121) (.type "ValueError")=Qg Qo
 wP1:yf K 121
structure xt(mg:ao->Option ae)(base:aJ):Prop where
 z0a:F8 mg base "NoLine" 121
def Z2{w:aG}{K:ag}{a:ao->Option ae}(T:Txt w K a):∀C b,BX C=Qg b->aH K (.ref C) (.ref 37)=Qg b:=by intro C b h;unfold BX at h;split at h<;>first|(cases h;first|exact T.wF1)|cases h
def ZY{w:aG}{K:ag}{a:ao->Option ae}(T:Txt w K a):∀C b,BS C=Qg b->aH K (.ref C) (.ref 49)=Qg b:=by intro C b h;unfold BS at h;split at h<;>first|(cases h;first|exact T.wG1)|cases h
def ZZ{w:aG}{K:ag}{a:ao->Option ae}(T:Txt w K a):∀C b,BU C=Qg b->aH K (.ref C) (.ref 61)=Qg b:=by intro C b h;unfold BU at h;split at h<;>first|(cases h;first|exact T.wH1)|cases h
def Z0{w:aG}{K:ag}{a:ao->Option ae}(T:Txt w K a):∀C b,BV C=Qg b->aH K (.ref C) (.ref 73)=Qg b:=by intro C b h;unfold BV at h;split at h<;>first|(cases h;first|exact T.wI1)|cases h
def Z3{w:aG}{K:ag}{a:ao->Option ae}(T:Txt w K a):∀C b,BY C=Qg b->aH K (.ref C) (.ref 85)=Qg b:=by intro C b h;unfold BY at h;split at h<;>first|(cases h;first|exact T.wJ1)|cases h
def Z5{w:aG}{K:ag}{a:ao->Option ae}(T:Txt w K a):∀C b,B0 C=Qg b->aH K (.ref C) (.ref 97)=Qg b:=by intro C b h;unfold B0 at h;split at h<;>first|(cases h;first|exact T.wK1)|cases h
def ZX{w:aG}{K:ag}{a:ao->Option ae}(T:Txt w K a):∀C b,BR C=Qg b->aH K (.ref C) (.ref 109)=Qg b:=by intro C b h;unfold BR at h;split at h<;>first|(cases h;first|exact T.wL1)|cases h
def Z1{w:aG}{K:ag}{a:ao->Option ae}(T:Txt w K a):∀C b,BW C=Qg b->aH K (.ref C) (.ref 121)=Qg b:=by intro C b h;unfold BW at h;split at h<;>first|(cases h;first|exact T.wM1)|cases h
def Z4{w:aG}{K:ag}{a:ao->Option ae}(T:Txt w K a):∀C b,BZ C=Qg b->aH K (.ref C) (.ref 133)=Qg b:=by intro C b h;unfold BZ at h;split at h<;>first|(cases h;first|exact T.wN1)|cases h
def ZW{w:aG}{K:ag}{a:ao->Option ae}(T:Txt w K a):∀C b,BQ C=Qg b->aH K (.ref C) (.type "ValueError")=Qg b:=by intro C b h;unfold BQ at h;split at h<;>first|(cases h;first|exact T.wO1)|cases h
def Rb{w:aG}{K:ag}{a:ao->Option ae}(T:Txt w K a):∀c,Cl c=.ref (Ca c)/\yf K (Ca c)/\el K (.ref<|Ca c) (.ref 24)=Qg Qo:=by intro c;refine⟨rfl,?_⟩;unfold Ca;exact⟨T.wP1,T.wE1⟩
section
variable{P:aE}{w:aG}{K:ag}{mg:ao->Option ae}{base:aJ}
section
set_option hygiene false in
local macro_rules|`(tactic| walk_at "v")=>`(tactic| first|exact .inl rfl|exact .inr (.inl rfl)|exact .inr (.inr rfl))
set_option hygiene false in
local macro_rules|`(tactic| walk_at "l")=>`(tactic| first|exact .inl rfl|exact .inr rfl)
set_option hygiene false in
local macro_rules|`(tactic| walk_at "le")=>`(tactic| first|decide|exact ay _|lia)
set_option hygiene false in
local macro_rules|`(tactic| walk_at "fx")=>`(tactic| first|refine SX h hr '3' rfl ?_<;>walk_at "a")
set_option hygiene false in
local macro_rules|`(tactic| walk_at "f")=>`(tactic| first|((with_reducible show PD _ _ _ (oM _ HD _));have h:=@Yp P w K mg base T;walk_at "fx")|((with_reducible show PD _ _ _ (oM _ H_ _));have h:=@Zb P w K mg base T;walk_at "fx")|((with_reducible show PD _ _ _ (oM _ E1 _));have h:=@Zp P w K mg base T;walk_at "fx")|((with_reducible show PD _ _ _ (oM _ HY _));have h:=@Yy P w K mg base T;walk_at "fx")|((with_reducible show PD _ _ _ (oM _ Hm _));have h:=@XS P w K mg base T;walk_at "fx")|((with_reducible show PD _ _ _ (oM _ HS _));have h:=@Ye P w K mg base T;walk_at "fx")|((with_reducible show PD _ _ _ (oM _ HH _));have h:=@Yt P w K mg base T;walk_at "fx")|((with_reducible show PD _ _ _ (oM _ EV _));have h:=@OB P w K mg base T;walk_at "fx")|((with_reducible show PD _ _ _ (oM _ EX _));have h:=@Y4 P w K mg base T;walk_at "fx")|((with_reducible show PD _ _ _ (oM _ H8 _));have h:=@YF P w K mg base T;walk_at "fx")|((with_reducible show PD _ _ _ (oM _ B2 _));have h:=@Pq P w K mg base T;walk_at "fx")|((with_reducible show PD _ _ _ (oM _ E5 _));have h:=@YI P w K mg base T;walk_at "fx")|((with_reducible show PD _ _ _ (oM _ y_ _));have h:=@OP P w K mg base T;walk_at "fx")|((with_reducible show PD _ _ _ (oM _ Iw _));have h:=@ZT P w K mg base T;walk_at "fx")|((with_reducible show PD _ _ _ (oM _ Az _));have h:=@YA P w K mg base T;walk_at "fx")|((with_reducible show PD _ _ _ (oM _ ET _));have h:=@Yv P w K mg base T;walk_at "fx")|((with_reducible show PD _ _ _ (oM _ E6 _));have h:=@Pp P w K mg base T;walk_at "fx")|((with_reducible show PD _ _ _ (oM _ HV _));have h:=@YB P w K mg base T;walk_at "fx")|((with_reducible show PD _ _ _ (oM _ Ig _));have h:=@ZF P w K mg base T;walk_at "fx")|((with_reducible show PD _ _ _ (oM _ E8 _));have h:=@ZS P w K mg base T;walk_at "fx")|((with_reducible show PD _ _ _ (oM _ H9 _));have h:=@Zn P w K mg base T;walk_at "fx")|((with_reducible show PD _ _ _ (oM _ Ia _));have h:=@Zl P w K mg base T;walk_at "fx")|((with_reducible show PD _ _ _ (oM _ Im _));have h:=@Zu P w K mg base T;walk_at "fx")|((with_reducible show PD _ _ _ (oM _ Ir _));have h:=@ZD P w K mg base T;walk_at "fx")|((with_reducible show PD _ _ _ (oM _ E7 _));have h:=@ZG P w K mg base T;walk_at "fx")|((with_reducible show PD _ _ _ (oM _ HX _));have h:=@YD P w K mg base T;walk_at "fx")|((with_reducible show PD _ _ _ (oM _ Ik _));have h:=@Zk P w K mg base T;walk_at "fx")|((with_reducible show PD _ _ _ (oM _ HN _));have h:=@YH P w K mg base T;walk_at "fx")|((with_reducible show PD _ _ _ (oM _ Ih _));have h:=@ZI P w K mg base T;walk_at "fx")|((with_reducible show PD _ _ _ (oM _ BP _));have h:=@Yo P w K mg base T;walk_at "fx")|((with_reducible show PD _ _ _ (oM _ HP _));have h:=@OW P w K mg base T;walk_at "fx")|((with_reducible show PD _ _ _ (oM _ Il _));have h:=@Zm P w K mg base T;walk_at "fx")|((with_reducible show PD _ _ _ (oM _ Hb _));have h:=@Xl P w K mg base T;walk_at "fx")|((with_reducible show PD _ _ _ (oM _ Ip _));have h:=@Pm P w K mg base T;walk_at "fx")|((with_reducible show PD _ _ _ (oM _ HM _));have h:=@OV P w K mg base T;walk_at "fx")|((with_reducible show PD _ _ _ (oM _ _ _));have h:=c_self;walk_at "fx"))
set_option hygiene false in
local macro_rules|`(tactic| walk_at "k")=>`(tactic| first|exact Lw|exact LB _ rfl|exact Lf|exact Kx)
set_option hygiene false in
local macro_rules|`(tactic| walk_at "n")=>`(tactic| first|exact Bx T.wd1|exact Bx T.we1)
set_option hygiene false in
local macro_rules|`(tactic| walk_at "o")=>`(tactic| first|((with_reducible show PD _ _ _ (oK ri _ _));refine Lm ?_ ?_<;>walk_at "e")|((with_reducible show PD _ _ _ (oK rk _ _));exact Ky '1' '1' (λ_ _=>rfl))|((with_reducible show PD _ _ _ (oK (fI A3) _ _));refine z_ SA TK ?_ ?_<;>walk_at "e")|((with_reducible show PD _ _ _ (oK (fI DY) _ _));refine z_ Tv Vk ?_ ?_<;>walk_at "e")|((with_reducible show PD _ _ _ (oK (fI yi) _ _));refine z_ Lz MP ?_ ?_<;>walk_at "e")|((with_reducible show PD _ _ _ (oK (qG sW) _ _));exact yz (EE hr.units) xF '1' '1' (yy _))|((with_reducible show PD _ _ _ (oK (qG xj) _ _));exact yz (G3 hr.units) xF '1' '1' (yy _))|((with_reducible show PD _ _ _ (oK vU _ _));exact yz (Ew hr.units) Eu '1' '1' rfl)|((with_reducible show PD _ _ _ (oK AY _ _));exact yz (ML hr.units) MJ '1' '1' rfl)|((with_reducible show PD _ _ _ (oK Ga _ _));exact yz S6 TR '1' '1' (yy _))|((with_reducible show PD _ _ _ (uH false B1 _));refine Lh T.wf1 rfl ?_<;>walk_at "e")|((with_reducible show PD _ _ _ (y6 true zc _));refine Wf T.wj1 rfl ?_<;>walk_at "e")|((with_reducible show PD _ _ _ (GB Dg Dg _ _ _));refine VB KE Lg KE Lg ?_ ?_ ?_<;>walk_at "e"))
set_option hygiene false in
local macro_rules|`(tactic| walk_at "c")=>`(tactic| first|((with_reducible show PD _ _ _ (pR tI _));refine xJ Nz Lj rfl T.w51 Lq ?_<;>walk_at "a")|((with_reducible show PD _ _ _ (pR yk _));refine xJ (NV rfl) Li rfl T.wY Lo ?_<;>walk_at "a")|((with_reducible show PD _ _ _ (pR AZ _));refine xJ (Xc rfl) Tz rfl T.wZ Ti ?_<;>walk_at "a")|((with_reducible show PD _ _ _ (pR DU _));refine xJ (Xn rfl) Ta rfl T.wa1 SI ?_<;>walk_at "a")|((with_reducible show PD _ _ _ (pR D_ _));refine xJ (Wg rfl) UI rfl T.w61 zev ?_<;>walk_at "a")|((with_reducible show PD _ _ _ (pR Ei _));refine EO W5 UN rfl T.w31 LG ?_<;>walk_at "a")|((with_reducible show PD _ _ _ (pR Bu _));refine EO Ze V8 rfl T.wb1 M0 ?_<;>walk_at "a")|((with_reducible show PD _ _ _ (pR z5 _));refine EO OX ME rfl T.w91 Ey ?_<;>walk_at "a")|((with_reducible show PD _ _ _ (vj "bool" _));exact Br '1' (by decide) rfl T.w41 tY rfl T.w01 UM)|((with_reducible show PD _ _ _ (vj "int" _));exact Br '1' (by decide) rfl T.w41 tY rfl T.w31 LG)|((with_reducible show PD _ _ _ (vj "str" _));exact Br '1' (by decide) rfl T.w41 tY rfl T.w91 Ey)|((with_reducible show PD _ _ _ (vj "tuple" _));exact Br '1' (by decide) rfl T.w41 tY rfl T.wb1 M0)|((with_reducible show PD _ _ _ (Bi _ _ _ _ _ _ _));first|exact Ng x0 _ rfl rfl T.w81 EN (ur (by kernel_rfl)) '5' (λ_ _ _ _ _=>⟨'6','7','8','1'⟩)|exact Ng x1 _ rfl rfl T.w81 EN (ur (by kernel_rfl)) '5' (λ_ _ _ _ _=>⟨'6','7','8','1'⟩))|((with_reducible show PD _ _ _ (sC _ _ _ (EM _) _));refine xH (WW T hT L) hr '3' rfl ?_<;>walk_at "a")|((with_reducible show PD _ _ _ (sC _ _ _ (Iu _) _));refine xH (Zt T hT L) hr '3' rfl ?_<;>walk_at "a")|((with_reducible show PD _ _ _ (sC _ _ _ (EZ _) _));refine xH (Zq T hT L) hr '3' rfl ?_<;>walk_at "a")|((with_reducible show PD _ _ _ (sC _ _ _ (HI _) _));refine xH (Zi T hT L) hr '3' rfl ?_<;>walk_at "a")|((with_reducible show PD _ _ _ (sC _ _ _ (HL _) _));refine xH (Y3 T hT L) hr '3' rfl ?_<;>walk_at "a")|((with_reducible show PD _ _ _ (sC _ _ _ (HW _) _));refine xH (O9 T hT L) hr '3' rfl ?_<;>walk_at "a")|((with_reducible show PD _ _ _ (sC _ _ _ (HE _) _));refine xH (ON T hT L) hr '3' rfl ?_<;>walk_at "a")|((with_reducible show PD _ _ _ (sC _ _ _ F _));refine xH c_self hr '3' rfl ?_<;>walk_at "a")|((with_reducible show PD _ _ _ (sC _ _ _ _ _));refine xH c_self hr '3' rfl ?_<;>walk_at "a")|((with_reducible show PD _ _ _ (Bb _ _ _ _));exact Wp (k:=2) (hr.mono (by lia)) rfl L rfl (by kernel_rfl) rfl (λ_ _ _ _ _ _ _=>rfl) (sH (by kernel_rfl)) '1' (λq lam cd cl A outer s H hr=>'1') rfl T.w61)|((with_reducible show PD _ _ _ (pR Ef _));refine xJ W3 UJ rfl T.w81 EN ?_<;>walk_at "a")|((with_reducible show PD _ _ _ (pR Ee _));refine xJ WJ U0 rfl T.w81 EN ?_<;>walk_at "a"))
set_option hygiene false in
local macro_rules|`(tactic| walk_at "so")=>`(tactic| first|((with_reducible show xo _ _ _ xA);exact Nb)|refine M8 ?_<;>walk_at "e")
set_option hygiene false in
local macro_rules|`(tactic| walk_at "m")=>`(tactic| first|((with_reducible show PD _ _ _ (F0 _ _));exact Wc '1' '4')|((with_reducible show PD _ _ _ (D3 _ _));exact TY '1' '1' (λ_ _=>rfl))|((with_reducible show PD _ _ _ (Bv _ _ _ _ _ _ _));first|exact N9 x0 rfl (ur (by kernel_rfl)) '5' (λ_ _ _ _ _=>⟨'6','7','8','1','1'⟩)|exact N9 x1 rfl (ur (by kernel_rfl)) '5' (λ_ _ _ _ _=>⟨'6','7','8','1','1'⟩))|((with_reducible show PD _ _ _ (Bm _ _));exact UY '1' '4')|((with_reducible show PD _ _ _ (JV FV _ _));exact RK PySem.F.slot_str_count PySem.F.type_str_count Wt SF '1' '4')|((with_reducible show PD _ _ _ (ye _ _ _));exact Ku '1' (by walk_at "so") (by walk_at "so"))|((with_reducible show PD _ _ _ (xB B1 _));exact Ez T.wf1 rfl '1' (λ_ _=>rfl))|((with_reducible show PD _ _ _ (xB Ii _));exact Ez T.wi1 rfl '1' (λ_ _=>rfl))|((with_reducible show PD _ _ _ (F6 zc _));exact TZ T.wj1 rfl '1' (λ_ _=>rfl)))
set_option hygiene false in
local macro_rules|`(tactic| walk_at "e1")=>`(tactic| first|((with_reducible show PD _ _ _ (ql _));refine LQ rfl ?_<;>walk_at "v")|((with_reducible show PD _ _ _ (dC _));first|walk_at "k"|walk_at "n")|((with_reducible show PD _ _ _ (oK _ _ _));walk_at "o")|((with_reducible show PD _ _ _ (oM _ _ _));walk_at "f")|((with_reducible show PD _ _ _ (qR _));refine Lr ?_<;>walk_at "a")|((with_reducible show PD _ _ _ (v9 _));refine LK ?_<;>walk_at "a")|((with_reducible show PD _ _ _ (qc _ _ _ _ _ _ _));first|exact EL x0 _ rfl (ur (by kernel_rfl)) '5' (λ_ _ _ _ _=>⟨'6','7','8','1'⟩)|exact EL x1 _ rfl (ur (by kernel_rfl)) '5' (λ_ _ _ _ _=>⟨'6','7','8','1'⟩))|((with_reducible show PD _ _ _ (pR _ _));walk_at "c")|((with_reducible show PD _ _ _ (Gh _));refine Us ?_<;>walk_at "a")|((with_reducible show PD _ _ _ (zU _ _));refine K9 ?_ ?_<;>walk_at "e")|((with_reducible show PD _ _ _ (FK _ _));refine K1 ?_ ?_<;>walk_at "e")|((with_reducible show PD _ _ _ (A1 _));refine Ll ?_<;>walk_at "e")|((with_reducible show PD _ _ _ (zL _ _ _));exact ND '9' '1' '1')|((with_reducible show PD _ _ _ F1);exact Sd)|walk_at "c"|walk_at "m"|walk_at "o")
set_option hygiene false in
local macro_rules|`(tactic| walk_at "e")=>`(tactic| first|(show PD _ _ (.BoolOp _ [_] _) _;refine K6 ?_<;>walk_at "e1")|walk_at "e1")
set_option hygiene false in
local macro_rules|`(tactic| walk_at "a")=>`(tactic| first|((with_reducible show qW _ _ _ i_);exact MI)|exact M9 '1' '4')
set_option hygiene false in
local macro_rules|`(tactic| walk_at "t")=>`(tactic| first|((with_reducible show pO _ _ _ (p_ (oK (qG sW) _ _)));exact Ak (EE hr.units) xF '1' '1' (yy _))|((with_reducible show pO _ _ _ (p_ (oK vU _ _)));exact Ak (Ew hr.units) Eu '1' '1' rfl)|((with_reducible show pO _ _ _ (p_ (oK AY _ _)));exact Ak (ML hr.units) MJ '1' '1' rfl)|((with_reducible show pO _ _ _ (p_ (y6 true zc _)));refine Xu T.wj1 rfl ?_<;>walk_at "e")|(show pO _ _ (.BoolOp _ _ _) _;refine sT.pt ?_<;>walk_at "w")|((with_reducible show pO _ _ _ (vm _));refine Ma ?_<;>walk_at "t")|((with_reducible show pO _ _ _ (rX _));exact Ms '1' (λ_=>rfl)))
set_option hygiene false in
local macro_rules|`(tactic| walk_at "w")=>`(tactic| first|(show sT _ _ (.BoolOp .And [_] _) _;refine Nh ?_<;>walk_at "t")|(show sT _ _ (.BoolOp .Or [_] _) _;refine LX ?_<;>walk_at "t")|((with_reducible show sT _ _ _ (A9 _ _));exact MC '9' (by walk_at "w"))|((with_reducible show sT _ _ _ (zT _ _));exact Ld '9' (by walk_at "w")))
set_option hygiene false in
local macro_rules|`(tactic| walk_at "i")=>`(tactic| first|((with_reducible show rn _ _ _ _ (yV _));refine Ox rfl T.w71 ?_<;>walk_at "a")|((with_reducible show rn _ _ _ _ (GQ _));refine WK rfl T.w21 ?_<;>walk_at "a")|((with_reducible show rn _ _ _ _ (Gc _));refine V3 ?_<;>walk_at "e")|refine Mr ?_<;>walk_at "e")
set_option hygiene false in
local macro_rules|`(tactic| walk_at "g")=>`(tactic| first|(show PG _ (.Name _ _) _;refine LU (sH (by kernel_rfl)) rfl ?_ ?_<;>walk_at "l")|(show PG _ (.Tuple [_,_] _ _) _;refine LJ rfl (sH (by kernel_rfl)) rfl rfl ?_ ?_ ?_ ?_<;>walk_at "l"))
set_option hygiene false in
local macro_rules|`(tactic| walk_at "fs")=>`(tactic| first|exact .nil|exact .cons '9' '7')
set_option hygiene false in
local macro_rules|`(tactic| walk_at "cs")=>`(tactic| first|exact .nil|(refine nQ.cons ?_ (λ_=>rfl) ?_ ?_ ?_;(dsimp only;walk_at "i");(dsimp only;walk_at "g");(dsimp only;walk_at "fs");walk_at "cs"))
set_option hygiene false in
local macro_rules|`(tactic| walk_at "s")=>`(tactic| first|((with_reducible show qE _ _ _ (o9 _));refine Mp ?_<;>walk_at "e")|((with_reducible show qE _ _ _ (qT _ _ _));exact Lc '9' '0' '0')|(show qE _ _ (.Assign [.Name _ _] (.ListComp _ _ _ _) _) _;first|exact EY x0 _ rfl (sH (by kernel_rfl)) rfl rfl (ur (by kernel_rfl)) '5' (λ_ _ _ _ _=>⟨'6','7','8','1'⟩) rfl|exact EY x1 _ rfl (sH (by kernel_rfl)) rfl rfl (ur (by kernel_rfl)) '5' (λ_ _ _ _ _=>⟨'6','7','8','1'⟩) rfl|exact EC (sH (by kernel_rfl)) rfl (by walk_at "l") '1')|((with_reducible show qE _ _ _ (pX _ _));exact EC (sH (by kernel_rfl)) rfl (by walk_at "l") '1')|((with_reducible show qE _ _ _ (xr _ _ _));exact MG jZ rfl '5' '6' '0')|((with_reducible show qE _ _ _ (v_ _));refine NB ?_<;>walk_at "e")|((with_reducible show qE _ _ _ (DB _ _));exact TX (sH (by kernel_rfl)) rfl (by walk_at "l") '1')|((with_reducible show qE _ _ _ (GU _ _ _));exact WN _ jZ '9' '0')|((with_reducible show qE _ _ _ qw);exact Np))
set_option hygiene false in
local macro_rules|`(tactic| walk_at "sl")=>`(tactic| first|first|exact OH x0 _ rfl (sH (by kernel_rfl)) rfl rfl (ur (by kernel_rfl)) '5' (λ_ _ _ _ _=>⟨'6','7','8','1'⟩) rfl|exact OH x1 _ rfl (sH (by kernel_rfl)) rfl rfl (ur (by kernel_rfl)) '5' (λ_ _ _ _ _=>⟨'6','7','8','1'⟩) rfl)
set_option hygiene false in
local macro_rules|`(tactic| walk_at "rs")=>`(tactic| first|(refine Xa jZ rfl (λte he=>GI (sH (by kernel_rfl)) rfl ?_ (NS XE rfl T.w11 TF (u_ he yr))) ?_ ?_ ?_ (Ad rfl ?_) (Ad rfl ?_) ?_ ?_ rfl ?_ (by decide) (by decide) (fD rfl) (fD rfl);(walk_at "l");(walk_at "e");(walk_at "i");(walk_at "g");(walk_at "v");(walk_at "v");(walk_at "sl");(walk_at "e");(walk_at "ss")))
set_option hygiene false in
local macro_rules|`(tactic| walk_at "ss")=>`(tactic| first|((with_reducible show qv _ _ _ (Gi _ _ _ _ _ _ _ _));walk_at "rs")|((with_reducible show qv _ _ _ qw);exact Nq)|((with_reducible show qv _ _ _ xu);exact Ao)|((with_reducible show qv _ _ _ (o3 _ _));exact pH '2' '0')|refine pG ?_<;>walk_at "s")
abbrev oV:=ql 0
def Ot:DS:=(o9<|zU (vj "int" oV) (A1<|vj "bool" oV))
def HD:oU:=(pU 1 Ot)
def X9:oZ ["thing"] ["thing"] (l_<|top 12):=pF rfl rfl rfl 'u'
def Yp(T:Txt w K mg):Callee P w K mg base "is_whole" 1 1 HD:=
 Callee.self (qj (k:=0) T.w0 X9 (λ_ _ _ _ _ _ us hl=>match us,hl with|[_],_=>rfl) λf g_ A outer s H E hr=>
  ((pG (by delta Ot;walk_at "s"))))
def OU:DS:=(o9<|F6 zc (pR tI<|e_ oV i_))
def H_:oU:=(pU 1 OU)
def Zo:oZ ["function"] ["function"] (l_<|top 19):=pF rfl rfl rfl 'u'
def Zb(T:Txt w K mg):Callee P w K mg base "switches_of" 1 1 H_:=
 Callee.self (qj (k:=0) T.w5 Zo (λ_ _ _ _ _ _ us hl=>match us,hl with|[_],_=>rfl) λf g_ A outer s H E hr=>
  ((pG (by delta OU;walk_at "s"))))
abbrev oY:=ql 1
abbrev rH:=ql 2
abbrev rW:=ql 3
def Pb:DS:=(o9<|qc Qp 2 (GQ<|e_ oV i_) (.two 2 3) [(p_<|oK (qG sW) rW oY)] [] rH)
def E1:oU:=(pU 2 Pb)
def Y_:oZ ["function", "answer"] ["function", "answer"] (l_<|top 20):=pF rfl rfl rfl 'u'
def Zp(T:Txt w K mg):Callee P w K mg base "points_with" 1 2 E1:=
 Callee.self (qj (k:=0) T.w6 Y_ (λ_ _ _ _ _ _ us hl=>match us,hl with|[_,_],_=>rfl) λf g_ A outer s H E hr=>
  (have x0:Nx ["point", "told"]:=⟨⟩;(pG (by delta Pb;walk_at "s"))))
abbrev A6:=dC<|.str []
def X_:DS:=(o3 (pX 1 (qR<|e_ A6 i_)) (o3 (xr (yV<|e_ oV i_) (.one 2) (pX 1<|qc Qp 2 (qA oY) (.one 3) [] (⟨(qA (dC<|.str [45,48,49])),(.one 4),[]⟩::[]) (oK ri rW<|ql 4)))<|o9 oY))
def HY:oU:=(pU 3 X_)
def YQ:oZ ["n", "terms", "switch"] ["n"] (l_<|top 25):=pF rfl rfl rfl 'u'
def Yy(T:Txt w K mg):Callee P w K mg base "all_terms" 1 1 HY:=
 Callee.self (qj (k:=0) T.w7 YQ (λ_ _ _ _ _ _ us hl=>match us,hl with|[_],_=>rfl) λf g_ A outer s H E hr=>
  (have x0:Nx ["term", "sign"]:=⟨⟩;(pH '2' (pH '2'<|pG '2'))))
abbrev rP:=dC<|.int 1
abbrev tF:=dC<|.int 0
abbrev AX:=dC<|.str [45]
def Xj:DS:=(o3 (qT (p_<|oK (qG sW) oV AX) (o9<|qR (e_ tF<|e_ rP i_)) qw)<|o9 (qR<|e_ (pR Ei<|e_ oV i_) i_))
def Hm:oU:=(pU 1 Xj)
def XA:oZ ["sign"] ["sign"] (l_<|top 26):=pF rfl rfl rfl 'u'
def XS(T:Txt w K mg):Callee P w K mg base "bits_of" 1 1 Hm:=
 Callee.self (qj (k:=0) T.w8 XA (λ_ _ _ _ _ _ us hl=>match us,hl with|[_],_=>rfl) λf g_ A outer s H E hr=>
  ((pH '2'<|pG '2')))
def OK:DS:=(o9 (oK ri (oK ri (ye oV xA<|vn oY) rH)<|ye oV (vn<|oK ri oY rP) xA))
def HS:oU:=(pU 3 OK)
def YW:oZ ["term", "switch", "sign"] ["term", "switch", "sign"] (l_<|top 28):=pF rfl rfl rfl 'u'
def Ye(T:Txt w K mg):Callee P w K mg base "with_sign" 1 3 HS:=
 Callee.self (qj (k:=0) T.wa YW (λ_ _ _ _ _ _ us hl=>match us,hl with|[_,_,_],_=>rfl) λf g_ A outer s H E hr=>
  ((pG (by delta OK;walk_at "s"))))
def Ov:DS:=(o9<|oK (fI A3) (pR tI<|e_ oV i_) (JV FV oV<|e_ AX i_))
def HH:oU:=(pU 1 Ov)
def X5:oZ ["term"] ["term"] (l_<|top 29):=pF rfl rfl rfl 'u'
def Yt(T:Txt w K mg):Callee P w K mg base "signs_in" 1 1 HH:=
 Callee.self (qj (k:=0) T.wb X5 (λ_ _ _ _ _ _ us hl=>match us,hl with|[_],_=>rfl) λf g_ A outer s H E hr=>
  ((pG (by delta Ov;walk_at "s"))))
def WA:DS:=xu
def EV:oU:=(pU 2 WA)
def XJ:oZ ["function", "term"] ["function", "term"] (l_<|top 34):=pF rfl rfl rfl 'u'
def OB(T:Txt w K mg):Callee P w K mg base "is_good" 1 2 EV:=
 Callee.self (qj (k:=0) T.wf XJ (λ_ _ _ _ _ _ b c=>match b,c with|[_,_],_=>rfl) λf d A a s H E e=>
  (Ao))
def O8:DS:=(o9<|qc Qp 1 (Gc oV) (.one 2) [(p_ (oK vU oY<|D3 oV rH))] [] rH)
def EX:oU:=(pU 2 O8)
def YG:oZ ["held", "one"] ["held", "one"] (l_<|top 41):=pF rfl rfl rfl 'u'
def Y4(T:Txt w K mg):Callee P w K mg base "holders_in" 1 2 EX:=
 Callee.self (qj (k:=0) T.wl YG (λ_ _ _ _ _ _ us hl=>match us,hl with|[_,_],_=>rfl) λf g_ A outer s H E hr=>
  (have x0:Nx ["term"]:=⟨⟩;(pG (by delta O8;walk_at "s"))))
def OQ:DS:=(o9<|zL (rX oV) (Bm (dC<|.str [32,43,32])<|e_ oV i_) (dC<|.str [110,111,110,101]))
def H8:oU:=(pU 1 OQ)
def YX:oZ ["form"] ["form"] (l_<|top 57):=pF rfl rfl rfl 'u'
def YF(T:Txt w K mg):Callee P w K mg base "form_text" 1 1 H8:=
 Callee.self (qj (k:=0) T.ww YX (λ_ _ _ _ _ _ us hl=>match us,hl with|[_],_=>rfl) λf g_ A outer s H E hr=>
  ((pG (by delta OQ;walk_at "s"))))
abbrev zO:=o9 (dC<|.bl Qp)
def ZM:DS:=(o3 (qT (zT (vm (rX<|vj "str" oV)) (p_<|y6 Qo zc (pR tI<|e_ oV i_))) zO qw)<|o9 (pR yk<|e_ (qc Qp 1 (qA oV) (.one 1) [] []<|uH Qp B1 oY) i_))
def B2:oU:=(pU 1 ZM)
def ZU:oZ ["thing"] ["thing"] (l_<|top 58):=pF rfl rfl rfl 'u'
def Pq(T:Txt w K mg):Callee P w K mg base "is_function_text" 1 1 B2:=
 Callee.self (qj (k:=0) T.wx ZU (λ_ _ _ _ _ _ us hl=>match us,hl with|[_],_=>rfl) λf g_ A outer s H E hr=>
  (have x0:Nx ["sign"]:=⟨⟩;(pH '2'<|pG '2')))
def O_:DS:=(o9<|zL (rX oV) (Bm (dC<|.str [32])<|e_ oV i_) (dC<|.str [110,111,110,101]))
def E5:oU:=(pU 1 O_)
def YZ:oZ ["terms"] ["terms"] (l_<|top 63):=pF rfl rfl rfl 'u'
def YI(T:Txt w K mg):Callee P w K mg base "terms_text" 1 1 E5:=
 Callee.self (qj (k:=0) T.wz YZ (λ_ _ _ _ _ _ us hl=>match us,hl with|[_],_=>rfl) λf g_ A outer s H E hr=>
  ((pG (by delta O_;walk_at "s"))))
def XI:DS:=(o3 (pX 1<|qR (e_ A6<|e_ (dC<|.str [32]) (e_ (dC<|.str [102,117,110,99,116,105,111,110])<|e_ (dC<|.str [102,117,110,99,116,105,111,110,32]) (e_ (dC<|.str [102,117,110,99,116,105,111,110,32,48])<|e_ (dC<|.str [102,117,110,99,116,105,111,110,32,48,49,49]) (e_ (dC<|.str [102,117,110,99,116,105,111,110,32,48,49,32,49])<|e_ (dC<|.str [102,117,110,99,116,105,111,110,32,48,50]) i_)))))<|o3 (pX 1 (oK ri oY<|qR (e_ (dC<|.str [102,117,110,99,116,105,111,110,32,120])<|e_ (dC<|.str [102,117,110,99,116,105,111,110,32,32,48,49]) (e_ (dC<|.str [32,102,117,110,99,116,105,111,110,32,48,49])<|e_ (dC<|.str [70,117,110,99,116,105,111,110,32,48,49]) (e_ (dC<|.str [102,117,110,99,116,105,111,110,115,32,48,49])<|e_ (dC<|.str [102,117,110,99,116,105,111,110,32,110,111,110,101]) i_))))) (o3 (pX 1<|oK ri oY (qR<|e_ (dC<|.str [111,110,101]) (e_ (dC<|.str [111,110,101,32])<|e_ (dC<|.str [111,110,101,32,120]) i_)))<|o3 (pX 1 (oK ri oY<|qR (e_ (dC<|.str [111,110,101,32,48,48])<|e_ (dC<|.str [111,110,101,32,48,49]) (e_ (dC<|.str [111,110,101,32,45,49])<|e_ (dC<|.str [111,110,101,32,48,32,49]) (e_ (dC<|.str [111,110,101,32,32,48])<|e_ (dC<|.str [111,110,101,115,32,48]) (e_ (dC<|.str [102,114,101,101])<|e_ (dC<|.str [102,114,101,101,32,97]) (e_ (dC<|.str [102,114,101,101,32,48,51])<|e_ (dC<|.str [110,111,117,103,104,116]) i_))))))) (o3 (pX 1<|oK ri oY (qR<|e_ (dC<|.str [110,111,117,103,104,116,32,45]) (e_ (dC<|.str [110,111,117,103,104,116,115,32,48])<|e_ (dC<|.str [98,97,99,107,32]) (e_ (dC<|.str [98,97,99,107,32,49])<|e_ (dC<|.str [98,97,99,107,115]) (e_ (dC<|.str [115,104,111,119,110,32])<|e_ (dC<|.str [115,104,111,119,110,32,48]) (e_ (dC<|.str [115,104,111,119])<|e_ (dC<|.str [103,114,101,97,116,101,115,116,32,48]) i_))))))<|o3 (pX 1 (oK ri oY<|qR (e_ (dC<|.str [110,101,101,100,101,100,32,45])<|e_ (dC<|.str [108,101,97,115,116,32,49]) (e_ (dC<|.str [109,97,110,121,32])<|e_ (dC<|.str [109,97,110,121,32,50]) (e_ (dC<|.str [103,111,111,100])<|e_ (dC<|.str [103,111,111,100,32,48,32,49]) (e_ (dC<|.str [103,111,111,100,115,32,45])<|e_ (dC<|.str [110,111,110,101]) (e_ (dC<|.str [48])<|e_ AX i_))))))) (o3 (pX 1 (oK ri oY<|qR (e_ (dC .non)<|e_ (dC<|.int 7) (e_ (dC<|.bl Qo)<|e_ (v9<|e_ (dC<|.str [108,101,97,115,116]) i_) (e_ (qR<|e_ (dC<|.str [108,101,97,115,116]) i_)<|e_ F1 (e_ (dC<|.str [108,101,97,115,116,10])<|e_ (v9 (e_ tF<|e_ rP i_)) i_))))))<|o9 (oK rk oY<|oK (fI yi) oV (pR tI<|e_ oY i_))))))
def y_:oU:=(pU 2 XI)
def Ys:oZ ["_law_k", "_law_some"] ["_law_k"] (l_<|top 76):=pF rfl rfl rfl 'u'
def OP(T:Txt w K mg):Callee P w K mg base "_law_bad" 1 1 y_:=
 Callee.self (qj (k:=0) T.wO Ys (λ_ _ _ _ _ _ us hl=>match us,hl with|[_],_=>rfl) λf g_ A outer s H E hr=>
  ((pH '2'<|pH '2' (pH '2'<|pH '2' (pH '2'<|pH '2' (pH '2'<|pG '2'))))))
def Pr:DS:=(o9 (zU (oM 1 HD<|e_ oV i_)<|GB Dg Dg oY oV rH))
def Iw:oU:=(pU 3 Pr)
def ZQ:oZ ["thing", "least", "most"] ["thing", "least", "most"] (l_<|top 13):=pF rfl rfl rfl 'u'
def ZT(T:Txt w K mg):Callee P w K mg base "is_whole_within" 2 3 Iw:=
 Callee.self (qj (k:=1) T.w1 ZQ (λ_ _ _ _ _ _ us hl=>match us,hl with|[_,_,_],_=>rfl) λf g_ A outer s H E hr=>
  ((pG (by delta Pr;walk_at "s"))))
abbrev uY:=e_ rH i_
def XX:DS:=(o3 (pX 1 (qR<|e_ tF i_)) (o3 (xr (qA oV) (.one 2) (pX 1<|qc Qp 2 (qA oY) (.one 3) [] (⟨(qA<|oM 1 Hm uY),(.one 4),[]⟩::[]) (oK ri (oK (fI DY) (dC<|.int 2) rW)<|ql 4)))<|o9 oY))
def Az:oU:=(pU 3 XX)
def Yd:oZ ["term", "points", "sign"] ["term"] (l_<|top 27):=pF rfl rfl rfl 'u'
def YA(T:Txt w K mg):Callee P w K mg base "points_of" 2 1 Az:=
 Callee.self (qj (k:=1) T.w9 Yd (λ_ _ _ _ _ _ us hl=>match us,hl with|[_],_=>rfl) λf g_ A outer s H E hr=>
  (have x0:Nx ["point", "bit"]:=⟨⟩;(pH '2' (pH '2'<|pG '2'))))
def Oz:DS:=(o9 (pR DU<|e_ (qc Qp 1 (qA oV) (.one 1) [] [] (oM 1 HH<|e_ oY i_)) i_))
def ET:oU:=(pU 1 Oz)
def Yn:oZ ["form"] ["form"] (l_<|top 40):=pF rfl rfl rfl 'u'
def Yv(T:Txt w K mg):Callee P w K mg base "signs_of" 2 1 ET:=
 Callee.self (qj (k:=1) T.wk Yn (λ_ _ _ _ _ _ us hl=>match us,hl with|[_],_=>rfl) λf g_ A outer s H E hr=>
  (have x0:Nx ["term"]:=⟨⟩;(pG (by delta Oz;walk_at "s"))))
def NA(Pt:Nat)(F:oU):DS:=(o3 (qT (vm<|rX oY) (o9 (qR<|e_ (v9 i_) i_)) qw) (o3 (qT (p_<|oK (qG sW) rH tF) (o9<|qR i_) qw)<|o3 (pX 3<|Bb Pt 8 oY (pR tI<|e_ (oM 2 EX (e_ oV<|e_ (ql 9) i_)) i_)) (o3 (pX 4<|Gh i_)<|Gi 5 6 7 oV (qA<|oM 2 EX (e_ oV<|e_ rW i_)) (qc Qp 1 (qA oY) (.one 9) [(p_<|oK AY (ql 9) (D3 oV<|ql 6))] []<|ql 9) (F0 (ql 4)<|e_ (qc Qp 1 (qA (sC Pt 8 3 F<|e_ (ql 5) (e_ (ql 7)<|e_ (oK (fI A3) rH rP) i_))) (.one 9) [] [] (oK ri (v9<|e_ (ql 6) i_)<|ql 9)) i_) (o9<|ql 4))))
def Ho(Pt:Nat):Nat->oU
 |0=>λ_ _=>.bad
 |k+1=>Kc<|sk 9 8 Pt (NA Pt<|Ho Pt k)
def NR:oZ ["held", "wanted", "many", "hardest", "found", "rest", "term", "left", "<tab>"] ["held", "wanted", "many"] (l_<|top 42):=pF rfl rfl rfl 'u'
theorem Oh{c Pt:af}(T:Txt w K mg)(hT:tJ K mg "covers" (top 42) c)(L:qJ mg base c Pt):∀k,nD P w K mg base "covers" (4+k) 3 Pt<|Ho Pt k
 |0=>nD.bad (F:=sk 9 8 Pt xu) (Kg (k:=3) (i:=8) (z := "<tab>") hT NR rfl (um 'u') (λ_ _ _ _ _ _ us hl=>match us,hl with|[_,_,_],_=>rfl) λf A outer s H E hr=>Ao)
 | k+1=>nD.frz (Kg (k:=4+k) (i:=8) (z := "<tab>") hT NR rfl (um 'u') (λ_ _ _ _ _ _ us hl=>match us,hl with|[_,_,_],_=>rfl) λf A outer s H E hr=>
  have c_self:=Oh T hT L k
  (have x0:Nx ["one"]:=⟨⟩;have x1:Nx ["cover"]:=⟨⟩;(by unfold NA;walk_at "ss")))
def EM(Pt:Nat):oU:=Ho Pt 20
def WW{c Pt:af}(T:Txt w K mg)(a:tJ K mg "covers" (top 42) c)(L:qJ mg base c Pt):nD P w K mg base "covers" 24 3 Pt (EM Pt):=Oh T a L 20
def Zz:DS:=(o3 (qT (vm<|rX (oM 1 B2<|e_ oV i_)) xu qw)<|o9 (pR Bu<|e_ (qc Qp 1 (qA oV) (.one 1) [] []<|xB B1 oY) i_))
def E6:oU:=(pU 1 Zz)
def ZE:oZ ["text"] ["text"] (l_<|top 59):=pF rfl rfl rfl 'u'
def Pp(T:Txt w K mg):Callee P w K mg base "read_function" 2 1 E6:=
 Callee.self (qj (k:=1) T.wy ZE (λ_ _ _ _ _ _ us hl=>match us,hl with|[_],_=>rfl) λf g_ A outer s H E hr=>
  (have x0:Nx ["sign"]:=⟨⟩;(pH '2'<|pG '2')))
def OL:DS:=(o9<|FK (oK Ga oV<|dC .non) (oM 3 Iw<|e_ oV (e_ tF<|e_ rP i_)))
def HV:oU:=(pU 1 OL)
def Yz:oZ ["thing"] ["thing"] (l_<|top 16):=pF rfl rfl rfl 'u'
def YB(T:Txt w K mg):Callee P w K mg base "is_answer" 3 1 HV:=
 Callee.self (qj (k:=2) T.w2 Yz (λ_ _ _ _ _ _ us hl=>match us,hl with|[_],_=>rfl) λf g_ A outer s H E hr=>
  ((pG (by delta OL;walk_at "s"))))
def Pf:DS:=(o9<|qc Qp 1 (qA oV) (.one 2) [(p_ (oK vU oY<|oM 1 Az uY))] [] rH)
def Ig:oU:=(pU 2 Pf)
def ZO:oZ ["terms", "point"] ["terms", "point"] (l_<|top 30):=pF rfl rfl rfl 'u'
def ZF(T:Txt w K mg):Callee P w K mg base "terms_holding" 3 2 Ig:=
 Callee.self (qj (k:=2) T.wc ZO (λ_ _ _ _ _ _ us hl=>match us,hl with|[_,_],_=>rfl) λf g_ A outer s H E hr=>
  (have x0:Nx ["term"]:=⟨⟩;(pG (by delta Pf;walk_at "s"))))
def Pu:DS:=(o9 (pR yk<|e_ (qc Qp 1 (qA (oM 1 Az<|e_ oY i_)) (.one 2) [] []<|oK (qG xj) (oK rk oV rH) tF) i_))
def E8:oU:=(pU 2 Pu)
def ZR:oZ ["function", "term"] ["function", "term"] (l_<|top 32):=pF rfl rfl rfl 'u'
def ZS(T:Txt w K mg):Callee P w K mg base "holds_no_nought" 3 2 E8:=
 Callee.self (qj (k:=2) T.wd ZR (λ_ _ _ _ _ _ us hl=>match us,hl with|[_,_],_=>rfl) λf g_ A outer s H E hr=>
  (have x0:Nx ["point"]:=⟨⟩;(pG (by delta Pu;walk_at "s"))))
def Ph:DS:=(o9 (pR AZ<|e_ (qc Qp 1 (qA (oM 1 Az<|e_ oY i_)) (.one 2) [] []<|oK (qG sW) (oK rk oV rH) rP) i_))
def H9:oU:=(pU 2 Ph)
def Za:oZ ["function", "term"] ["function", "term"] (l_<|top 33):=pF rfl rfl rfl 'u'
def Zn(T:Txt w K mg):Callee P w K mg base "holds_a_one" 3 2 H9:=
 Callee.self (qj (k:=2) T.we Za (λ_ _ _ _ _ _ us hl=>match us,hl with|[_,_],_=>rfl) λf g_ A outer s H E hr=>
  (have x0:Nx ["point"]:=⟨⟩;(pG (by delta Ph;walk_at "s"))))
def Y5(Pt:Nat):DS:=(o3 (pX 2 tF) (o3 (pX 3<|sC Pt 5 3 (EM Pt) (e_ oV<|e_ oY uY))<|o3 (GU 20 (vm<|rX rW)<|o3 (DB 2 rP) (pX 3<|sC Pt 5 3 (EM Pt) (e_ oV<|e_ oY uY))) (o3 (pX 4 (pR D_<|e_ (qc Qp 1 (qA rW) (.one 6) [] [] (oM 1 ET<|e_ (ql 6) i_)) i_))<|o9 (pR Ef<|e_ (qc Qp 1 (qA rW) (.one 6) [(p_ (oK (qG sW) (oM 1 ET<|e_ (ql 6) i_)<|ql 4))] [] (pR Bu<|e_ (pR Ee<|e_ (ql 6) i_) i_)) i_))))
def Iu(Pt:Nat):oU:=(sk 6 5 Pt<|Y5 Pt)
def Zs:oZ ["held", "wanted", "many", "found", "fewest", "<tab>"] ["held", "wanted"] (l_<|top 43):=pF rfl rfl rfl 'u'
def Zt{c Pt:af}(T:Txt w K mg)(hT:tJ K mg "covers" (top 42) c)(L:qJ mg base c Pt):nD P w K mg base "least_covers" 25 2 Pt (Iu Pt):=
 nD.self (AR (k:=24) (i:=5) (z := "<tab>") T.wn Zs rfl (um 'u') (λ_ _ _ _ _ _ us hl=>match us,hl with|[_,_],_=>rfl) λf g_ A outer s H E hr=>
  (have x0:Nx ["cover"]:=⟨⟩;(pH '2' (pH '2'<|pH '2' (pH '2'<|pG '2')))))
def YK:DS:=(o3 (qT (zT (vm (rX<|vj "tuple" oV)) (p_<|y6 Qo zc (pR tI<|e_ oV i_))) zO qw)<|o9 (pR yk<|e_ (qc Qp 1 (qA oV) (.one 1) [] [] (oM 1 HV<|e_ oY i_)) i_))
def Ia:oU:=(pU 1 YK)
def Y9:oZ ["thing"] ["thing"] (l_<|top 17):=pF rfl rfl rfl 'u'
def Zl(T:Txt w K mg):Callee P w K mg base "is_function" 4 1 Ia:=
 Callee.self (qj (k:=3) T.w3 Y9 (λ_ _ _ _ _ _ us hl=>match us,hl with|[_],_=>rfl) λf g_ A outer s H E hr=>
  (have x0:Nx ["answer"]:=⟨⟩;(pH '2'<|pG '2')))
def Pk:DS:=(o9 (zU (oK (qG xj) (oK rk oY rH) AX)<|oM 2 E8 (e_ oV<|e_ (oM 3 HS<|e_ oY (e_ rH<|e_ AX i_)) i_)))
def Im:oU:=(pU 3 Pk)
def Zv:oZ ["function", "term", "switch"] ["function", "term", "switch"] (l_<|top 36):=pF rfl rfl rfl 'u'
def Zu(T:Txt w K mg):Callee P w K mg base "can_widen_at" 4 3 Im:=
 Callee.self (qj (k:=3) T.wh Zv (λ_ _ _ _ _ _ us hl=>match us,hl with|[_,_,_],_=>rfl) λf g_ A outer s H E hr=>
  ((pG (by delta Pk;walk_at "s"))))
def Zr:DS:=(o3 (pX 2 (qc Qp 1 (qA oV) (.one 3) [] []<|v9 (e_ rW<|e_ (oM 2 Ig (e_ oY<|e_ rW i_)) i_)))<|o9 (qc Qp 2 (qA rH) (.two 3 4) [(p_<|oK (qG sW) (pR tI<|e_ (ql 4) i_) rP)] []<|v9 (e_ rW<|e_ (oK rk (ql 4) tF) i_)))
def Ir:oU:=(pU 3 Zr)
def Zw:oZ ["points", "terms", "holders"] ["points", "terms"] (l_<|top 49):=pF rfl rfl rfl 'u'
def ZD(T:Txt w K mg):Callee P w K mg base "sole_holders" 4 2 Ir:=
 Callee.self (qj (k:=3) T.ws Zw (λ_ _ _ _ _ _ us hl=>match us,hl with|[_,_],_=>rfl) λf g_ A outer s H E hr=>
  (have x0:Nx ["point"]:=⟨⟩;have x1:Nx ["point", "held_by"]:=⟨⟩;(pH '2'<|pG '2')))
def Pe:DS:=(qT (vm<|rX (oM 1 Ia<|e_ oV i_)) xu qw)
def E7:oU:=(pU 1 Pe)
def ZJ:oZ ["thing"] ["thing"] (l_<|top 18):=pF rfl rfl rfl 'u'
def ZG(T:Txt w K mg):Callee P w K mg base "need_function" 5 1 E7:=
 Callee.self (qj (k:=4) T.w4 ZJ (λ_ _ _ _ _ _ us hl=>match us,hl with|[_],_=>rfl) λf g_ A outer s H E hr=>
  ((pG (by delta Pe;walk_at "s"))))
def OM:DS:=(o9<|A1 (pR AZ<|e_ (qc Qp 1 (yV<|e_ (pR tI<|e_ oY i_) i_) (.one 2) [] []<|oM 3 Im (e_ oV<|e_ oY uY)) i_))
def HX:oU:=(pU 2 OM)
def YR:oZ ["function", "term"] ["function", "term"] (l_<|top 37):=pF rfl rfl rfl 'u'
def YD(T:Txt w K mg):Callee P w K mg base "is_widest" 5 2 HX:=
 Callee.self (qj (k:=4) T.wi YR (λ_ _ _ _ _ _ us hl=>match us,hl with|[_,_],_=>rfl) λf g_ A outer s H E hr=>
  (have x0:Nx ["switch"]:=⟨⟩;(pG (by delta OM;walk_at "s"))))
def Pc:DS:=(o9<|Bi Qp 2 (qA<|oM 2 Ir (e_ oV<|e_ oY i_)) (.two 2 3) [] [] rW)
def Ik:oU:=(pU 2 Pc)
def Y8:oZ ["points", "terms"] ["points", "terms"] (l_<|top 50):=pF rfl rfl rfl 'u'
def Zk(T:Txt w K mg):Callee P w K mg base "terms_alone" 5 2 Ik:=
 Callee.self (qj (k:=4) T.wt Y8 (λ_ _ _ _ _ _ us hl=>match us,hl with|[_,_],_=>rfl) λf g_ A outer s H E hr=>
  (have x0:Nx ["point", "term"]:=⟨⟩;(pG (by delta Pc;walk_at "s"))))
def Yb:DS:=(o3 (v_ (oM 1 E7<|e_ oV i_)) (o9<|qc Qp 1 (qA (oM 1 HY<|e_ (oM 1 H_<|e_ oV i_) i_)) (.one 1) [(rX<|oM 2 E8 (e_ oV<|e_ oY i_))] [] oY))
def HN:oU:=(pU 1 Yb)
def YM:oZ ["function"] ["function"] (l_<|top 35):=pF rfl rfl rfl 'u'
def YH(T:Txt w K mg):Callee P w K mg base "good_terms" 6 1 HN:=
 Callee.self (qj (k:=5) T.wg YM (λ_ _ _ _ _ _ us hl=>match us,hl with|[_],_=>rfl) λf g_ A outer s H E hr=>
  (have x0:Nx ["term"]:=⟨⟩;(pH '2'<|pG '2')))
def ZA:DS:=(o3 (v_ (oM 1 E7<|e_ oV i_))<|o9 (Bm A6<|e_ (qc Qp 1 (qA oV) (.one 1) [] []<|xB Ii oY) i_))
def Ih:oU:=(pU 1 ZA)
def ZH:oZ ["function"] ["function"] (l_<|top 56):=pF rfl rfl rfl 'u'
def ZI(T:Txt w K mg):Callee P w K mg base "function_text" 6 1 Ih:=
 Callee.self (qj (k:=5) T.wv ZH (λ_ _ _ _ _ _ us hl=>match us,hl with|[_],_=>rfl) λf g_ A outer s H E hr=>
  (have x0:Nx ["answer"]:=⟨⟩;(pH '2'<|pG '2')))
def OD:DS:=(o9<|qc Qp 1 (qA (oM 1 HN<|e_ oV i_)) (.one 1) [(A9 (rX<|oM 2 H9 (e_ oV<|e_ oY i_)) (rX<|oM 2 HX (e_ oV<|e_ oY i_)))] [] oY)
def BP:oU:=(pU 1 OD)
def Yu:oZ ["function"] ["function"] (l_<|top 38):=pF rfl rfl rfl 'u'
def Yo(T:Txt w K mg):Callee P w K mg base "greatest" 7 1 BP:=
 Callee.self (qj (k:=6) T.wj Yu (λ_ _ _ _ _ _ us hl=>match us,hl with|[_],_=>rfl) λf g_ A outer s H E hr=>
  (have x0:Nx ["term"]:=⟨⟩;(pG (by delta OD;walk_at "s"))))
def OG:DS:=(o9 (oM 1 Ih<|e_ oV i_))
def HP:oU:=(pU 1 OG)
def YT:oZ ["function"] ["function"] (l_<|top 64):=pF rfl rfl rfl 'u'
def OW(T:Txt w K mg):Callee P w K mg base "say_shown" 7 1 HP:=
 Callee.self (qj (k:=6) T.wA YT (λ_ _ _ _ _ _ us hl=>match us,hl with|[_],_=>rfl) λf g_ A outer s H E hr=>
  ((pG (by delta OG;walk_at "s"))))
def OT:DS:=(o9<|Bv 1 (qA (oM 1 BP<|e_ oV i_)) (.one 1) [] [] oY (oM 1 Az<|e_ oY i_))
def Il:oU:=(pU 1 OT)
def Zc:oZ ["function"] ["function"] (l_<|top 44):=pF rfl rfl rfl 'u'
def Zm(T:Txt w K mg):Callee P w K mg base "held_points" 8 1 Il:=
 Callee.self (qj (k:=7) T.wo Zc (λ_ _ _ _ _ _ us hl=>match us,hl with|[_],_=>rfl) λf g_ A outer s H E hr=>
  (have x0:Nx ["term"]:=⟨⟩;(pG (by delta OT;walk_at "s"))))
def VZ:DS:=(o3 (pX 1 (oM 1 BP<|e_ oV i_)) (o9<|oM 2 Ik (e_ (oM 2 E1 (e_ oV<|e_ rP i_))<|e_ oY i_)))
def Hb:oU:=(pU 2 VZ)
def WS:oZ ["function", "terms"] ["function"] (l_<|top 51):=pF rfl rfl rfl 'u'
def Xl(T:Txt w K mg):Callee P w K mg base "needed" 8 1 Hb:=
 Callee.self (qj (k:=7) T.wu WS (λ_ _ _ _ _ _ us hl=>match us,hl with|[_],_=>rfl) λf g_ A outer s H E hr=>
  ((pH '2'<|pG '2')))
def Pl:DS:=(o9 (oM 1 E5<|e_ (oM 1 BP<|e_ oV i_) i_))
def Ip:oU:=(pU 1 Pl)
def Zy:oZ ["function"] ["function"] (l_<|top 65):=pF rfl rfl rfl 'u'
def Pm(T:Txt w K mg):Callee P w K mg base "say_greatest" 8 1 Ip:=
 Callee.self (qj (k:=7) T.wB Zy (λ_ _ _ _ _ _ us hl=>match us,hl with|[_],_=>rfl) λf g_ A outer s H E hr=>
  ((pG (by delta Pl;walk_at "s"))))
def Pd(Pt:Nat):DS:=(o9<|sC Pt 1 2 (Iu Pt) (e_ (oM 1 Il<|e_ oV i_)<|e_ (oM 2 E1 (e_ oV<|e_ rP i_)) i_))
def EZ(Pt:Nat):oU:=(sk 2 1 Pt<|Pd Pt)
def Y6:oZ ["function", "<tab>"] ["function"] (l_<|top 45):=pF rfl rfl rfl 'u'
def Zq{c Pt:af}(T:Txt w K mg)(hT:tJ K mg "covers" (top 42) c)(L:qJ mg base c Pt):nD P w K mg base "least_forms" 26 1 Pt (EZ Pt):=
 nD.self (AR (k:=25) (i:=1) (z := "<tab>") T.wp Y6 rfl (um 'u') (λ_ _ _ _ _ _ us hl=>match us,hl with|[_],_=>rfl) λf g_ A outer s H E hr=>
  ((pG (by delta Pd;walk_at "s"))))
def O7:DS:=(o9 (oM 1 E5<|e_ (oM 1 Hb<|e_ oV i_) i_))
def HM:oU:=(pU 1 O7)
def YL:oZ ["function"] ["function"] (l_<|top 66):=pF rfl rfl rfl 'u'
def OV(T:Txt w K mg):Callee P w K mg base "say_needed" 9 1 HM:=
 Callee.self (qj (k:=8) T.wC YL (λ_ _ _ _ _ _ us hl=>match us,hl with|[_],_=>rfl) λf g_ A outer s H E hr=>
  ((pG (by delta O7;walk_at "s"))))
def OZ(Pt:Nat):DS:=(o9<|oK rk (sC Pt 1 1 (EZ Pt)<|e_ oV i_) tF)
def HI(Pt:Nat):oU:=(sk 2 1 Pt<|OZ Pt)
def YN:oZ ["function", "<tab>"] ["function"] (l_<|top 46):=pF rfl rfl rfl 'u'
def Zi{c Pt:af}(T:Txt w K mg)(hT:tJ K mg "covers" (top 42) c)(L:qJ mg base c Pt):nD P w K mg base "least_form" 27 1 Pt (HI Pt):=
 nD.self (AR (k:=26) (i:=1) (z := "<tab>") T.wq YN rfl (um 'u') (λ_ _ _ _ _ _ us hl=>match us,hl with|[_],_=>rfl) λf g_ A outer s H E hr=>
  ((pG (by delta OZ;walk_at "s"))))
def OY(Pt:Nat):DS:=(o9 (pR tI<|e_ (sC Pt 1 1 (EZ Pt)<|e_ oV i_) i_))
def HL(Pt:Nat):oU:=(sk 2 1 Pt<|OY Pt)
def YY:oZ ["function", "<tab>"] ["function"] (l_<|top 47):=pF rfl rfl rfl 'u'
def Y3{c Pt:af}(T:Txt w K mg)(hT:tJ K mg "covers" (top 42) c)(L:qJ mg base c Pt):nD P w K mg base "least_many" 27 1 Pt (HL Pt):=
 nD.self (AR (k:=26) (i:=1) (z := "<tab>") T.wr YY rfl (um 'u') (λ_ _ _ _ _ _ us hl=>match us,hl with|[_],_=>rfl) λf g_ A outer s H E hr=>
  ((pG (by delta OY;walk_at "s"))))
def OE(Pt:Nat):DS:=(o9 (oM 1 H8<|e_ (sC Pt 1 1 (HI Pt)<|e_ oV i_) i_))
def HW(Pt:Nat):oU:=(sk 2 1 Pt<|OE Pt)
def Yi:oZ ["function", "<tab>"] ["function"] (l_<|top 67):=pF rfl rfl rfl 'u'
def O9{c Pt:af}(T:Txt w K mg)(hT:tJ K mg "covers" (top 42) c)(L:qJ mg base c Pt):nD P w K mg base "say_least" 28 1 Pt (HW Pt):=
 nD.self (AR (k:=27) (i:=1) (z := "<tab>") T.wD Yi rfl (um 'u') (λ_ _ _ _ _ _ us hl=>match us,hl with|[_],_=>rfl) λf g_ A outer s H E hr=>
  ((pG (by delta OE;walk_at "s"))))
def Oq(Pt:Nat):DS:=(o9 (pR z5<|e_ (sC Pt 1 1 (HL Pt)<|e_ oV i_) i_))
def HE(Pt:Nat):oU:=(sk 2 1 Pt<|Oq Pt)
def XY:oZ ["function", "<tab>"] ["function"] (l_<|top 68):=pF rfl rfl rfl 'u'
def ON{c Pt:af}(T:Txt w K mg)(hT:tJ K mg "covers" (top 42) c)(L:qJ mg base c Pt):nD P w K mg base "say_many" 28 1 Pt (HE Pt):=
 nD.self (AR (k:=27) (i:=1) (z := "<tab>") T.wE XY rfl (um 'u') (λ_ _ _ _ _ _ us hl=>match us,hl with|[_],_=>rfl) λf g_ A outer s H E hr=>
  ((pG (by delta Oq;walk_at "s"))))
end
set_option hygiene false in
local macro_rules|`(tactic| walk_at "v")=>`(tactic| first|exact .inl rfl|exact .inr (.inl rfl)|exact .inr (.inr rfl))
set_option hygiene false in
local macro_rules|`(tactic| walk_at "l")=>`(tactic| first|exact .inl rfl|exact .inr rfl)
set_option hygiene false in
local macro_rules|`(tactic| walk_at "le")=>`(tactic| first|decide|exact ay _|lia)
set_option hygiene false in
local macro_rules|`(tactic| walk_at "fx")=>`(tactic| first|refine GR h (va rfl yq) hr '3' rfl ?_<;>walk_at "a"|refine GR h (va rfl BB) hr '3' rfl ?_<;>walk_at "a"|refine Vl h hr '3' rfl ?_<;>walk_at "a")
set_option hygiene false in
local macro_rules|`(tactic| walk_at "f")=>`(tactic| first|((with_reducible show PD _ _ _ (oM _ (rY y_) _));have h:=(@OP P w K mg base T).toX (Cl:=Cl);walk_at "fx")|((with_reducible show PD _ _ _ (oM _ (rY B2) _));have h:=(@Pq P w K mg base T).toX (Cl:=Cl);walk_at "fx")|((with_reducible show PD _ _ _ (oM _ (rY EV) _));have h:=(@OB P w K mg base T).toX (Cl:=Cl);walk_at "fx")|((with_reducible show PD _ _ _ (oM _ (rY E6) _));have h:=(@Pp P w K mg base T).toX (Cl:=Cl);walk_at "fx")|((with_reducible show PD _ _ _ (oM _ HB _));have h:=@XW P w K mg base T B;walk_at "fx")|((with_reducible show PD _ _ _ (oM _ HK _));have h:=@Zd P w K mg base T B;walk_at "fx")|((with_reducible show PD _ _ _ (oM _ F_Desk___init__ _));have h:=@Po P w K mg base T B;walk_at "fx")|((with_reducible show PD _ _ _ (oM _ HR _));have h:=@YV P w K mg base T B;walk_at "fx")|((with_reducible show PD _ _ _ (oM _ _ _));have h:=c_self;walk_at "fx"))
set_option hygiene false in
local macro_rules|`(tactic| walk_at "k")=>`(tactic| first|exact Lw|exact LB _ rfl|exact Lf|exact Kx)
set_option hygiene false in
local macro_rules|`(tactic| walk_at "n")=>`(tactic| first|exact Bx T.wc1|exact Bx T.wd1|exact Bx T.we1)
set_option hygiene false in
local macro_rules|`(tactic| walk_at "o")=>`(tactic| first|((with_reducible show PD _ _ _ (oK ri _ _));refine Lm ?_ ?_<;>walk_at "e")|((with_reducible show PD _ _ _ (oK rk _ _));exact Ky '1' '1' (λ_ _=>rfl))|((with_reducible show PD _ _ _ (oK y0 _ _));refine Uk ?_ ?_<;>walk_at "e")|((with_reducible show PD _ _ _ (oK (fI yi) _ _));refine z_ Lz MP ?_ ?_<;>walk_at "e")|((with_reducible show PD _ _ _ (oK (qG sW) _ _));exact yz (EE hr.units) xF '1' '1' (yy _))|((with_reducible show PD _ _ _ (oK (qG xj) _ _));exact yz (G3 hr.units) xF '1' '1' (yy _))|((with_reducible show PD _ _ _ (oK vU _ _));exact yz (Ew hr.units) Eu '1' '1' rfl)|((with_reducible show PD _ _ _ (uH false AA _));refine Lh T.wg1 rfl ?_<;>walk_at "e")|((with_reducible show PD _ _ _ (uH true Ay _));refine Um T.wh1 rfl ?_<;>walk_at "e"))
set_option hygiene false in
local macro_rules|`(tactic| walk_at "c")=>`(tactic| first|((with_reducible show PD _ _ _ (pR tI _));refine xJ Nz Lj rfl T.w51 Lq ?_<;>walk_at "a")|((with_reducible show PD _ _ _ (pR yk _));refine xJ (NV rfl) Li rfl T.wY Lo ?_<;>walk_at "a")|((with_reducible show PD _ _ _ (pR z5 _));refine EO OX ME rfl T.w91 Ey ?_<;>walk_at "a")|((with_reducible show PD _ _ _ (vj "str" _));exact Br '1' (by decide) rfl T.w41 tY rfl T.w91 Ey)|((with_reducible show PD _ _ _ (ro B0 _));exact xI (f:=B0) '1' rfl T.w41 tY rfl T.wp1 T.wz1 (Z5 T))|((with_reducible show PD _ _ _ (ro BZ _));exact xI (f:=BZ) '1' rfl T.w41 tY rfl T.ws1 T.wC1 (Z4 T))|((with_reducible show PD _ _ _ (ro BY _));exact xI (f:=BY) '1' rfl T.w41 tY rfl T.wo1 T.wy1 (Z3 T))|((with_reducible show PD _ _ _ (ro BX _));exact xI (f:=BX) '1' rfl T.w41 tY rfl T.wk1 T.wu1 (Z2 T))|((with_reducible show PD _ _ _ (ro BW _));exact xI (f:=BW) '1' rfl T.w41 tY rfl T.wr1 T.wB1 (Z1 T))|((with_reducible show PD _ _ _ (ro BV _));exact xI (f:=BV) '1' rfl T.w41 tY rfl T.wn1 T.wx1 (Z0 T))|((with_reducible show PD _ _ _ (ro BU _));exact xI (f:=BU) '1' rfl T.w41 tY rfl T.wm1 T.ww1 (ZZ T))|((with_reducible show PD _ _ _ (ro BS _));exact xI (f:=BS) '1' rfl T.w41 tY rfl T.wl1 T.wv1 (ZY T))|((with_reducible show PD _ _ _ (ro BR _));exact xI (f:=BR) '1' rfl T.w41 tY rfl T.wq1 T.wA1 (ZX T))|((with_reducible show PD _ _ _ (ro BQ _));exact U1 (x := "ValueError") (n := "ValueError") (f:=BQ) '1' rfl T.w41 tY rfl T.wX YJ T.wD1 (ZW T))|((with_reducible show PD _ _ _ (Av _ _ _ _ _ _ _));exact SH T hr L rfl (Rt (by kernel_rfl)) rfl (λ_ _ _ _ _ _=>rfl) (λq lam cd cl A outer s H E hr=>'1') rfl)|((with_reducible show PD _ _ _ (rZ _ _ _ _ (vq _) _ _));first|exact xK (HZ T B hT rN) T.wQ (va rfl yq) hr '3' '1' '4'|exact xK (HZ T B hT rN) T.wQ (va rfl BB) hr '3' '1' '4'|exact xK (E:=E0) (HZ T B hT rN) T.wQ Au hr '3' '1' '4')|((with_reducible show PD _ _ _ (rZ _ _ _ _ (Ij _) _ _));first|exact xK (Iv T B hT rN) T.wQ (va rfl yq) hr '3' '1' '4'|exact xK (Iv T B hT rN) T.wQ (va rfl BB) hr '3' '1' '4'|exact xK (E:=E0) (Iv T B hT rN) T.wQ Au hr '3' '1' '4')|((with_reducible show PD _ _ _ (rZ _ _ _ _ (Ic _) _ _));first|exact xK (Iq T B hT rN) T.wQ (va rfl yq) hr '3' '1' '4'|exact xK (Iq T B hT rN) T.wQ (va rfl BB) hr '3' '1' '4'|exact xK (E:=E0) (Iq T B hT rN) T.wQ Au hr '3' '1' '4')|((with_reducible show PD _ _ _ (rZ _ _ _ _ (HU _) _ _));first|exact Ht (HJ T B hT rN) T.wQ (va rfl yq) hr '3' '1'|exact Ht (HJ T B hT rN) T.wQ (va rfl BB) hr '3' '1'|exact Ht (E:=E0) (HJ T B hT rN) T.wQ Au hr '3' '1')|((with_reducible show PD _ _ _ (Bl _));exact Uz (Po T) (va rfl yq) hr '3' rfl T.wR)|((with_reducible show PD _ _ _ (Ep _ _ _ _ _ _));refine VY rfl (by walk_at "v") (BI (nU.adr ((OW T).toX (Cl:=Cl)).toT T.wS '3') (BI (nU.adr ((Pm T).toX (Cl:=Cl)).toT T.wT '3') (BI (nU.adr ((OV T).toX (Cl:=Cl)).toT T.wU '3') (BI (nU.adr ((O9 T hT rN).toT (Cl:=Cl)) T.wV '3') (BI (nU.adr ((ON T hT rN).toT (Cl:=Cl)) T.wW '3') V5))))) (va rfl yq) hr ?_<;>walk_at "a"))
set_option hygiene false in
local macro_rules|`(tactic| walk_at "so")=>`(tactic| first|((with_reducible show xo _ _ _ xA);exact Nb)|refine M8 ?_<;>walk_at "e")
set_option hygiene false in
local macro_rules|`(tactic| walk_at "m")=>`(tactic| first|((with_reducible show PD _ _ _ (Al _ _));refine Xh T.wQ ?_<;>walk_at "e")|((with_reducible show PD _ _ _ (FY _ _));exact W6 '1' '4')|((with_reducible show PD _ _ _ (F9 _ _));exact Uu hr.units '1' '4')|((with_reducible show PD _ _ _ (GN _ _));exact VW '1' '4')|((with_reducible show PD _ _ _ (ye _ _ _));exact Ku '1' (by walk_at "so") (by walk_at "so"))|((with_reducible show PD _ _ _ (DF _ _ _));exact T9 '1' (by walk_at "so") (by walk_at "so"))|((with_reducible show PD _ _ _ (xB AA _));exact Ez T.wg1 rfl '1' (λ_ _=>rfl))|((with_reducible show PD _ _ _ (xB Ay _));exact Ez T.wh1 rfl '1' (λ_ _=>rfl)))
set_option hygiene false in
local macro_rules|`(tactic| walk_at "e1")=>`(tactic| first|((with_reducible show PD _ _ _ (ql _));refine LQ rfl ?_<;>walk_at "v")|((with_reducible show PD _ _ _ (dC _));first|walk_at "k"|walk_at "n")|((with_reducible show PD _ _ _ (oK _ _ _));walk_at "o")|((with_reducible show PD _ _ _ (oM _ _ _));walk_at "f")|((with_reducible show PD _ _ _ (qR _));refine Lr ?_<;>walk_at "a")|((with_reducible show PD _ _ _ (v9 _));refine LK ?_<;>walk_at "a")|((with_reducible show PD _ _ _ (qc _ _ _ _ _ _ _));first|exact EL x0 _ rfl (ur (by kernel_rfl)) '5' (λ_ _ _ _ _=>⟨'6','7','8','1'⟩)|exact EL x1 _ rfl (ur (by kernel_rfl)) '5' (λ_ _ _ _ _=>⟨'6','7','8','1'⟩))|((with_reducible show PD _ _ _ (pR _ _));walk_at "c")|((with_reducible show PD _ _ _ (zU _ _));refine K9 ?_ ?_<;>walk_at "e")|((with_reducible show PD _ _ _ (FK _ _));refine K1 ?_ ?_<;>walk_at "e")|((with_reducible show PD _ _ _ (A1 _));refine Ll ?_<;>walk_at "e")|((with_reducible show PD _ _ _ (A0 _));refine Sz ?_<;>walk_at "e")|((with_reducible show PD _ _ _ (zL _ _ _));exact ND '9' '1' '1')|walk_at "c"|walk_at "m"|walk_at "o")
set_option hygiene false in
local macro_rules|`(tactic| walk_at "e")=>`(tactic| first|(show PD _ _ (.BoolOp _ [_] _) _;refine K6 ?_<;>walk_at "e1")|walk_at "e1")
set_option hygiene false in
local macro_rules|`(tactic| walk_at "a")=>`(tactic| first|((with_reducible show qW _ _ _ i_);exact MI)|exact M9 '1' '4')
set_option hygiene false in
local macro_rules|`(tactic| walk_at "t")=>`(tactic| first|((with_reducible show pO _ _ _ (p_ (oK (qG sW) _ _)));exact Ak (EE hr.units) xF '1' '1' (yy _))|((with_reducible show pO _ _ _ (p_ (oK (qG xj) _ _)));exact Ak (G3 hr.units) xF '1' '1' (yy _))|((with_reducible show pO _ _ _ (p_ (oK vU _ _)));exact Ak (Ew hr.units) Eu '1' '1' rfl)|((with_reducible show pO _ _ _ (p_ (uH false AA _)));refine Uq T.wg1 rfl ?_<;>walk_at "e")|((with_reducible show pO _ _ _ (p_ (uH true Ay _)));refine V4 T.wh1 rfl ?_<;>walk_at "e")|(show pO _ _ (.BoolOp _ _ _) _;refine sT.pt ?_<;>walk_at "w")|((with_reducible show pO _ _ _ (vm _));refine Ma ?_<;>walk_at "t")|((with_reducible show pO _ _ _ (rX _));exact Ms '1' (λ_=>rfl)))
set_option hygiene false in
local macro_rules|`(tactic| walk_at "w")=>`(tactic| first|(show sT _ _ (.BoolOp .And [_] _) _;refine Nh ?_<;>walk_at "t")|(show sT _ _ (.BoolOp .Or [_] _) _;refine LX ?_<;>walk_at "t")|((with_reducible show sT _ _ _ (A9 _ _));exact MC '9' (by walk_at "w"))|((with_reducible show sT _ _ _ (zT _ _));exact Ld '9' (by walk_at "w")))
set_option hygiene false in
local macro_rules|`(tactic| walk_at "i")=>`(tactic| first|((with_reducible show rn _ _ _ _ (yV _));refine Ox rfl T.w71 ?_<;>walk_at "a")|refine Mr ?_<;>walk_at "e")
set_option hygiene false in
local macro_rules|`(tactic| walk_at "g")=>`(tactic| first|(show PG _ (.Name _ _) _;refine LU (sH (by kernel_rfl)) rfl ?_ ?_<;>walk_at "l")|(show PG _ (.Tuple [_,_] _ _) _;refine LJ rfl (sH (by kernel_rfl)) rfl rfl ?_ ?_ ?_ ?_<;>walk_at "l"))
set_option hygiene false in
local macro_rules|`(tactic| walk_at "fs")=>`(tactic| first|exact .nil|exact .cons '9' '7')
set_option hygiene false in
local macro_rules|`(tactic| walk_at "cs")=>`(tactic| first|exact .nil|(refine nQ.cons ?_ (λ_=>rfl) ?_ ?_ ?_;(dsimp only;walk_at "i");(dsimp only;walk_at "g");(dsimp only;walk_at "fs");walk_at "cs"))
set_option hygiene false in
local macro_rules|`(tactic| walk_at "s")=>`(tactic| first|((with_reducible show qE _ _ _ (o9 _));refine Mp ?_<;>walk_at "e")|((with_reducible show qE _ _ _ (qT _ _ _));exact Lc '9' '0' '0')|(show qE _ _ (.Assign [.Name _ _] (.ListComp _ _ _ _) _) _;first|exact EY x0 _ rfl (sH (by kernel_rfl)) rfl rfl (ur (by kernel_rfl)) '5' (λ_ _ _ _ _=>⟨'6','7','8','1'⟩) rfl|exact EY x1 _ rfl (sH (by kernel_rfl)) rfl rfl (ur (by kernel_rfl)) '5' (λ_ _ _ _ _=>⟨'6','7','8','1'⟩) rfl|exact EC (sH (by kernel_rfl)) rfl (by walk_at "l") '1')|((with_reducible show qE _ _ _ (pX _ _));exact EC (sH (by kernel_rfl)) rfl (by walk_at "l") '1')|((with_reducible show qE _ _ _ (xr _ _ _));exact MG UC rfl '5' '6' '0')|((with_reducible show qE _ _ _ (v_ _));refine NB ?_<;>walk_at "e")|((with_reducible show qE _ _ _ (yu 0 _));refine W9 yq rfl rfl B.z0a rfl rfl ?_<;>walk_at "a")|((with_reducible show qE _ _ _ qw);exact Np))
set_option hygiene false in
local macro_rules|`(tactic| walk_at "ss")=>`(tactic| first|((with_reducible show qv _ _ _ qw);exact Nq)|((with_reducible show qv _ _ _ xu);exact Ao)|((with_reducible show qv _ _ _ (o3 _ _));exact pH '2' '0')|refine pG ?_<;>walk_at "s")
def Xq:DS:=(o3 (pX 1<|zL (rX<|vj "str" oV) (GN oV<|e_ (dC<|.str [32]) i_) (qR<|e_ A6 i_)) (o3 (qT (p_<|oK vU A6 oY) (yu 0<|e_ (dC<|.str [97,32,108,105,110,101,32,105,115,32,97,32,116,101,120,116,32,111,102,32,119,111,114,100,115,32,119,105,116,104,32,111,110,101,32,98,108,97,110,107,32,98,101,116,119,101,101,110,32,116,119,111]) i_) qw)<|o9 oY))
def HB:oU:=(pU 2 Xq)
def X6:oZ ["line", "words"] ["line"] (l_<|top 70):=pF rfl rfl rfl 'u'
def XW(T:Txt w K mg)(B:xt mg base):nK Cl P w K mg base "words_of" 1 1 HB:=
 nK.self (fnX (k:=0) T.wF X6 (λ_ _ _ _ _ _ us hl=>match us,hl with|[_],_=>rfl) λf g_ A outer s H E hr=>
  ((pH '2' (pH '2'<|pG '2'))))
def YU:DS:=(o3 (pX 2<|qc Qp 1 (yV<|e_ (pR tI<|e_ oV i_) i_) (.one 3) [] [] (pR z5<|e_ rW i_)) (o3 (qT (p_<|oK vU oY rH) (o9 (F9 rH<|e_ oY i_)) qw)<|o3 (qT (zT (p_<|oK (qG sW) (oK rk oY tF) (dC<|.str [48])) (vm<|rX (pR yk<|e_ (qc Qp 1 (qA oY) (.one 3) [] []<|oK vU rW (dC<|.str [48,49,50,51,52,53,54,55,56,57])) i_))) (yu 0<|e_ (dC<|.str [97,32,112,111,105,110,116,32,105,115,32,119,114,105,116,116,101,110,32,105,110,32,102,105,103,117,114,101,115,44,32,119,105,116,104,111,117,116,32,97,32,110,111,117,103,104,116,32,97,104,101,97,100]) i_) qw) xu))
def HK:oU:=(pU 3 YU)
def Y0:oZ ["function", "word", "written"] ["function", "word"] (l_<|top 71):=pF rfl rfl rfl 'u'
def Zd(T:Txt w K mg)(B:xt mg base):nK Cl P w K mg base "read_point" 1 2 HK:=
 nK.self (fnX (k:=0) T.wG Y0 (λ_ _ _ _ _ _ us hl=>match us,hl with|[_,_],_=>rfl) λf g_ A outer s H E hr=>
  (have x0:Nx ["point"]:=⟨⟩;have x1:Nx ["sign"]:=⟨⟩;(pH '2' (pH '2'<|pH '2' Ao))))
def ZP:oZ ["self"] ["self"] (l_<|v8 73 0):=pF rfl rfl rfl 'u'
def Po(T:Txt w K mg):GK Cl P w K mg base 463 1:=Va T.wI T.wQ ZP rfl (.inl rfl) (λ_ _ _ _ _ _ a b=>match a,b with|[_],_=>rfl)
def X4(P2:Nat):DS:=xu
def HU(P2:Nat):oU:=sk 2 1 P2<|X4 P2
def YE:oZ ["self", "<tab2>"] ["self"] (l_<|v8 73 4):=pF rfl rfl rfl 'u'
def HJ{b P2:af}(T:Txt w K mg)(B:xt mg base)(e:tJ K mg "covers" (top 42) b)(g:qJ mg base b P2):y9 Cl P w K mg base 463 "undo" 1 1 P2 (HU P2):=
 DH (k:=0) (i:=1) (z := "<tab2>") T.wM YE rfl (um 'u') (λ_ _ _ _ _ _ c d=>match c,d with|[_],_=>rfl) λf h A a s H E j=>
  (Ao)
def Gy:DS:=(o3 (pX 3 (qR<|e_ (ro BX oY) (e_ (ro BS oY)<|e_ (ro BU oY) i_))) (o3 (pX 3<|oK ri rW (qR<|e_ (ro BV oY) (e_ (ro BY oY)<|e_ (ro B0 oY) i_)))<|o3 (pX 3<|oK ri rW (qR<|e_ (ro BR oY) (e_ (ro BW oY)<|e_ (ro BZ oY) i_))) (o3 (qT (vm (rX<|ro BQ oY)) (o9<|dC .non) qw)<|o9 (qc Qp 1 (yV<|e_ (dC<|.int 9) i_) (.one 4) [(rX (oK rk rW<|ql 4))] []<|ql 4))))
def Zx:oZ ["_law_call", "_law_error", "e", "_law_marks"] ["_law_call"] (l_<|top 75):=pF rfl rfl rfl 'u'
def SH{X:Cx}{Ex:Nat->Hp->Prop}{k iT:Nat}{c Pt:af}{tE:DE}{params:fc}{body:aZ}{scope:cC}{pn pl pp:Pos}(T:Txt X.w X.K X.mg)(hr:nB (k+2) X.A)(L:qJ X.mg X.base c Pt)(qz:X.env.code=.ref c)(LS:EK X.env.scope scope)(sN:defaultsOf params X.env=([],[]))
  (ug:∀(name qual:ao)(cl:List (ao×af))(pm cd ct:ae),bindArgs (b9 name qual params body scope cl pm cd ct) ⟨[],[]⟩=pure [])
  (hE:∀(q:ao)(lam:af)(cd:ae)(cl:List (ao×af))(A:aY)(outer:List Env)(s:aj)(H:Hp)(E:XK),nB k (A.deeper<|q0 q scope s.heap.objs.size lam cd cl)->PD (zM (pZ X.prog X.w Cl) X.prog X.w X.K X.mg X.base X.N (q0 q scope s.heap.objs.size lam cd cl) A outer s H E) (Xk Cl E) body tE)
  (hg:Gl X "_law_refused"):PD X Ex (.Call (.Name "_law_refused" pn) [.Lambda params body scope pl] [] pp) (Av Pt iT Ca 4 1 tE Gy):=
 XR (N:=["_law_call", "_law_error", "e", "_law_marks"]) (i:=2) (j:=1) (nf := "_law_call") (n := "e") (y := "_law_error") (xT := "TermError") (T:=24) (Cl:=Cl) (Ca:=Ca) T.wN hr rfl Zx 'c' rfl rfl rfl 'b' 'b' rfl rfl (.inl rfl) (λ_ _ _ _ _ _ us hl=>match us,hl with|[_],_=>rfl) rfl T.wt1 (Rb T) (λf g_ s H hr=>(have x0:Nx ["_law_k"]:=⟨⟩;(pH '2' (pH '2'<|pH '2' (pH '2'<|pG '2'))))) L qz LS sN ug hE hg
def X7:DS:=(o3 (qT (A9 (p_<|oK (qG sW) oY (dC<|.str [102,117,110,99,116,105,111,110])) (rX<|oM 1 (rY B2) uY)) (o9<|oM 1 (rY E6) uY) qw)<|o3 (qT (p_<|uH Qp AA oY) (o3 (pX 3 (oM 2 HK<|e_ oV uY))<|o9 (oK y0 (oK y0 (DF oV xA<|vn rW) (v9<|e_ (xB AA oY) i_))<|DF oV (vn<|oK y0 rW rP) xA)) qw) (yu 0<|e_ (dC<|.str [110,111,32,115,117,99,104,32,108,105,110,101,32,105,115,32,107,110,111,119,110]) i_))
def HR:oU:=(pU 4 X7)
def Yk:oZ ["function", "deed", "word", "point"] ["function", "deed", "word"] (l_<|top 72):=pF rfl rfl rfl 'u'
def YV(T:Txt w K mg)(B:xt mg base):nK Cl P w K mg base "deed_done" 3 3 HR:=
 nK.self (fnX (k:=2) T.wH Yk (λ_ _ _ _ _ _ us hl=>match us,hl with|[_,_,_],_=>rfl) λf g_ A outer s H E hr=>
  ((pH '2' (pH '2'<|pG '2'))))
def Zf(P2:Nat):DS:=(o3 (qT (p_<|oK (qG sW) oY (dC<|.str [103,111,111,100])) (o9<|zL (rX (oM 2 (rY EV)<|e_ (oK rk (Al 463 oV)<|A0 rP) uY)) (dC<|.str [121,101,115]) (dC<|.str [110,111])) qw) (o3 (v_ (FY (Al 463 oV)<|e_ (oM 3 HR (e_ (oK rk (Al 463 oV)<|A0 rP)<|e_ oY uY)) i_))<|o9 (dC<|.str [111,107])))
def Ic(P2:Nat):oU:=sk 4 3 P2<|Zf P2
def Y7:oZ ["self", "first", "word", "<tab2>"] ["self", "first", "word"] (l_<|v8 73 3):=pF rfl rfl rfl 'u'
def Iq{c2 P2:af}(T:Txt w K mg)(B:xt mg base)(hT:tJ K mg "covers" (top 42) c2)(rN:qJ mg base c2 P2):y9 Cl P w K mg base 463 "say_of" 4 3 P2 (Ic P2):=
 DH (k:=3) (i:=3) (z := "<tab2>") T.wL Y7 rfl (um 'u') (λ_ _ _ _ _ _ us hl=>match us,hl with|[_,_,_],_=>rfl) λf g_ A outer s H E hr=>
  ((pH '2' (pH '2'<|pG '2')))
def ZN(P2:Nat):DS:=(o3 (qT (p_<|oK (qG sW) oY (dC<|.str [98,97,99,107])) (o9<|rZ P2 3 463 1 (HU P2) oV i_) qw)<|o3 (qT (p_<|uH Qo Ay oY) (yu 0<|e_ (dC<|.str [110,111,32,115,117,99,104,32,108,105,110,101,32,105,115,32,107,110,111,119,110]) i_) qw) (o3 (pX 2<|xB Ay oY)<|o9 (Ep P2 3 2 1 [(370,rY HP),(377,rY Ip),(384,rY HM),(391,rY<|HW P2),(398,rY<|HE P2)]<|e_ (oK rk (Al 463 oV)<|A0 rP) i_)))
def Ij(P2:Nat):oU:=sk 4 3 P2<|ZN P2
def ZL:oZ ["self", "word", "question", "<tab2>"] ["self", "word"] (l_<|v8 73 2):=pF rfl rfl rfl 'u'
def Iv{c2 P2:af}(T:Txt w K mg)(B:xt mg base)(hT:tJ K mg "covers" (top 42) c2)(rN:qJ mg base c2 P2):y9 Cl P w K mg base 463 "say_alone" 29 2 P2 (Ij P2):=
 DH (k:=28) (i:=3) (z := "<tab2>") T.wK ZL rfl (um 'u') (λ_ _ _ _ _ _ us hl=>match us,hl with|[_,_],_=>rfl) λf g_ A outer s H E hr=>
  ((pH '2'<|pH '2' (pH '2'<|pG '2')))
def Xp(P2:Nat):DS:=(o3 (pX 2 (oM 1 HB<|e_ oY i_)) (o3 (qT (p_<|oK (qG sW) (pR tI uY) rP) (o9 (rZ P2 3 463 2 (Ij P2) oV<|e_ (oK rk rH tF) i_)) qw)<|o3 (qT (p_<|oK (qG sW) (pR tI uY) (dC<|.int 2)) (o9<|rZ P2 3 463 3 (Ic P2) oV (e_ (oK rk rH tF)<|e_ (oK rk rH rP) i_)) qw) (yu 0<|e_ (dC<|.str [110,111,32,108,105,110,101,32,104,97,115,32,115,111,32,109,97,110,121,32,119,111,114,100,115]) i_)))
def vq(P2:Nat):oU:=sk 4 3 P2<|Xp P2
def Yq:oZ ["self", "line", "words", "<tab2>"] ["self", "line"] (l_<|v8 73 1):=pF rfl rfl rfl 'u'
def HZ{c2 P2:af}(T:Txt w K mg)(B:xt mg base)(hT:tJ K mg "covers" (top 42) c2)(rN:qJ mg base c2 P2):y9 Cl P w K mg base 463 "say" 30 2 P2 (vq P2):=
 DH (k:=29) (i:=3) (z := "<tab2>") T.wJ Yq rfl (um 'u') (λ_ _ _ _ _ _ us hl=>match us,hl with|[_,_],_=>rfl) λf g_ A outer s H E hr=>
  ((pH '2'<|pH '2' (pH '2'<|pG '2')))
abbrev F5:DT:=p_<|oK (qG sW) (oK (fI yi) (oK rk (oK ri (ye oV xA<|vn rP) (qR<|e_ tF i_)) tF) (dC<|.int 2)) rP
abbrev wS:DS:=pX 2 (qR<|e_ (dC<|.str [115,104,111,119,110]) (e_ (dC<|.str [103,114,101,97,116,101,115,116])<|e_ (dC<|.str [110,101,101,100,101,100]) (e_ (dC<|.str [108,101,97,115,116])<|e_ (dC<|.str [109,97,110,121]) i_)))
abbrev Eb:DE:=oM 1 (rY y_)<|e_ (oK (fI yi) (ql 4) (dC<|.int 2147483647)) i_
def Gu(Pt P2:Nat):DS:=(o3 (pX 1<|Bl 463)<|o3 (qT F5 (o3 (v_ (rZ P2 7 463 2 (vq P2) oY<|e_ (dC<|.str [102,117,110,99,116,105,111,110,32,48,49,45,49]) i_))<|v_ (rZ P2 7 463 2 (vq P2) oY<|e_ (dC<|.str [102,114,101,101,32,48]) i_)) qw) (o3 wS<|o3 (pX 3<|qc Qp 1 (qA rH) (.one 8) [] [] (rZ P2 7 463 2 (vq P2) oY<|e_ (ql 8) i_)) (o3 (xr (qA<|oK ri (ye oV (vn rP)<|vn (dC<|.int 31)) (qR<|e_ (dC<|.int 5) i_)) (.one 4)<|o3 (pX 5 Eb) (o3 (qT (p_<|oK (qG xj) (Av Pt 6 Ca 4 1 (rZ P2 7 463 2 (vq P2) oY<|e_ (ql 5) i_) Gy) (qR<|e_ (dC<|.int 7) i_)) zO qw)<|qT (p_<|oK (qG xj) (qc Qp 1 (qA rH) (.one 8) [] [] (rZ P2 7 463 2 (vq P2) oY<|e_ (ql 8) i_)) rW) zO qw))<|o9 (dC<|.bl Qo))))
def F_law(Pt P2:Nat):oU:=DP 8 6 7 Pt P2<|Gu Pt P2
def Sw:oZ ["_law_script", "_law_desk", "_law_words", "_law_told", "_law_cell", "_law_line", "<tab>", "<tab2>"] ["_law_script"] (l_<|top 77):=pF rfl rfl rfl 'u'
def Sl{f c Pt c2 P2:af}{fd:cV}(hF:L2.Fun K "law" "law" (top 77) f fd)(hc:fd.code=.ref c)(T:Txt w K mg)(B:xt mg base)(hT:tJ K mg "covers" (top 42) c2)(L:qJ mg base c Pt)(rN:qJ mg base c2 P2):nG P w K mg base (pZ P w Cl) 33 f fd ["_law_script"] (xw K (Xk Cl) 1 Pt P2<|F_law Pt P2):=
 RC (k:=32) (i:=6) (j:=7) (z := "<tab>") (y := "<tab2>") hF hc Sw rfl (um 'u') rfl (um 'u') λA outer s H E hr=>
  (have x0:Nx ["_law_word"]:=⟨⟩;(pH '2'<|pH '2' (pH '2'<|pH '2' (pH '2'<|pG '2'))))
def Si{f c Pt a P2:af}{fd:cV}(b:L2.Fun K "law" "law" (top 77) f fd)(d:fd.code=.ref c)(e:tJ K mg "covers" (top 42) a)(T:Txt w K mg)(B:xt mg base)(L:qJ mg base c Pt)(g:qJ mg base a P2):nG P w K mg base (pZ P w Cl) 33 f fd ["_law_script"] (xw K (Xk Cl) 1 Pt P2<|F_law Pt P2):=
 Sl b d T B e L g
end
def fa_mk{K:ag}{h:aJ}{c:ao->Option ae}(X:K.In h)(G:h.Ns bt c){n:ao}{b:cN}{f:af}{e g:Option af}{i:Array (Option ae)}{j m o p r d:ae}(a:fy K bt n=Qg (Qg<|.ref f))
  (l:K.lookup f=Qg ⟨j,e,.func<|a8 n n (sG b) (qK b) (l_ b) .none m o p g d r,i⟩) (q:cg K d n=Qo) (k:bN K (.ref f)=Qo):pD K c n b:=⟨f,_,bA X G a,Bw l q k⟩
def gs_mk{K:ag}{h:aJ}{a:ao->Option ae}(X:K.In h)(G:h.Ns bt a){n:ao}{b:qB}{t:Tok}(s:fy K bt n=Qg (Qg<|.str ⟨b.toArray⟩ t)):A4 a n b:=⟨_,bA X G s⟩
def gt_mk{K:ag}{h:aJ}{a:ao->Option ae}(X:K.In h)(G:h.Ns bt a){n:ao}{b:List (Int×Int)}{e:af}{o:Obj}(d:fy K bt n=Qg (Qg<|.ref e))(u:K.lookup e=Qg o)(v:DD o b=Qo)(y:(e==sysModules)=Qp):yT K a n b:=⟨_,_,bA X G d,u,v,y⟩
def gn_mk{K:ag}{h:aJ}{b:ao->Option ae}(X:K.In h)(G:h.Ns bt b){n:ao}{w:aG}{a:List (D×D)}{e:af}{o:Obj}(d:fy K bt n=Qg (Qg<|.ref e))(u:K.lookup e=Qg o)(v:D8 o a=Qo)(z:G4 o=a.map (λp=>(su p.1).map<|AE w))(y:(e==sysModules)=Qp):u7 w K b n a:=⟨_,_,bA X G d,u,v,z,y⟩
def all_mk{P:aE}{w:aG}{K:ag}{h:aJ}{b:ao->Option ae}{J:af}(X:K.In h)(G:h.Ns bt b)(x:b "law" = Qg (.ref J))(T:Txt w K b)
  {f:af} {od M:Option af} {sl:Array (Option ae)} {oc N O Q S:ae} {i:af} (a:fy K bt "law" = Qg (Qg<|.ref f))
  (l:K.lookup f=Qg ⟨oc,od,.func<|a8 "law" "law" (sG<|top 77) (qK<|top 77) (l_<|top 77) .none N O Q M (.ref i) S,sl⟩) (q:cg K (.ref i) "law" = Qo) (k:bN K (.ref f)=Qo)
  {v:af} {y A:Option af} {Fe:Array (Option ae)} {B C E H I:ae} {j:af} (U:fy K bt "covers" = Qg (Qg<|.ref v))
  (Y:K.lookup v=Qg ⟨B,y,.func<|a8 "covers" "covers" (sG<|top 42) (qK<|top 42) (l_<|top 42) .none C E H A (.ref j) I,Fe⟩) (q2:cg K (.ref j) "covers" = Qo) (k2:bN K (.ref v)=Qo)
  (ZV:lc K 121 F4 "ValueError.__new__" = Qo)
  {P2:af} {m:ae} {n:Option af} {o:Array (Option ae)} {d:Array ae} (h6:K.lookup j=Qg ⟨m,n,.fields d,o⟩) (h7:d[11]?=Qg (.ref P2))
  {Pt:af} {p:ae} {r:Option af} {t:Array (Option ae)} {g:Array ae} (h4:K.lookup i=Qg ⟨p,r,.fields g,t⟩) (h5:g[11]?=Qg (.ref Pt)) (Jq:gq K=Qo)
  : gq K=Qo/\∃(c Z:af),eI K "law" = Qg (c,Pt)/\eI K "covers" = Qg (Z,P2)/\∃fd:cV,(∀(s:aj)(u:ae),gk s fd ⟨[u],[]⟩ [("_law_script",u)])/\∀base:aJ,K.In base->base.Ns bt b->qJ b base c Pt->qJ b base Z P2->nG P w K b base (pZ P w Cl) 33 J fd ["_law_script"] (xw K (Xk Cl) 1 Pt P2<|F_law Pt P2):=by have hF:L2.Fun K "law" "law" (top 77) f (a8 "law" "law" (sG<|top 77) (qK<|top 77) (l_<|top 77) .none N O Q M (.ref i) S):=Bw l q k;have e:=x.symm.trans<|bA X G a;cases e;have hT:tJ K b "covers" (top 42) j:=⟨v,_,bA X G U,Bw Y q2 k2,rfl⟩;exact⟨Jq,i,j,  K5 a l h4 h5,K5 U Y h6 h7,_,λs u=>.of_eq rfl,λbase kb nb L rN=>Si hF rfl hT T ⟨Ve kb T.wr1 ZV⟩ L rN⟩
end K93
-- QU 33
namespace K93
open PySem L2 DL
abbrev ob:D:=.obj 463 0
noncomputable def Wd:List D:=[.str [115,104,111,119,110],.str [103,114,101,97,116,101,115,116],.str [110,101,101,100,101,100],.str [108,101,97,115,116],.str [109,97,110,121]]
noncomputable def St(b:Bool):Ow:=if b=Qo then [[.tup [.int 0,.int 0],.tup [.int 0,.int 1,.non,.int 1],.tup [.non,.int 1,.non,.int 1]]] else [[.tup [.int 0,.int 0]]]
noncomputable def Td(b:Bool):List D:=if b=Qo then [.str [45,49,45,49],.str [45,45],.str [45,45],.str [45,45],.str [49]] else [.str [48,48],.str [110,111,110,101],.str [110,111,110,101],.str [110,111,110,101],.str [49]]
def sg(xs:List D)(w t c l:Option D):Sg:=[rq xs,Qg ob,w,t,c,l,Qg<|.tab 481,Qg<|.tab 280]
def Gb:DS:=(o3 (v_ (rZ 280 7 463 2 (vq 280) oY<|e_ (dC<|.str [102,117,110,99,116,105,111,110,32,48,49,45,49]) i_))<|v_ (rZ 280 7 463 2 (vq 280) oY<|e_ (dC<|.str [102,114,101,101,32,48]) i_))
def Ed:DE:=(qc Qp 1 (qA rH) (.one 8) [] [] (rZ 280 7 463 2 (vq 280) oY<|e_ (ql 8) i_))
def Kb:DI:=(qA<|oK ri (ye oV (vn rP)<|vn (dC<|.int 31)) (qR<|e_ (dC<|.int 5) i_))
def J9:DE:=(Av 481 6 Ca 4 1 (rZ 280 7 463 2 (vq 280) oY<|e_ (ql 5) i_) Gy)
def DX:DS:=o3 (pX 5 Eb) (o3 (qT (p_<|oK (qG xj) J9 (qR<|e_ (dC<|.int 7) i_)) zO qw)<|qT (p_<|oK (qG xj) Ed rW) zO qw)
def SO:Gu 481 280=o3 (pX 1<|Bl 463) (o3 (qT F5 Gb qw) (o3 wS<|o3 (pX 3 Ed) (o3 (xr Kb (.one 4) DX)<|o9 (dC<|.bl Qo)))):=rfl
def n9:List D:=(de 54).map λ(m:Nat)=>match y_ [.int (m:Int)] [] with
 |.ok d _=>d
 |_=>.non
def S4(j:Int)(O:Ow):y_ [.int j] O=fin ((rk O (.lst n9) (.int<|j%54)).bnS λd O1=>.rt d O1):=by kernel_rfl
def Uj:n9.length=54:=by kernel_rfl
def Vr(a:List D)(w t l:Option D)(c:Int)(b:Bool):∃m,m<54/\Eb (sg a w t (zg c) l) (St b)=.ok (n9.getD m .non) (St b):=by
 have f:0<=c%2147483647%54:=Int.emod_nonneg _ 'b';have g:c%2147483647%54<54:=Int.emod_lt_of_pos _ 'b';refine⟨(c%2147483647%54).toNat,by lia,?_⟩;have e:Eb (sg a w t (zg c) l) (St b)=rY y_ [.int<|c%2147483647] (St b):=rfl;rw[e];refine Wr ?_;rw[S4];have d:(c%2147483647%54).toNat<n9.length:=by rw[Uj];lia
 have:=TN (O:=St b) d;rw[Int.toNat_of_nonneg f] at this;rw[this,cJ,aB d];rfl
def Vp(b:Bool)(a:List D)(w t c:Option D):((de 54).map λm=>J9 (sg a w t c (Qg<|n9.getD m .non))<|St b)=(de 54).map λ_=>R.ok (.lst [.int 7]) (St b):=by cases b<;>kernel_rfl
def MN(b:Bool)(a:List D)(t c l:Option D):Ed (sg a (rq Wd) t c l) (St b)=.ok (.lst<|Td b) (St b):=by cases b<;>kernel_rfl
def SV(a:List D)(c:Int)(l:Option D)(b:Bool):∃d,DX (sg a (rq Wd) (rq<|Td b) (zg c) l) (St b)=.nx (sg a (rq Wd) (rq<|Td b) (zg c) d) (St b):=by obtain⟨m,f,e⟩:=Vr a (rq Wd) (rq<|Td b) l c b;refine⟨Qg<|n9.getD m .non,?_⟩;unfold DX;refine(y8<|Md e).trans ?_;have g:=List.map_inj_left.mp (Vp b a (rq Wd) (rq<|Td b)<|zg c) m<|iI.mpr f;have h:=MN b a (rq<|Td b) (zg c) (Qg<|n9.getD m .non);refine(y8 (σ':=sg a (rq Wd) (rq<|Td b) (zg c) (Qg<|n9.getD m .non)) (O1:=St b)<|(GD (b:=Qp) (EG (O1:=St b)<|(yw g (y:=.lst [.int 7]) (O2:=St b) rfl).trans rfl)).trans rfl).trans ?_;refine(GD (b:=Qp) (EG (O1:=St b)<|(yw h (y:=.lst<|Td b) (O2:=St b) rfl).trans ?_)).trans rfl;cases b<;>rfl
def MH(l:List Int)(a b:Option Int):vX (l.map .int) a b=((l.drop<|HT.sIx l.length 0 a).take<|HT.sIx l.length l.length b-HT.sIx l.length 0 a).map .int:=by unfold vX;rw[aW,List.map_take,List.map_drop]
def SU(a:List Int)(b:a.length<=63)(w t c l:Option D)(O:Ow):∃k:List Int,Kb (sg (a.map .int) w t c l) O=.ok (.val<|k.map .int) O:=by
 refine⟨((a.drop (HT.sIx a.length 0<|Qg 1)).take<|HT.sIx a.length a.length (Qg 31)-HT.sIx a.length 0 (Qg 1))++[5],?_⟩;refine T8 ?_;have e:AS O (.lst<|a.map .int) (Qg 1) (Qg 31)=.ok (.lst<|((a.drop (HT.sIx a.length 0<|Qg 1)).take<|HT.sIx a.length a.length (Qg 31)-HT.sIx a.length 0 (Qg 1)).map .int) O:=by
  rw[<- MH];rfl
 refine(yw (O1:=O) (O2:=O) (y:=.lst [.int 5]) (show _=_ from e) rfl).trans ?_;show(if _<=4000000 then R.ok (D.lst<|_++_) O else .bad)=_;rw[Qs (by
  rw[aW,bK,bR];show _+1<=4000000;lia)]
 rw[eF];rfl
def Sv(a:List Int)(w t c l:Option D)(O:Ow):∃b:Bool,F5 (sg (a.map .int) w t c l) O=.ok b O:=by
 cases a with
 |nil=>exact⟨Qp,rfl⟩
 | cons n r=>
  have e:AS O (.lst<|(n::r).map .int) Qn (Qg 1)=.ok (.lst [.int n]) O:=by
   have:AS O (.lst<|(n::r).map .int) Qn (Qg 1)=.ok (.lst (vX ((n::r).map .int) Qn<|Qg 1)) O:=rfl;rw[this,MH];have f:HT.sIx (n::r).length 0 Qn=0:=rfl;have g:HT.sIx (n::r).length (n::r).length (Qg 1)=1:=by
    have:=HT.sIx_nat (n::r).length (n::r).length 1;rw[a7] at this ⊢;exact this.trans 'd'
   rw[f,g];rfl
  have d:oK (fI yi) (oK rk (oK ri (ye oV xA<|vn rP) (qR<|e_ tF i_)) tF) (dC<|.int 2) (sg ((n::r).map .int) w t c l) O=.ok (.int<|n%2) O:=by
   refine yw (O1:=O) (x:=.int n) ((yw (O1:=O) (x:=.lst [.int n,.int 0]) ((yw (O1:=O) (x:=.lst [.int n]) (show _=_ from e) (y:=.lst [.int 0]) (O2:=O) rfl).trans rfl) (y:=.int 0) (O2:=O) rfl).trans rfl) (y:=.int 2) (O2:=O) rfl
  rcases Int.emod_two_eq n with h|h
  .exact⟨Qp,EG ((yw d (y:=.int 1) (O2:=O) rfl).trans (by rw[h];rfl))⟩
  .exact⟨Qo,EG ((yw d (y:=.int 1) (O2:=O) rfl).trans (by rw[h];rfl))⟩
def Sy(b:Bool)(a:List D):(if b=Qo then Gb (sg a Qn Qn Qn Qn) (St Qp) else qw (sg a Qn Qn Qn Qn) (St Qp))=.nx (sg a Qn Qn Qn Qn) (St b):=by
 cases b with
 |false=>rfl
 |true=>kernel_rfl
def pure_law(f:List Int)(h:f.length<=63):∃O,F_law 481 280 [.lst<|f.map .int] []=.ok (.bl Qo) O:=by
 obtain⟨b,m⟩:=Sv f Qn Qn Qn Qn<|St Qp;obtain⟨k,n⟩:=SU f h (rq Wd) (rq<|Td b) Qn Qn<|St b;obtain⟨o,v,p,q⟩:=SK (body:=DX) (i:=4) n (λ_ g O=>(∃c l,g=sg (f.map .int) (rq Wd) (rq<|Td b) c l)/\O=St b) (λj a g O _ ⟨⟨c,l,e1⟩,e2⟩=>by
  subst e1 e2;obtain⟨w,e⟩:=SV (f.map .int) a l b;exact⟨_,_,e,⟨_,_,rfl⟩,rfl⟩) ⟨⟨Qn,Qn,rfl⟩,rfl⟩
 obtain⟨⟨c,l,rfl⟩,rfl⟩:=q;refine⟨St b,?_⟩;show fin (Gu 481 280 [rq<|f.map .int,Qn,Qn,Qn,Qn,Qn,Qg<|.tab 481,Qg<|.tab 280] [])=_;rw[SO];have r:pX 1 (Bl 463) [rq<|f.map .int,Qn,Qn,Qn,Qn,Qn,Qg<|.tab 481,Qg<|.tab 280] []=.nx (sg (f.map .int) Qn Qn Qn Qn) (St Qp):=rfl;have s:=(GD (a:=Gb) (d:=qw) m).trans (Sy b<|f.map .int);have t:wS (sg (f.map .int) Qn Qn Qn Qn) (St b)=.nx (sg (f.map .int) (rq Wd) Qn Qn Qn) (St b):=rfl;have u:pX 3 Ed (sg (f.map .int) (rq Wd) Qn Qn Qn) (St b)=.nx (sg (f.map .int) (rq Wd) (rq<|Td b) Qn Qn) (St b):=Md<|MN b _ _ _ _;rw[y8 r,y8 s,y8 t,y8 u,y8 p];rfl
end K93
open PySem PySem.W PyProof.Rows
set_option maxRecDepth 100000 in
set_option maxHeartbeats 0 in
theorem PySem.Challenge.cw_leastterms_k93_lines_that_are_none_holds : PySem.Challenge.rw_leastterms_k93_lines_that_are_none.Holds := by
 w_on;refine lR K93.ws fun ID=>?_;refine PySem.W.holds_openX (q:=K93.Qv) (loose:=K93.Lv) (N:=8610) (Xt:=K93.Xv) (XP:=PySem.W.XL K93.Qv []) (Yf:=(fun s=>(PySem.W.Hook.obs K93.Hk s,decide<|0<s.toks))) (Ya:=(fun w=>(PySem.W.Hook.val K93.Hk w,true))) K93.lw (fun s e=>PySem.W.xl_of s (iz.mp e).1) PySem.W.XL.keeps (by rfl) (by rfl) (by rfl) (fun s e=>PySem.W.recFacts_of (iz.mp e).2) (by rfl) (by first|assumption|decide +kernel) (by decide +kernel) ⟨rfl,rfl,rfl,rfl,rfl,by decide +kernel⟩ ?hw ?hc;(case hw=>w_witness2)
 delta K93.Hk;k_fill
 refine DL.walk2c (Pt:=481) (P2:=280) (xd := "covers") (l:=PySem.Challenge.rw_leastterms_k93_lines_that_are_none) (k:=33) (x := "_law_script") (Cl:=K93.Cl) (F:=K93.F_law 481 280) rfl rfl ⟨rfl,by decide,by decide⟩ (PySem.W.Hook.of K93.Hk) (PySem.W.Hook.keeps K93.Hk) (fun w h Y=>PySem.W.km_in_of Y) ?R ?S ?F K93.pure_law
 case R=>first|rfl|kernel_rfl
 case S=>first|rfl|kernel_rfl
 case F=>
  intro w mg fa h KX G CM
  refine' K93.all_mk KX G CM ⟨K93.fa_mk KX G ?_ ?_ ?_ ?_,K93.fa_mk KX G ?_ ?_ ?_ ?_,K93.fa_mk KX G ?_ ?_ ?_ ?_,K93.fa_mk KX G ?_ ?_ ?_ ?_,K93.fa_mk KX G ?_ ?_ ?_ ?_,K93.fa_mk KX G ?_ ?_ ?_ ?_,K93.fa_mk KX G ?_ ?_ ?_ ?_,K93.fa_mk KX G ?_ ?_ ?_ ?_,K93.fa_mk KX G ?_ ?_ ?_ ?_,K93.fa_mk KX G ?_ ?_ ?_ ?_,K93.fa_mk KX G ?_ ?_ ?_ ?_,K93.fa_mk KX G ?_ ?_ ?_ ?_,K93.fa_mk KX G ?_ ?_ ?_ ?_,K93.fa_mk KX G ?_ ?_ ?_ ?_,K93.fa_mk KX G ?_ ?_ ?_ ?_,K93.fa_mk KX G ?_ ?_ ?_ ?_,K93.fa_mk KX G ?_ ?_ ?_ ?_,K93.fa_mk KX G ?_ ?_ ?_ ?_,K93.fa_mk KX G ?_ ?_ ?_ ?_,K93.fa_mk KX G ?_ ?_ ?_ ?_,K93.fa_mk KX G ?_ ?_ ?_ ?_,K93.fa_mk KX G ?_ ?_ ?_ ?_,K93.fa_mk KX G ?_ ?_ ?_ ?_,K93.fa_mk KX G ?_ ?_ ?_ ?_,K93.fa_mk KX G ?_ ?_ ?_ ?_,K93.fa_mk KX G ?_ ?_ ?_ ?_,K93.fa_mk KX G ?_ ?_ ?_ ?_,K93.fa_mk KX G ?_ ?_ ?_ ?_,K93.fa_mk KX G ?_ ?_ ?_ ?_,K93.fa_mk KX G ?_ ?_ ?_ ?_,K93.fa_mk KX G ?_ ?_ ?_ ?_,K93.fa_mk KX G ?_ ?_ ?_ ?_,K93.fa_mk KX G ?_ ?_ ?_ ?_,K93.fa_mk KX G ?_ ?_ ?_ ?_,K93.fa_mk KX G ?_ ?_ ?_ ?_,K93.fa_mk KX G ?_ ?_ ?_ ?_,K93.fa_mk KX G ?_ ?_ ?_ ?_,K93.fa_mk KX G ?_ ?_ ?_ ?_,K93.fa_mk KX G ?_ ?_ ?_ ?_,K93.fa_mk KX G ?_ ?_ ?_ ?_,K93.fa_mk KX G ?_ ?_ ?_ ?_,K93.fa_mk KX G ?_ ?_ ?_ ?_,K93.fa_mk KX G ?_ ?_ ?_ ?_,K93.fa_mk KX G ?_ ?_ ?_ ?_,DL.ini_mk ?_ ?_ ?_ ?_ ?_ ?_ ?_,DL.me_mk ?_ ?_ ?_ ?_ ?_,DL.me_mk ?_ ?_ ?_ ?_ ?_,DL.me_mk ?_ ?_ ?_ ?_ ?_,DL.me_mk ?_ ?_ ?_ ?_ ?_,K93.fa_mk KX G ?_ ?_ ?_ ?_,K93.fa_mk KX G ?_ ?_ ?_ ?_,K93.fa_mk KX G ?_ ?_ ?_ ?_,DL.oc_mk ?_ ?_ ?_ ?_ ?_,bA KX G ?_,bA KX G ?_,bA KX G ?_,bA KX G ?_,bA KX G ?_,bA KX G ?_,bH KX G ?_,bH KX G ?_,bH KX G ?_,bH KX G ?_,bH KX G ?_,bH KX G ?_,bH KX G ?_,bH KX G ?_,bH KX G ?_,bH KX G ?_,bH KX G ?_,bH KX G ?_,bH KX G ?_,bH KX G ?_,bH KX G ?_,K93.gs_mk KX G ?_,K93.gs_mk KX G ?_,K93.gs_mk KX G ?_,K93.gn_mk KX G ?_ ?_ ?_ ?_ ?_,K93.gn_mk KX G ?_ ?_ ?_ ?_ ?_,K93.gn_mk KX G ?_ ?_ ?_ ?_ ?_,K93.gn_mk KX G ?_ ?_ ?_ ?_ ?_,K93.gt_mk KX G ?_ ?_ ?_ ?_,bA KX G ?_,bA KX G ?_,bA KX G ?_,bA KX G ?_,bA KX G ?_,bA KX G ?_,bA KX G ?_,bA KX G ?_,bA KX G ?_,bA KX G ?_,?_,?_,?_,?_,?_,?_,?_,?_,?_,?_,?_,?_,?_,?_,?_,?_,?_,?_,?_,?_,?_,DL.xck_of ?_ ?_ ?_ ?_ ?_ ?_ ?_ ?_ ?_ ?_ ?_ ?_ ?_ ?_⟩ ?Ha ?Hl ?_ ?_ ?Ha2 ?Hl2 ?_ ?_ ?_ ?Gh6 ?Gh7 ?Gh4 ?Gh5 ?_
  (case' Ha|Hl|Ha2|Hl2|Gh4|Gh6=>k_is)
  (case Gh5=>rfl)
  (case Gh7=>rfl)
  all_goals first|k_is|kernel_rfl|rfl|skip
end
