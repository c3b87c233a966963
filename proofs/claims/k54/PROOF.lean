import PyProof.Rows.All
import Wide.All
import OpenK.AllK
import Wide.FinOn
import Lean
import PyProof.EqAt
import PyProof.EqKinds
import PyProof.TupleCall
import PySem.Challenge.RW_leastterms_k54_whole_sums_and_products
noncomputable section
set_option compiler.extract_closed false
set_option Elab.async false
set_option linter.all false
set_option autoImplicit true
set_option relaxedAutoImplicit true
set_option maxRecDepth 100000
open PySem renaming wpAny_bind->aa,Value->ab,Addr->ae,Shared->ag,wpAny_pure->ah,wpAny->am,model->av,Program->aN,Expr->aT,starEach->aV,Heap->aX,World->aY,Around->ba,wpAny_holding->bz,bootBuiltins->bA,wpAny_setField_rec->bE,mainGlobals->bI,foldedSetIterable->bK,wpAny_call_entry->bL,wpAny_field->bO,Comprehension->bP,mem_of_lookup->bQ,rawInt->bR,wpAny_newObj_type->b9,wpAny_callSpecial?_slot->cb,Paired->ck,compareOp->cm,cellsFrom->cE,wpAny_mono->cG,wpAny_seqItems->cH,wpAny_truthy_bool->cX,Scope->c8,wpAny_rule->c9,NameKind->dr,importedModules->dD,Builtin->dH,wpAny_letGo->d7,wpAny_tryCatch->ee,PyData->ef,wpAny_updateSeq->eo,IsPair->er,wpAny_standAt->ez,plainId_quiet->eC,FuncData->eD,Stmt->eJ,binaryOp->eM,codeAny_builtin->eR,wpAny_askSetting->fi,wpAny_passesOwn->fC,wpAny_attempt->fJ,wpAny_pyIter_list->fO,wpAny_setState_of->fP,Keyword->fY,wpAny_with_toks->ge,IsZip->gj,codeAny_mono->gq,assignEach->gE,swapsWithSole->gJ,swappedStores->gK,wpAny_newList->gN,OsState->gP,wpAny_Call_Name_kw->g7,IsPart->g9,IsEnum->hV,wpAny_newTuple->ic,wpAny_isInstance->iC,Arguments->iI,ElemsOf->iK,Params->iO,Model->iP,wpAny_execs_nil->iQ,wpAny_typeOf->iS,pushCells_keeps->iU,wpAny_updateSeq_pair->iV,wpAny_setEntries_of->i8,wpAny_setField->jd,wpAny_of_eq->ji,wpAny_pyIter_tuple->jm,wpAny_onRaise->jy,wpAny_assign_Name->jG,wpAny_pyIter_slot->jI,fits_of_scanBound->jK,SetTable->j3,PassesOwn->km,sizeLine_eq->kB,wpAny_isTrue_Compare1->kL,BindsTo->kM,concat_meets->kN,exec_Assign_Name_used->kT,intText?->kU,isSubtype_stop->kY,builtinLookup_eq_fast->lg,wpAny_loadName_local->lm,wpAny_call->lp,wpAny_loadName_cell->lK,nums_intItems->lP,pushCells->l7,seqIndex_of->mK,GenState->mN
open Option renaming some->KB,none->KF
open Bool renaming true->KM,false->K7
abbrev qb:=@if_pos
abbrev qq:=@if_neg
open PyProof.Rows renaming arrOf->qt,pendingOf->qx
open PySem renaming sizeLine->qN
local macro_rules|`('1')=>`(by walk_at "e")
local macro_rules|`('2')=>`(by walk_at "s")
local macro_rules|`('3')=>`(by walk_at "z")
local macro_rules|`('4')=>`(by walk_at "u")
local macro_rules|`('5')=>`(by walk_at "g")
local macro_rules|`('6')=>`(by walk_at "i")
local macro_rules|`('7')=>`(by walk_at "fs")
local macro_rules|`('8')=>`(by walk_at "cs")
local macro_rules|`('9')=>`(by walk_at "le")
set_option hygiene false in
local macro_rules|`('0')=>`(K54.fa_mk KX G ?_ ?_ ?_ ?_)
local macro_rules|`('d')=>`(by lia)
local macro_rules|`('k')=>`(by simp)
local macro_rules|`('u')=>`(by decide)
local macro_rules|`('b')=>`(by kernel_rfl)
local macro_rules|`('c')=>`(by decide +kernel)
open PySem.Heap renaming get?_push_of_some->af,get?_push_size->aC,lt_size->aI,get?_update_other->bj,get?_update_self->bJ,size_push->cu,SameBut->cS,ExtBut->jj
open PySem.W renaming Frag->ai,mg_none_of->bM,fnOf->cF,boot_heap->cJ,keepIn->cZ,kla_fn->d9,findIn->fg,codeIn->fh,nsIn->gu,mg_of->gO,cellsFrom_some->ir,InstAt->i9,noTabs->jb,tabIn->jx,methodObj->jF,specialIn->jH,kla_obj->ko,kitOne->kQ,tabObj->kW,mroIn->lE,ofPys->lF,OpenLaw->lX,ofPy->lY,SharedT->mm,holds_law->mo,kitx_bool->my,kitx_list->mz,kitx_dict->mB,plainGet->mP,instObj->m9,takesIn->ng,CodeHd->nB,isFn->nT
open False renaming elim->aj
open List renaming all_eq_true->ak,mem_cons_of_mem->al,getElem?_eq_getElem->ao,mem_cons->aq,getElem?_eq_some_iff->ar,mem_cons_self->au,replicate->aw,length_map->ax,mem_append_right->ay,range->aA,mem_map->aB,length_append->aE,getD_eq_getElem?_getD->aG,size_toArray->aH,getElem?_append_left->aJ,mem_of_getElem?->aL,mem_filter->aO,mem_append->aP,getElem?_eq_none_iff->aQ,mem_range->aR,length_cons->aS,not_mem_nil->aZ,getElem?_map->a8,append_assoc->a9,map_map->bg,getElem?_append_right->bo,getElem?_set_ne->bq,length_filter_le->bu,getElem?_set_self->bw,append_nil->bC,any_eq_true->bF,nodup_cons->bG,map_cons->bH,pairwise_cons->bT,mem_append_left->bV,pairwise_append->bX,contains_iff_mem->ci,length_take->cq,getElem_mem->cr,take_append_drop->cw,getElem?_cons_zero->cx,getElem?_cons_succ->cy,length_drop->cB,mem_of_mem_take->cD,take_sublist->cK,length_range->cM,take_of_length_le->cO,length_nil->cP,nil_append->cQ,perm_append_comm->cV,flatMap_cons->cY,mem_of_mem_drop->de,set_cons_zero->dg,drop_eq_getElem_cons->dh,pairwise_iff_getElem->di,drop_sublist->dj,map_append->dE,mem_singleton->dF,set_cons_succ->dG,length_eq_zero_iff->dI,filter_cons_of_neg->dJ,filter_cons_of_pos->dL,mem_iff_getElem->dM,map_congr_left->dS,length_set->el,lookup_cons->eE,drop_drop->eF,find?_cons->eN,drop_append_of_le_length->eZ,getElem?_replicate->e8,filterMap_cons->fc,mem_flatMap->fk,drop_of_length_le->fu,filter_eq_nil_iff->fv,length_singleton->fD,foldl_cons->fE,nodup_append->fN,pairwise_map->fQ,map_inj_left->fT,mem_or_eq_of_mem_set->fX,lt_irrefl->fZ,getElem?_take_of_lt->f7,getElem?_range->gc,forIn_cons->gg,find?_cons_of_neg->gi,take_take->gz,filter_cons->gF,mem_reverse->gH,any_cons->gL,map_id->gT,filter_sublist->gU,mem_filterMap->gZ,nodup_nil->ie,take_succ->ig,all_eq_not_any_not->ij,flatten_cons->ik,filter_congr->io,any_eq_false->ip,not_lt->iu,find?_cons_of_pos->iw,lt_trans->iy,all_cons->iz,zipIdx_cons->iB,take_length->iD,getElem_map->iF,flatMap_nil->iG,length_replicate->iH,set_append_right->iJ,replicate_succ->i6,countP_eq_length_filter->jf,take_zero->jg,getElem?_take->jn,getElem?_drop->jp,zip_cons_cons->jr,getElem?_take_eq_none->jC,length_eraseIdx_of_lt->jD,nodup_iff_pairwise_ne->jE,ext_getElem?->jJ,extract_eq_take_drop->jP,exists_mem_of_ne_nil->jQ,getElem_inj->jS,map_nil->jU,cons_append->jW,le_antisymm->jZ,set_set->j7,isEmpty_iff->j8,pairwise_singleton->ki,of_mem_zip->kn,filter_map->kz,length->kC,getElem?_toArray->kR,forIn_nil->kS,drop_zero->k8,cons_lt_cons_iff->lc,countP_mono_left->li,length_take_le'->lC,filter_eq_self->lN,getElem_of_mem->lO,flatMap_append->lQ,all_map->l9,map_id'->mj,reverse_cons->mr,getElem_take->mE,getElem_drop->mF,reverse_perm->mG,all_toArray->mT,isEmpty_nil->mW,drop_length->mX,countP_cons->mZ,zipIdx_nil->nk,range_succ->no,length_zip->np,drop_take->nE,drop_left->nF,take_left->nG,take_add->nN
open Array renaming length_toList->az,getElem?_eq_getElem->aU,toList_append->bU,size_push->cA,getElem?_toList->dB,perm_iff_toList_perm->dQ,toList_push->eU,getElem_toList->fW,size_append->gk,map->gC,toList_setIfInBounds->jA,getElem?_eq_some_iff->jB,size_setIfInBounds->jY,getElem?_eq_none->kK,size_map->k9,mk->ll,toList_extract->lu,toList_reverse->lv,append_assoc->lT,toList->lU,toList_inj->mU,toList_map->mV,size_zip->nH
open PyProof.Rows renaming wpS_bind->aD,wpS_pure->aK,KeyKind->a7,Keyed->bd,SortSt->cg,slot_tuple_getitem->cL,wpS_forRange->cT,wpS_mono->dN,StrsAre->e9,envOfC->fe,callWith_type1->fy,wpS_modify->fV,wpS_get->gR,AllBare->h9,listUpdate_at->ix,listItems_at->iZ,KeysOf->i7,wpS_lift->je,seqEpoch_at->jk,assignInOrder_cons->jl,SortedToK->jq,KK_mirror_equal->kr,entry_list_sort->ku,subscriptTail_builtinR->kF,wpS_reverse->kI,IntsAre->kO,slot_list_sort->le,args_list_sort->lf,Call_->lj,strKind_oneLt->lJ,entry_tuple_getitem->lL,args_tuple_getitem->lW,plain_sorted->ma,entry_sorted->md,args_sorted1->me,kind_sorted->mL
open Nat renaming le_refl->aF,le_trans->aM,lt_of_lt_of_le->bb,ne_of_lt->bh,lt_irrefl->bN,zero_le->cn,lt_succ_self->cC,succ_pos->cR,lt_succ_of_lt->dR,ne_of_gt->dU,zero_max->dZ,zero_add->d0,reduceLeDiff->d6,add_sub_cancel_left->ei,lt_of_le_of_lt->eG,le_succ->eL,reduceAdd->eV,reduceLT->fB,lt_of_succ_lt->fR,min_eq_left->gh,le_of_lt->gp,le_of_ble_eq_true->gA,le_add_right->gG,sub_self->iX,pow_le_pow_right->i3,le_of_eq->jV,mul_le_mul_right->lB,add_assoc->lI,add_comm->l5,le_of_succ_le->mw,add_mul->mM,min_le_right->mQ,one_ne_zero->nq,not_lt_zero->nu
open Bool renaming and_eq_true->aW,false_eq_true->bi,false_ne_true->cf,or_eq_true->cz,not_true->d8,not_false->eI,eq_iff_iff->eO,and_true->gd,not_eq_true'->im,and_eq_true_iff->i0,and_eq_false_iff->lh,false_or->lG,not_not->ml,false_and->nv,and_false->nD,true_and->nR
open PySem.PyData renaming eqv->be,list->fq,eqvAll->fL,tuple->hJ,canLay0->ja,depth->l8,canLayAll0->mx,depthAll->nj
open PySem.Obj renaming mapSeq->br,data_mapFields->hU,isFreed_of_fields->kX,putSet->lA,cls_mapFields->mC
open Ne renaming symm->bB
open PySem.F renaming plain_min_loop->bD,entry_min_loop->eu,slot_str_ascii_iterator_next->eQ,slot_enumerate_next->fF,slot_tuple_iterator_next->fK,args_str_ascii_iterator_next_1->iA,entry_str_ascii_iterator_next->iM,slot_zip_next->iW,args_tuple_iterator_next_1->jc,entry_tuple_iterator_next->jo,slot_dict_delitem->jM,slot_dict_getitem->jO,args_tuple_add_2->jT,entry_tuple_add->j9,plainAttrs_list->kg,args_enumerate_next_1->kh,slot_tuple_add->kE,plainAttrs_str->kG,entry_enumerate_next->kH,slot_list_append->kP,slot_enumerate_iter->kZ,slot_list_extend->k7,attr_ValueError->ms,args_zip_next_1->mD,plain_list_iadd->mH,plain_min->mI,entry_min->mJ,entry_zip_next->mS,kind_min->mY
open PySem.Builtin.Str renaming occurrences->bS
open Option.some renaming inj->bZ
open PySem.Builtin.SmallTypes renaming nextOf->cj,ownedTupleIsFree->cI,ownedTupleHandOut->dW
open Classical renaming byContradiction->cN
open PySem.Heap.SameBut renaming update->cU
open PySem.NameKind renaming free->dk,cell->dP
open Sum renaming inr->dq,inl->jR
open PySem.Around renaming under_plainId->dO,frames_deeper->lq
open List.Perm renaming refl->eH,append_left->fG,swap->nJ
open List.Pairwise renaming nil->eS,imp_of_mem->j0
open PySem.SetTable renaming below->fj,grown->f6,fits->nQ
open PySem.Value renaming type->fo,ref->fx,isStrOf->fH,none->gD,builtin->gM,isInt->iq,isStrOf_shape->i5,bool->jL,int->lR,str->lS
open True renaming intro->ft
open PySem.Str renaming ofString->fw
open And renaming intro->fz
open PySem.Builtin.Builtins renaming bindParams->fA
open Int renaming toNat_natCast->fM,emod_lt_of_pos->hW,emod_nonneg->i4
open PySem.Builtin.Slice renaming slicePlaces->fU,sliceAdjust->gW,sliceApplied->jv
open PySem.Builtin.Tuple renaming tupleExact->f8,tupleItemsOf->jw,tupleIsExact->jz
open PySem.Builtin.List renaming listTooLong->f9,listLengthHint->js,listExtendWith->jt,listSameRef->j5,listItems->kJ
open ForInStep renaming yield->gf
open PyProof.Rows.KeyOrd renaming kle_of_klt->gm,kle_trans->iE
open Sum.inr renaming inj->gQ
open Option renaming map_some->gX,isSome_iff_exists->g8,none->jh,map_eq_some_iff->kA,isSome_some->lZ,getD_none->mR,map->m7
open PySem.Calls renaming call_function_entry->gY,Name_function_global->ju,spliced_cons->lV,spliced_nil->mq
open PySem.SetTable.below renaming go->il
open Array.Perm renaming refl->iY
open PySem.Builtin.ObjectAttr renaming bindTo->jN
open PySem.AutoSeq1 renaming sub_tuple_tuple->jX
open PySem.Builtin.Frozenset renaming addrOf->j4,oneOther->nO,sizeOf->nV,slot0->nW
open PySem.SeqAt.EqAt renaming int_int->j6
open PySem.PassesOwn renaming never->kw
open PySem.Walks renaming list->lr
open PyProof.Rows.SortSt renaming mk'->lz
open PySem.Paired renaming length->lD
open PySem.Code renaming compLoop->lH,compStart->ny
open PySem.pickOrder renaming go->mh
open Nat.succ renaming inj->mi
open Prod renaming ext->mO
open PySem.W.WData renaming int->nK
open PySem.Txt renaming slice->nM
open PySem.SeqAt renaming shaped->nU
open PySem.W.OpenRow renaming toRowW->nX
open Prod.mk renaming inj->nY
open PySem.Heap.IsSliceOf renaming new->nZ
namespace K54
open PySem PySem.W
noncomputable def ty(i:Nat):eJ:=PySem.Challenge.pw_leastterms_k54_whole_sums_and_products.main.body.getD i (.Pass ⟨0,0,0,0⟩)
def Qv:aN:={ PySem.Challenge.pw_leastterms_k54_whole_sums_and_products with main:={ PySem.Challenge.pw_leastterms_k54_whole_sums_and_products.main with body:=[ty 1,ty 2,ty 3,ty 4,ty 6,ty 7,ty 8,ty 9,ty 10,ty 11,ty 13,ty 14,ty 15,ty 16,ty 17,ty 18,ty 19,ty 21,ty 22,ty 23,ty 24,ty 25,ty 26,ty 27,ty 28,ty 29,ty 30,ty 31,ty 32,ty 34,ty 35,ty 36,ty 37,ty 38,ty 39,ty 41,ty 42,ty 43,ty 44,ty 45,ty 46,ty 47,ty 48,ty 50,ty 51,ty 52,ty 53,ty 54,ty 55,ty 56,ty 57,ty 58,ty 59,ty 60,ty 61,ty 63,ty 64,ty 65,ty 66,ty 67,ty 68] } }
def Lv:List PySem.Str:=[fw "POINTS_BY_SWITCHES",fw "SWITCHES_BY_POINTS"]
def Xv:ag → Bool:=λs=>PySem.W.xlAt Qv [] s&&PySem.W.recOk (PySem.W.RowW.records (nX PySem.Challenge.rw_leastterms_k54_whole_sums_and_products.row)) s
def bY{α a d:Type}{x:Option α}{f:α → a}{g:α → d}{b:a}{c:d}(e:x.map f=KB b)(h:x.map g=KB c):x.map (λs=>(f s,g s))=KB (b,c):=by
  cases x with
  |none=>cases e
  | some s=>
    have i:f s=b:=bZ e;have j:g s=c:=bZ h;show KB (f s,g s)=_;rw[i,j]
end K54
section
open PySem PySem.W PyProof.Rows
set_option maxRecDepth 100000 in
def K54.ws:PySem.Challenge.rw_leastterms_k54_whole_sums_and_products.wellSaid=KM:=by kernel_rfl
local macro_rules|`(tactic| o_head $H)=>`(tactic| skip)
set_option maxRecDepth 100000 in
set_option maxHeartbeats 0 in
def K54.hp:False → PySem.Challenge.rw_leastterms_k54_whole_sums_and_products.Holds:=by
  intro a
  w_on;refine mo K54.ws λb=>?_;k_head
  all_goals exact a.elim
end

namespace DLT
open PySem PySem.W
noncomputable def o0(tb:String → Option dH)(p:aN)(w:aY)(m:Nat)(an:Option ab):Nat → mm → Thread → Option mm
  |0,_,_=>KF
  | k+1,a,th=>match through th with
    |true=>KB a
    | false=>match stepOk m an th with
      |false=>KF
      | true=>match stepT (denote tb) p w a th with
        |some (b,Te)=>o0 tb p w m an k b Te
        |none=>KF
theorem o9{d:String → Option dH}{p:aN}{w:aY}{m:Nat}{e:Option ab}:∀{k:Nat}{a z:mm}{c:Thread},o0 d p w m e k a c=KB z → topRun d p w m e k a.abs c=KB z.abs
  |0,_,_,_,H=>by cases H
  | k+1,a,z,c,H=>by
    unfold o0 at H;unfold topRun;cases g:through c with
    |true=>rw[g] at H;cases H;rfl
    | false=>
      rw[g] at H;cases h:stepOk m e c with
      |false=>rw[h] at H;cases H
      | true=>
        rw[h] at H;cases f:stepT (denote d) p w a c with
        |none=>rw[f] at H;cases H
        |some q=>obtain⟨b,i⟩:=q;rw[f] at H;rw[stepT_spec f];exact o9 H
def pd:Nat → BT → List Obj → BT
  |_,T,[]=>T
  |i,T,o::os=>pd (i+1) (T.ins i o) os
noncomputable def o3(P:iO):BT:=pd 0 .nil (cJ P).objs.toList
def boot_abs:∀P:iO,absHeap (o3 P) (cJ P).objs.size (cJ P).life=cJ P:=λP=>by kernel_rfl
noncomputable def HN(P:iO)(os:gP):mm:=⟨o3 P,(cJ P).objs.size,(cJ P).life,ll [],boot_drawn,boot_toks,os⟩
noncomputable def s0(P:iO)(os:gP):ag:=⟨cJ P,ll [],boot_drawn,boot_toks,os⟩
def pj(P:iO)(a:gP):(HN P a).abs=s0 P a:=by unfold HN s0 SharedT.abs;rw[boot_abs P]
def o8:∀P:iO,((cJ P).isNs bI&&(ll []:Array mN).size==0,(cJ P).objs.size,(cJ P).nsMap bI "__annotations__")=(KM,11,KB (.ref 6)):=λP=>by kernel_rfl
def chk(p:aN)(h:aX)(s:ag):Bool:=staticsOk (dD p.main.body) h s.heap&&namesBound p s.heap&&gensDone s&&laidKept h s.heap
def o4{p:aN}{w:aY}{P:iO}{b:gP}{N:Nat}{α:Type}{f:ag → α}{a:α}(h:(o0 treeTable p w 11 (KB (.ref 6)) N (HN P b) (topStub p)).map (λs=>(chk p (cJ P) s.abs,f s.abs))=KB (KM,a)):(topFrom treeTable p w N (s0 P b)).map f=KB a:=by
  obtain⟨s,e,d⟩:=kA.mp h;have r:=o9 e;rw[pj] at r;obtain⟨g,i,j⟩:_ ∧ _ ∧ _:=by simpa only[Prod.mk.injEq] using o8 P
  obtain⟨k,l⟩:=nY d;unfold topFrom;show m7 f (match (cJ P).isNs bI&&(ll []:Array mN).size==0 with
    | true=>(topRun treeTable p w (cJ P).objs.size ((cJ P).nsMap bI "__annotations__") N (s0 P b) (topStub p)).bind λc=>match chk p (cJ P) c with
      |true=>KB c
      |false=>KF
    |false=>KF)=KB a
  rw[g,i,j,r];show m7 f (match chk p (cJ P) s.abs with
      |true=>KB s.abs
      |false=>KF)=KB a
  rw[k];exact congrArg KB l
def pk{α a e h:Type}{x:Option α}{f:α → a×e}{g:α → h}{b:a}{c:e}{d:h}(i:x.map (λs=>((f s).1,g s))=KB (b,d))(j:x.map (λs=>(f s).2)=KB c):x.map (λs=>(f s,g s))=KB ((b,c),d):=by
  cases x with
  |none=>cases i
  | some s=>
    obtain⟨k,l⟩:=nY (bZ i);have m:(f s).2=c:=bZ j;exact congrArg KB (mO (mO k m) l)
noncomputable abbrev R(p:aN)(N:Nat)(w:aY)(P:iO)(os:gP):Option mm:=o0 treeTable p w 11 (KB (.ref 6)) N (HN P os) (topStub p)
def left_of{p q:aN}{loose:List Str}{Xt:ag → Bool}{α:Type}{Yf:ag → α}{Ya:aY → α}{N:Nat}{b:Bool}(a:String)(e:opening p=plainProg p.main.scope.names)(i:Nat.ble 600 N=KM)(j:∀s,fenceModules? p s=KB s)
    (l:∀(v:Bool)(w:aY)(c:gP),(R p N (w.withFollow a v) w.params c).map (λs=>(chk p (cJ w.params) s.abs,((openSeen q loose (dD p.main.body) Xt b s.abs).1,Yf s.abs)))=KB (KM,(openGood q loose).1,Ya (w.withFollow a v)))
    (m:∀(v:Bool)(w:aY)(c:gP),(R p N (w.withFollow a v) w.params c).map (λs=>(chk p (cJ w.params) s.abs,(openSeen q loose (dD p.main.body) Xt b s.abs).2))=KB (KM,(openGood q loose).2)):
    LeftO p q loose Xt Yf Ya N b:=LeftO.of_split a λw=>by
  obtain⟨⟨h,n,d,k,c⟩,x,y⟩:=kA.mp (boot_open e i j w);obtain⟨rfl,rfl,rfl,rfl⟩:h=cJ w.params ∧ n=ll [] ∧ d=boot_drawn ∧ k=boot_toks:=by simpa using y
  rw[x];have go (v:Bool):(topFrom treeTable p (w.withFollow a v) N (s0 w.params c)).map (λs=>(openSeen q loose (dD p.main.body) Xt b s,Yf s))=KB (openGood q loose,Ya (w.withFollow a v)):=
    pk (f:=λs=>openSeen q loose (dD p.main.body) Xt b s) (g:=Yf) (o4 (f:=λs=>((openSeen q loose (dD p.main.body) Xt b s).1,Yf s)) (l v w c)) (o4 (f:=λs=>(openSeen q loose (dD p.main.body) Xt b s).2) (m v w c))
  exact congrArg KB (mO (go K7) (go KM))
end DLT

namespace K54
open PySem PySem.W
abbrev As:List ae:=[2,3,15,22,23,24,25,28,35,36,37,40,47,48,49,52,59,60,61,64,66,67,69,70,71,73,74,76,77,78,80,81,83,84,85,87,88,90,91,92,95,96,97,98,99,101,102,104,105,106,109,110,111,113,114,116,117,118,120,121,123,124,125,128,129,130,133,134,135,138,139,140,143,144,145,147,148,150,151,152,155,156,157,160,161,162,164,165,167,168,169,171,172,174,175,176,178,179,181,182,183,185,186,188,189,190,193,194,195,198,199,200,203,204,205,208,209,210,212,213,215,216,217,220,221,222,225,226,227,230,231,232,235,236,237,240,241,242,245,246,247,250,251,252,255,256,257,259,260,262,263,264,266,267,269,270,271,273,274,276,277,278,281,282,283,285,286,288,289,290,292,293,295,296,297,299,300,302,303,304,306,307,309,310,311,313,314,316,317,318,321,322,323,325,326,328,329,330,333,334,335,338,339,340,343,344,345,347,348,350,351,352,354,355,357,358,359,361,362,364,365,366,368,369,371,372,373,376,377,378,380,381,383,384]
noncomputable def Hk:PySem.W.Hook:=PySem.W.kmHook K54.hp.heap_1 K54.As (λ_=>by kernel_rfl) [243]
abbrev Pg:aN:=PySem.Challenge.rw_leastterms_k54_whole_sums_and_products.row.prog
set_option maxRecDepth 100000 in
def la1:∀(w:aY)(a:gP),(DLT.R Pg 5200 (w.withFollow "special-get-raises" K7) w.params a).map (λs=>(DLT.chk Pg (cJ w.params) s.abs,((openSeen Qv Lv (dD Pg.main.body) Xv KM s.abs).1,(Hk.obs s.abs,decide (0<s.abs.toks)))))=KB (KM,((openGood Qv Lv).1,(Hk.val (w.withFollow "special-get-raises" K7),KM))):=λw a=>by kernel_rfl
set_option maxRecDepth 100000 in
def HV:∀(w:aY)(a:gP),(DLT.R Pg 5200 (w.withFollow "special-get-raises" K7) w.params a).map (λs=>(DLT.chk Pg (cJ w.params) s.abs,(openSeen Qv Lv (dD Pg.main.body) Xv KM s.abs).2))=KB (KM,(openGood Qv Lv).2):=λw a=>by kernel_rfl
set_option maxRecDepth 100000 in
def lb1:∀(w:aY)(a:gP),(DLT.R Pg 5200 (w.withFollow "special-get-raises" KM) w.params a).map (λs=>(DLT.chk Pg (cJ w.params) s.abs,((openSeen Qv Lv (dD Pg.main.body) Xv KM s.abs).1,(Hk.obs s.abs,decide (0<s.abs.toks)))))=KB (KM,((openGood Qv Lv).1,(Hk.val (w.withFollow "special-get-raises" KM),KM))):=λw a=>by kernel_rfl
set_option maxRecDepth 100000 in
def lb2:∀(w:aY)(a:gP),(DLT.R Pg 5200 (w.withFollow "special-get-raises" KM) w.params a).map (λs=>(DLT.chk Pg (cJ w.params) s.abs,(openSeen Qv Lv (dD Pg.main.body) Xv KM s.abs).2))=KB (KM,(openGood Qv Lv).2):=λw a=>by kernel_rfl
def lw:PySem.W.LeftO Pg Qv Lv Xv (λs=>(Hk.obs s,decide (0<s.toks))) (λw=>(Hk.val w,KM)) 5200:=DLT.left_of "special-get-raises" rfl rfl (λ_=>rfl) (λv=>match v with|false=>la1|true=>lb1) (λv=>match v with|false=>HV|true=>lb2)
end K54

-- MV: your Tj module here, as the last of Td rows
namespace L2
open PySem PySem.Spec PyProof.Rows
abbrev Key:=Sum Int Str
def Cd:Key->ab->Bool
 |.inl k,v=>iq k v
 |.inr x,v=>fH x v
noncomputable def UW(w:aY):Key->Int
 |.inl k=>hashInt k
 |.inr x=>hashStr w x
def yr:∀{k:Key}{v:ab},Cd k v=KM->(∃i t,k=jR i/\v=lR i t)\/(∃x t,k=dq x/\v=lS x t)
 | .inl i,v,h=>by
  obtain⟨t,e⟩:=Value.isInt_shape (k:=i) (v:=v) h;exact .inl ⟨i,t,rfl,e⟩
 | .inr x,v,h=>by
  obtain⟨t,e⟩:=i5 (x:=x) (v:=v) h;exact .inr ⟨x,t,rfl,e⟩
def zdE(i:Int)(t:Tok):Cd (.inl i) (.int i t)=KM:=by simp[Cd,iq]
def ze7(x:Str)(t:Tok):Cd (.inr x) (.str x t)=KM:=by simp[Cd,fH]
def W_(a b:Int):decide ((jR a:Key)=jR b)=(a==b):=by
 by_cases e:a=b
 ·subst e;simp
 ·have h:¬ (jR a:Key)=jR b:=λq=>e (Sum.inl.inj q);rw[decide_eq_false h];exact(beq_eq_false_iff_ne.mpr e).symm
def Xs(a b:Str):decide ((dq a:Key)=dq b)=decide (a=b):=by
 by_cases e:a=b
 ·subst e;simp
 ·have h:¬ (dq a:Key)=dq b:=λq=>e (gQ q);rw[decide_eq_false h,decide_eq_false e]
def XE(a:Int)(b:Str):decide ((jR a:Key)=dq b)=K7:=decide_eq_false (λq=>nomatch q)
def XM(a:Str)(b:Int):decide ((dq a:Key)=jR b)=K7:=decide_eq_false (λq=>nomatch q)
def vE(prog:aN)(w:aY):PySem.KeyKind prog w Key where
 is:=Cd
 hash:=UW w
 inj:=λv a b ha hb=>by
  rcases yr ha with⟨i,t,rfl,rfl⟩|⟨x,t,rfl,rfl⟩
  ·rcases yr hb with⟨j,u,rfl,e⟩|⟨y,u,rfl,e⟩
   ·injection e with e1 _;rw[e1]
   ·exact nomatch e
  ·rcases yr hb with⟨j,u,rfl,e⟩|⟨y,u,rfl,e⟩
   ·exact nomatch e
   ·injection e with e1 _;rw[e1]
 byValue:=λk v h=>by
  rcases yr h with⟨i,t,rfl,rfl⟩|⟨x,t,rfl,rfl⟩<;>rfl
 pyHash:=λhv h=>by
  rcases yr hv with⟨i,t,rfl,rfl⟩|⟨x,t,rfl,rfl⟩
  ·exact wpAny_pyHash_int h
  ·exact wpAny_pyHash_str h
 eqBool:=λhu hv h=>by
  rcases yr hu with⟨i,t,rfl,rfl⟩|⟨x,t,rfl,rfl⟩
  ·rcases yr hv with⟨j,u,rfl,rfl⟩|⟨y,u,rfl,rfl⟩
   ·rw[W_] at h;exact wpAny_eqBool_int h
   ·rw[XE] at h;exact SeqAt.EqAt.int_str i t y u _ _ _ _ h
  ·rcases yr hv with⟨j,u,rfl,rfl⟩|⟨y,u,rfl,rfl⟩
   ·rw[XM] at h;exact SeqAt.EqAt.str_int x t j u _ _ _ _ h
   ·rw[Xs] at h;exact wpAny_eqBool_str h
 «strs»:=λk x t v h=>by
  rcases yr h with⟨i,u,rfl,e⟩|⟨y,u,rfl,e⟩
  ·exact nomatch e
  ·injection e with e1 _;subst e1;cases v<;>rfl
def z9L(prog:aN)(w:aY)(i:Int)(t:Tok):(vE prog w).is (.inl i) (.int i t)=KM:=zdE i t
def zaI(prog:aN)(w:aY)(x:Str)(t:Tok):(vE prog w).is (.inr x) (.str x t)=KM:=ze7 x t
inductive V where
 |non|bl (b:Bool)|int (i:Int)|str (x:Str)|byt (b:Array UInt8)|flt (b:UInt64)|ref (a:ae)|ty (n:String)
 deriving DecidableEq
def RelV:V->ab->Prop
 |.non,u=>u=gD
 |.bl b,u=>u=jL b
 |.int i,u=>∃t,u=lR i t
 |.str x,u=>∃t,u=lS x t
 |.byt b,u=>∃t,u=Value.bytes b t
 |.flt b,u=>∃t,u=Value.float b t
 |.ref a,u=>u=fx a
 |.ty n,u=>u=fo n
abbrev oa:List V->List ab->Prop:=ck RelV
def oa.length{xs:List V}{a:List ab}(r:oa xs a):xs.length=a.length:=lD r
theorem oa.get:∀{xs:List V}{a:List ab}{i:Nat}{x:V},oa xs a->xs[i]?=KB x->∃u,a[i]?=KB u/\RelV x u
 |_,_,_,_,.nil,e=>by simp at e
 |_,_,0,_,.cons r _,e=>by simp at e;subst e;exact⟨_,rfl,r⟩
 | _,_,i+1,x,.cons _ t,e=>by
  obtain⟨u,b,c⟩:=oa.get (i:=i) (x:=x) t (by simpa using e);exact⟨u,by simpa using b,c⟩
theorem oa.set{x:V}{u:ab}(r:RelV x u):∀{xs:List V}{a:List ab}(i:Nat),oa xs a->oa (xs.set i x) (a.set i u)
 |_,_,_,.nil=>.nil
 |_,_,0,.cons _ t=>.cons r t
 |_,_,i+1,.cons q t=>.cons q (oa.set r i t)
theorem oa.append:∀{xs a:List V}{b c:List ab},oa xs b->oa a c->oa (xs++a) (b++c)
 |_,_,_,_,.nil,s=>s
 |_,_,_,_,.cons r t,s=>.cons r (oa.append t s)
theorem oa.take:∀{xs:List V}{a:List ab}(n:Nat),oa xs a->oa (xs.take n) (a.take n)
 |_,_,0,_=>.nil
 |_,_,_+1,.nil=>.nil
 |_,_,n+1,.cons r t=>.cons r (oa.take n t)
theorem oa.drop:∀{xs:List V}{a:List ab}(n:Nat),oa xs a->oa (xs.drop n) (a.drop n)
 |_,_,0,r=>r
 |_,_,_+1,.nil=>.nil
 |_,_,n+1,.cons _ t=>oa.drop n t
def oO:Option V->Option ab->Prop
 |some v,KB u=>RelV v u
 |none,KF=>True
 |_,_=>False
def KV{κ:Type}:List (κ×V)->List (κ×ab)->Prop:=ck λ(p:κ×V)(q:κ×ab)=>p.1=q.1/\RelV p.2 q.2
def kV:Key->V
 |.inl i=>.int i
 |.inr x=>.str x
inductive HO where
 |lst (xs:List V)
 |tup (xs:List V)
 |dK (k_:List (Key×V))|dT (k_:List (List Key×V))
 |set (S:Int->Bool) (n:Nat)
 |ins (C dx:ae) (fs:List (Str×V))
 |own (x:ae)
 |xd (fs:List (Str×V))
 |met (f x:ae)
 |rng (lo hi:Int)
 |frz (o:Obj) (u:HO)
 |tbl (ps:Array ab)
 |ext (φ:aX->Prop)
abbrev Hp:=ae->Option HO
noncomputable def upd(H:Hp)(a:ae)(o:HO):Hp:=λb=>if b=a then KB o else H b
def qP{H:Hp}{a:ae}{o:HO}:upd H a o a=KB o:=by unfold upd;rw[qb rfl]
def pI{H:Hp}{a b:ae}{o:HO}(h:b≠a):upd H a o b=H b:=by unfold upd;rw[qq h]
def Vu{H:Hp}{a b:ae}{o u:HO}(h:H a=KB o)(h':H b=KB u)(d:o≠u):a≠b:=by intro e;subst e;rw[h] at h';exact d (bZ h')
def rm{H:Hp}{a b:ae}{o:HO}(h:H a=KB o)(h':H b=KF):a≠b:=by intro e;subst e;rw[h] at h';cases h'
def oG(h:aX)(a:ae)(items:Array ab):Prop:=∃o,h.get? a=KB o/\o.cls=.type "tuple"/\(∃n,o.data=.seq items n)/\o.dict=KF
def oG.tup{h:aX}{a:ae}{items:Array ab}(x:oG h a items):IsTup h a items:=let ⟨o,e,c,d,_⟩:=x;⟨o,e,c,d⟩
def oG.new(h:aX)(items:Array ab):oG (h.push { cls:=.type "tuple",data:=.seq items }) h.objs.size items:=⟨_,aC _ rfl,rfl,⟨_,rfl⟩,rfl⟩
section
variable(P:aN)(w:aY)
def oy(H:Hp)(h:aX)(a:ae):HO->Prop
 |.lst xs=>xs.length<=qN/\∃(h_:List ab)(n:Nat),oa xs h_/\h.get? a=KB { cls:=.type "list",data:=.seq h_.toArray n }
 |.tup xs=>xs.length<=qN/\∃h_:List ab,oa xs h_/\oG h a h_.toArray
 |.dK k_=>k_.length<=qN/\(a==sysModules)=K7/\∃vs,KV k_ vs/\h.DictOf (vE P w) a vs
 | .dT k_=>k_.length<=qN/\(a==sysModules)=K7/\∃xs:List (List Key×ae×ab),
   ck (λ(p:List Key×V)(q:List Key×ae×ab)=>p.1=q.1/\H q.2.1=KB (.tup (p.1.map kV))/\RelV p.2 q.2.2) k_ xs/\
   ∃o es ep,h.get? a=KB o/\o.ExactDict/\o.data=.dict es ep/\es.toList=xs.map (entryOfKey (tupleKind (vE P w)))/\(xs.map (·.1)).Nodup
 |.set S n=>h.SetOf (intKind P w) a S n
 | .ins C dx fs=>H dx=KB (.own a)/\fs.length<=1000/\dx≠a/\h.get? a=KB (m9 C dx)/\
   ∃mA,h.Ns1 dx mA/\(∀f,oO (fs.lookup f) (mA f))/\PySem.Within mA (fs.map (·.1))
 |.own _=>∃o,h.get? a=KB o
 |.xd fs=>∃mA,h.Ns1 a mA/\∀f,oO (fs.lookup f) (mA f)
 |.rng lo hi=>∃t u v,h.get? a=KB { cls:=.type "range",data:=.fields #[.int lo t,.int hi u,.int 1 v] }
 |.frz o u=>h.get? a=KB o/\oy H h a u
 |.tbl ps=>h.get? a=KB { cls:=.none,data:=.fields ps }
 |.met f x=>h.get? a=KB (jF (.ref f) (.ref x))
 |.ext φ=>φ h/\(∃o,h.get? a=KB o)/\∀h1 h2:aX,φ h1->(∀o,h1.get? a=KB o->h2.get? a=KB o)->φ h2
def HOk(H:Hp)(h:aX):Prop:=∀a o,H a=KB o->oy P w H h a o
end
section
variable{P:aN}{w:aY}{H H':Hp}{h h':aX}{a:ae}{o:HO}
def oy.lt(x:oy P w H h a o):a<h.objs.size:=by
 cases o with
 |lst xs=>obtain⟨_,_,_,_,e⟩:=x;exact aI e
 |tup xs=>obtain⟨_,_,_,p⟩:=x;exact(oG.tup p).lt
 |dK k_=>obtain⟨_,_,_,_,o,_,_,e,_⟩:=x;exact aI e
 |dT k_=>obtain⟨_,_,_,_,o,_,_,e,_⟩:=x;exact aI e
 |set S n=>obtain⟨o,_,_,_,e,_⟩:=x;exact aI e
 |ins C dx fs=>obtain⟨_,_,_,e,_⟩:=x;exact aI e
 |own y=>obtain⟨_,e⟩:=x;exact aI e
 |xd fs=>obtain⟨_,⟨_,_,_,e,_⟩,_⟩:=x;exact aI e
 |rng lo hi=>obtain⟨_,_,_,e⟩:=x;exact aI e
 |frz ob u=>obtain⟨e,_⟩:=x;exact aI e
 |tbl ps=>exact aI (show h.get? a=KB _ from x)
 |met f y=>exact aI (show h.get? a=KB _ from x)
 |ext φ=>obtain⟨_,⟨_,e⟩,_⟩:=x;exact aI e
theorem Paired.mapP{α c:Type}{F G:α->c->Prop}:∀{d:List α}{e:List c},ck F d e->(∀a b,F a b->G a b)->ck G d e
 |_,_,.nil,_=>.nil
 |_,_,.cons r t,f=>.cons (f _ _ r) (Paired.mapP t f)
def oy.stay(x:oy P w H h a o)(k:∀b u,(b=a\/H b=KB (.own a))->h.get? b=KB u->h'.get? b=KB u)
  (B:∀b,H b=KB (.own a)->H' b=KB (.own a)) (D:∀b xs,H b=KB (.tup xs)->H' b=KB (.tup xs)):oy P w H' h' a o:=by
 induction o with
 |lst xs=>obtain⟨z,l,n,r,e⟩:=x;exact⟨z,l,n,r,k _ _ (.inl rfl) e⟩
 |tup xs=>obtain⟨z,l,r,g,e,c⟩:=x;exact⟨z,l,r,g,k _ _ (.inl rfl) e,c⟩
 |dK k_=>obtain⟨z,y,E,r,g,i,j,e,c⟩:=x;exact⟨z,y,E,r,g,i,j,k _ _ (.inl rfl) e,c⟩
 | dT k_=>
  obtain⟨z,y,xs,r,g,i,j,e,c⟩:=x;exact⟨z,y,xs,Paired.mapP r λp q z=>⟨z.1,D _ _ z.2.1,z.2.2⟩,g,i,j,k _ _ (.inl rfl) e,c⟩
 |set S n=>obtain⟨g,i,j,t,e,c⟩:=x;exact⟨g,i,j,t,k _ _ (.inl rfl) e,c⟩
 | ins C dx fs=>
  obtain⟨d,z,F,e,m,⟨s,i,j,G,c⟩,r⟩:=x;exact⟨B _ d,z,F,k _ _ (.inl rfl) e,m,⟨s,i,j,k _ _ (.inr d) G,c⟩,r⟩
 |own y=>obtain⟨g,e⟩:=x;exact⟨g,k _ _ (.inl rfl) e⟩
 |xd fs=>obtain⟨m,⟨s,i,j,e,c⟩,r⟩:=x;exact⟨m,⟨s,i,j,k _ _ (.inl rfl) e,c⟩,r⟩
 |rng lo hi=>obtain⟨t,u,v,e⟩:=x;exact⟨t,u,v,k _ _ (.inl rfl) e⟩
 |frz g u ih=>obtain⟨e,q⟩:=x;exact⟨k _ _ (.inl rfl) e,ih q⟩
 | tbl ps=>
  have e:h.get? a=KB { cls:=.none,data:=.fields ps }:=x;show h'.get? a=KB { cls:=.none,data:=.fields ps };exact k a _ (.inl rfl) e
 | met f y=>
  have e:h.get? a=KB (jF (.ref f) (.ref y)):=x;show h'.get? a=KB (jF (.ref f) (.ref y));exact k a _ (.inl rfl) e
 |ext φ=>obtain⟨p,⟨o,e⟩,A⟩:=x;exact⟨A _ _ p λo q=>k _ _ (.inl rfl) q,⟨o,k _ _ (.inl rfl) e⟩,A⟩
def HOk.lt(x:HOk P w H h)(e:H a=KB o):a<h.objs.size:=(x a o e).lt
def HOk.fresh(x:HOk P w H h)(e:h.objs.size<=a):H a=KF:=by
 cases q:H a with
 |none=>rfl
 |some u=>exact absurd (bb (x.lt q) e) (bN _)
def HOk.kept(x:HOk P w H h)(k:∀b u,h.get? b=KB u->h'.get? b=KB u):HOk P w H h':=λa o e=>
 (x a o e).stay (λb u _ q=>k b u q) (λ_ q=>q) λ_ _ q=>q
def HOk.laid(x:HOk P w H h)(k:∀b u,h.get? b=KB u->h'.get? b=KB u)(i:h.objs.size<=a)(d:oy P w (upd H a o) h' a o):HOk P w (upd H a o) h':=λb u e=>by
 have f:=x.fresh i;by_cases g:b=a
 ·subst g;rw[qP] at e;cases e;exact d
 ·rw[pI g] at e;exact(x b u e).stay (λc v _ q=>k c v q) (λc q=>by rw[pI (rm q f)];exact q) λc j q=>by rw[pI (rm q f)];exact q
end
def Rd(H:Hp)(a:ae)(u:HO):Prop:=H a=KB u \/ ∃o,H a=KB (.frz o u)
def Rd.of(h:H a=KB u):Rd H a u:=.inl h
def Rd.ok(r:Rd H a u)(x:HOk P w H h):oy P w H h a u:=by
 rcases r with r|⟨o,r⟩
 ·exact x a u r
 ·obtain⟨_,q⟩:=x a _ r;exact q
noncomputable def FV:Option HO->Prop
 |some (.lst _)=>True
 |some (.dK _)=>True
 |some (.dT _)=>True
 |some (.set _ _)=>True
 |some (.ins _ _ _)=>True
 |some (.ext _)=>True
 |_=>False
section
variable{P:aN}{w:aY}{H:Hp}{h h':aX}{x e:ae}{o':HO}
def HOk.write(ok:HOk P w H h)(a:FV (H x))(j:e=x\/H e=KB (.own x))(k:∀b u,b≠e->h.get? b=KB u->h'.get? b=KB u)(n:∃u,h'.get? e=KB u)
  (i:oy P w (upd H x o') h' x o'):HOk P w (upd H x o') h':=λb u q=>by
 have l:∀c y,H c=KB (.own y)->c≠x:=λc y r z=>by subst z;rw[r] at a;exact a
 have o:∀c d,H c=KB (.tup d)->c≠x:=λc d r z=>by subst z;rw[r] at a;exact a
 by_cases f:b=x
 ·subst f;rw[qP] at q;cases q;exact i
 ·rw[pI f] at q;by_cases g:b=e
  ·have m:H b=KB (.own x):=by
    rcases j with z|z
    ·exact absurd (g.trans z) f
    ·rw[g];exact z
   rw[q] at m;cases m;obtain⟨v,p⟩:=n;exact⟨v,by rw[g];exact p⟩
  ·refine(ok b u q).stay (λc v hc r=>k c v ?_ r) (λc r=>by rw[pI (l c b r)];exact r) λc d r=>by rw[pI (o c d r)];exact r
   rcases hc with rfl|hc
   ·exact g
   ·rintro rfl;rcases j with z|z
    ·exact l c b hc z
    ·rw[hc] at z;cases z;exact f rfl
end
structure Un(fs ex:List ae)(H H':Hp)(h h':aX):Prop where
 keep:∀b o,h.get? b=KB o->H b=KF->b∉fs->b∉ex->h'.get? b=KB o
 slot:∀b o,h.get? b=KB o->H b=KF->b∈fs->b∉ex->∃sl,h'.get? b=KB { o with slots:=sl }
 free:∀b o,h.get? b=KB o->H b=KF->b∉ex->H' b=KF
 there:∀b o,h.get? b=KB o->b∉ex->∃o',h'.get? b=KB o'
 tups:∀b xs,H b=KB (.tup xs)->H' b=KB (.tup xs)
 frzs:∀b o u,H b=KB (.frz o u)->H' b=KB (.frz o u)
 tbls:∀b ps,H b=KB (.tbl ps)->∃more,H' b=KB (.tbl (ps++more))
section
variable{fs Uq ex Uu:List ae}{H H1 H2:Hp}{h h1 h2 h':aX}{a x e:ae}{o:HO}
def Un.any(u:Un fs ex H H1 h h1){b:ae}{ob:Obj}(q:h.get? b=KB ob)(n:H b=KF)(c:b∉ex):∃sl,h1.get? b=KB { ob with slots:=sl }:=by
 by_cases d:b∈fs
 ·exact u.slot b ob q n d c
 ·exact⟨ob.slots,u.keep b ob q n d c⟩
def Un.trans(a:Un fs ex H H1 h h1)(b:Un fs ex H1 H2 h1 h2):Un fs ex H H2 h h2 where
 keep:=λc d q n i f=>b.keep c d (a.keep c d q n i f) (a.free c d q n f) i f
 slot:=λc d q n i f=>by
  obtain⟨t,g⟩:=a.slot c d q n i f;obtain⟨m,k⟩:=b.slot c _ g (a.free c d q n f) i f;exact⟨m,k⟩
 free:=λc d q n f=>by
  obtain⟨l,g⟩:=a.there c d q f;exact b.free c l g (a.free c d q n f) f
 there:=λc d q f=>by
  obtain⟨l,g⟩:=a.there c d q f;exact b.there c l g f
 tups:=λc j q=>b.tups c j (a.tups c j q)
 frzs:=λc d j q=>b.frzs c d j (a.frzs c d j q)
 tbls:=λc p q=>by
  obtain⟨r,g⟩:=a.tbls c p q;obtain⟨s,k⟩:=b.tbls c _ g;exact⟨r++s,by rw[k,lT]⟩
def Un.kept(k:∀b u,h.get? b=KB u->h'.get? b=KB u):Un fs ex H H h h':=
 ⟨λb c q _ _ _=>k b c q,λb c q _ _ _=>⟨c.slots,k b c q⟩,λ_ _ _ n _=>n,λb c q _=>⟨c,k b c q⟩,λ_ _ q=>q,λ_ _ _ q=>q,λ_ d q=>⟨#[],by rw[q];simp⟩⟩
def Un.refl:Un fs ex H H h h:=Un.kept λ_ _ q=>q
def Un.laid(k:∀b u,h.get? b=KB u->h'.get? b=KB u)(d:h.objs.size<=a)(c:H a=KF):Un fs ex H (upd H a o) h h' where
 keep:=λb u q _ _ _=>k b u q
 slot:=λb u q _ _ _=>⟨u.slots,k b u q⟩
 free:=λb u q n _=>by rw[pI (bh (bb (aI q) d))];exact n
 there:=λb u q _=>⟨u,k b u q⟩
 tups:=λb f q=>by rw[pI (rm q c)];exact q
 frzs:=λb u f q=>by rw[pI (rm q c)];exact q
 tbls:=λb g q=>⟨#[],by rw[pI (rm q c),q];simp⟩
def Un.write(c:FV (H x))(j:e=x\/H e=KB (.own x))(k:∀b u,b≠e->h.get? b=KB u->h'.get? b=KB u)(l:∃u,h'.get? e=KB u):Un fs ex H (upd H x o) h h':=by
 have f:∀b,H b=KF->b≠x:=λb n z=>by subst z;rw[n] at c;exact c
 have g:∀b,H b=KF->b≠e:=λb n z=>by
  subst z;rcases j with r|r
  ·exact f b n r
  ·rw[n] at r;cases r
 have d:∀b u,H b=KB u->¬ FV (KB u)->b≠x:=λb u q m z=>by subst z;rw[q] at c;exact m c
 refine⟨λb u q n _ _=>k b u (g b n) q,λb u q n _ _=>⟨u.slots,k b u (g b n) q⟩,λb u q n _=>by rw[pI (f b n)];exact n,λb u q _=>?_,
  λb p q=>by rw[pI (d b _ q λz=>z)];exact q,λb u p q=>by rw[pI (d b _ q λz=>z)];exact q,λb s q=>⟨#[],by rw[pI (d b _ q λz=>z),q];simp⟩⟩
 by_cases i:b=e
 ·subst i;exact l
 ·exact⟨u,k b u i q⟩
def Un.mono(u:Un fs ex H H1 h h1)(g:∀b∈fs,b∈Uq)(f:∀b∈ex,b∈Uu):Un Uq Uu H H1 h h1:=
 ⟨λb d q n i c=>u.keep b d q n (λz=>i (g b z)) λz=>c (f b z),λ_ _ q n _ c=>u.any q n λz=>c (f _ z),λb d q n c=>u.free b d q n λz=>c (f b z),λb d q c=>u.there b d q λz=>c (f b z),u.tups,u.frzs,u.tbls⟩
end
def HF(h:aX)(H:Hp):List ae:=(aA h.objs.size).filter λa=>(H a).isSome
def x9(h:aX)(H:Hp):aX:=PySem.W.hideAll h (HF h H)
def zf5(h:aX)(H:Hp):(x9 h H).objs.size=h.objs.size:=PySem.W.hideAll_size _ _
def zh1(e:h.get? b=KB o)(n:H b=KF):(x9 h H).get? b=KB o:=
 PySem.W.hideAll_get _ e λa=>by
  have q:(H b).isSome=KM:=(aO.mp a).2;rw[n] at q;simp at q
def Y6(e:(x9 h H).get? b=KB o):h.get? b=KB o/\H b=KF:=by
 have a:h.get? b=KB o:=PySem.W.of_hideAll (HF h H) e;refine⟨a,?_⟩;cases q:H b with
 |none=>rfl
 | some x=>
  have c:b∈HF h H:=aO.mpr ⟨aR.mpr (aI a),by simp[q]⟩;have z:(x9 h H).get? b=KF:=PySem.W.hideAll_none (HF h H) c;rw[z] at e;cases e
noncomputable def Zo(g h:aX)(L:ae):List (ae×Obj):=(aA h.objs.size).filterMap λa=>if a=L\/(g.get? a).isSome=KM then KF else (h.get? a).map λo=>(a,o)
def rest(g h:aX)(L d:ae):List (ae×Obj):=(Zo g h L).filter λp=>decide (p.1≠d)
structure Mod(K:ai)(mg:Str->Option ab)(base:aX):Prop where
 kin:K.In base
 glob:base.Ns bI mg
 blt:∃mb,base.Ns builtinsNs mb/\∀x:Str,x ≠ "__name__"->mb x=bA x
 nolimit:base.NoLimit
structure Cx where
 prog:aN
 w:aY
 K:ai
 mg:Str->Option ab
 base:aX
 A:ba
 N:List Str
 s₀:ag
 H₀:Hp
 env:Env
 outer:List Env
 stack:List Env
 ex:List ae
 fn:Str->Bool
 calm:Bool
 pn:List (ae×Obj)
 xe:ab->ag->Prop
noncomputable def um(l:List Env):List ae:=l.filterMap (·.frame)
abbrev Cx.fs(X:Cx):List ae:=um X.outer
def uE(sc:c8)(x:Str):Prop:=sc.names.lookup x=KB .local\/sc.names.lookup x=KB .cell\/sc.names.lookup x=KB .free
def Loc(sc:c8)(x:Str):Prop:=sc.names.lookup x=KB .local\/sc.names.lookup x=KB .cell
def UU(env:Env)(h:aX)(m:Str->Option ab)(x:Str)(u:ab):Prop:=
 (env.kindOf x=KB .local/\m x=KB u)\/((env.kindOf x=KB .cell\/env.kindOf x=KB .free)/\∃c,env.cells.lookup x=KB c/\h.IsCell c (KB u))
structure Cx.Ok(X:Cx):Prop where
 mod:Mod X.K X.mg X.base
 kind:X.env.scope.kind=.function
 glob:X.env.globals=bI
 blt:X.env.builtins=builtinsNs
 above:X.s₀.heap.objs.size<=X.env.locals
 inj:∀x y c,X.env.cells.lookup x=KB c->X.env.cells.lookup y=KB c->x=y
 has:∀x,(X.env.kindOf x=KB .cell\/X.env.kindOf x=KB .free)->∃c,X.env.cells.lookup x=KB c
 cab:∀x c,X.fn x=KM->X.env.cells.lookup x=KB c->X.s₀.heap.objs.size<=c
 hd:X.calm=KM->X.A.handled=KF
 frames:X.A.frames=KB X.stack
 stk:X.stack=X.outer\/(X.stack=X.env::X.outer/\X.env.frame=KB X.env.locals)
 exf:∀b∈X.ex,b≠X.env.locals/\∀x c,X.env.cells.lookup x=KB c->c≠b
 bs:∀b o,X.base.get? b=KB o->X.s₀.heap.get? b=KB o/\X.H₀ b=KF
 bsz:X.base.objs.size<=X.s₀.heap.objs.size
 noex:∀b o,X.base.get? b=KB o->b∉X.ex
 exfs:∀b∈X.ex,b∉X.fs
 funs:X.s₀.heap.FunFrames X.base X.outer
 frf:∀b∈X.fs,X.H₀ b=KF
structure Inv(X:Cx)(Y1:List (ae×Obj))(σ:List (Option V))(H:Hp)(s:ag):Prop where
 ok:X.Ok
 os:s.os=X.s₀.os
 bare:h9 s.gens
 base:Un X.fs X.ex X.H₀ H X.s₀.heap s.heap
 loc:∃m,s.heap.Ns X.env.locals m/\∀(i:Nat)(x:Str)(v:V),X.N[i]?=KB x->σ[i]?=KB (KB v)->uE X.env.scope x->∃u,RelV v u/\UU X.env s.heap m x u
 cell:∀x c,X.env.cells.lookup x=KB c->∃v,s.heap.IsCell c v
 free:H X.env.locals=KF
 freeC:∀x c,X.env.cells.lookup x=KB c->H c=KF
 pin:∀p∈X.pn++Y1,s.heap.get? p.1=KB p.2/\H p.1=KF/\p.1≠X.env.locals/\p.1∉X.fs/\∀v,p.2.data ≠ .cell v
 hok:HOk X.prog X.w H s.heap
 len:σ.length=X.N.length
 tk:0<s.toks
section
variable{X:Cx}{Y1:List (ae×Obj)}{σ:List (Option V)}{H H':Hp}{s:ag}{h':aX}
def Cx.Ok.nofr(ok:X.Ok)(e:X.base.get? b=KB o):b∉X.fs:=λa=>by
 have:=(ok.funs.mem a).1;rw[e] at this;cases this
def Inv.bs(I:Inv X Y1 σ H s):∀b o,X.base.get? b=KB o->s.heap.get? b=KB o/\H b=KF:=λb o e=>
 ⟨I.base.keep b o (I.ok.bs b o e).1 (I.ok.bs b o e).2 (I.ok.nofr e) (I.ok.noex b o e),I.base.free b o (I.ok.bs b o e).1 (I.ok.bs b o e).2 (I.ok.noex b o e)⟩
def Inv.bk(I:Inv X Y1 σ H s):∀b o,X.base.get? b=KB o->s.heap.get? b=KB o:=λb o e=>(I.bs b o e).1
def Inv.mod(I:Inv X Y1 σ H s):Mod X.K X.mg X.base:=I.ok.mod
def Inv.kIn(I:Inv X Y1 σ H s):X.K.In s.heap:=I.ok.mod.kin.keeps I.bk
def Inv.lt(I:Inv X Y1 σ H s):X.env.locals<s.heap.objs.size:=let ⟨_,hn,_⟩:=I.loc;hn.lt
def Inv.sz(I:Inv X Y1 σ H s):X.s₀.heap.objs.size<=s.heap.objs.size:=aM I.ok.above (gp I.lt)
def Inv.nofs(I:Inv X Y1 σ H s)(h:s.heap.objs.size<=a):a∉X.fs:=λb=>by
 obtain⟨_,o,c,_⟩:=I.ok.funs.mem b;exact absurd (bb (aI c) (aM I.sz h)) (bN _)
def Inv.cne(I:Inv X Y1 σ H s):∀x c,X.env.cells.lookup x=KB c->c≠X.env.locals:=λx c e z=>by
 obtain⟨v,o,a,b⟩:=I.cell x c e;obtain⟨m,⟨g,h,i,d,f,_⟩,_⟩:=I.loc;rw[z,d] at a;cases a;rw[f] at b;cases b
def Inv.funs(I:Inv X Y1 σ H s):s.heap.FunFrames X.base X.outer:=by
 have a:∀(l:List Env),(∀b∈um l,b∈X.fs)->X.s₀.heap.FunFrames X.base l->s.heap.FunFrames X.base l:=by
  intro l
  induction l with
  |nil=>intro _ _;trivial
  | cons env r ih=>
   intro g h;obtain⟨i,⟨L,o,c,j,k,m⟩,n⟩:=h;have d:L∈X.fs:=g L (by unfold um;rw[fc,c];exact au);obtain⟨p,e⟩:=I.base.slot L o k (I.ok.frf L d) d λz=>I.ok.exfs L z d;exact⟨i,⟨L,_,c,j,e,m⟩,ih (λb f=>g b (by unfold um;rw[fc,c];exact al _ f)) n⟩
 exact a X.outer (λ_ f=>f) I.ok.funs
def Inv.stack(I:Inv X Y1 σ H s):s.heap.FunFrames X.base X.stack:=by
 rcases I.ok.stk with e|⟨e,a⟩
 ·rw[e];exact I.funs
 ·rw[e];obtain⟨m,b,_⟩:=I.loc;refine .cons (by rw[I.ok.kind];decide) a b ?_ I.funs;exact Heap.get?_none_of_le (aM I.ok.bsz I.ok.above)
def Inv.stkSub(I:Inv X Y1 σ H s):∀b∈um X.stack,b∈X.env.locals::X.fs:=λb a=>by
 rcases I.ok.stk with e|⟨e,c⟩
 ·rw[e] at a;exact al _ a
 ·rw[e] at a;unfold um at a;rw[fc,c] at a;exact a
def Inv.stkFree(I:Inv X Y1 σ H s):∀b∈um X.stack,H b=KF:=λb hb=>by
 rcases aq.mp (I.stkSub b hb) with e|hb
 ·rw[e];exact I.free
 ·obtain⟨_,o,a,_⟩:=I.ok.funs.mem hb;exact I.base.free b o a (I.ok.frf b hb) λz=>I.ok.exfs b z hb
def Inv.step{g':Array mN}{t':Nat}{d':Drawn}{ch:List ae}(I:Inv X Y1 σ H s)
  (C:∀b∈ch,(b∈X.ex\/X.s₀.heap.objs.size<=b)/\b≠X.env.locals/\(∀x c,X.env.cells.lookup x=KB c->c≠b)/\∀p∈X.pn++Y1,p.1≠b)
  (g:∀b o,b≠X.env.locals->b∉X.fs->b∉ch->s.heap.get? b=KB o->H b=KF->h'.get? b=KB o)
  (t:∀b o,b≠X.env.locals->b∈X.fs->b∉ch->s.heap.get? b=KB o->H b=KF->∃sl,h'.get? b=KB { o with slots:=sl }) (f:∀b o,b∉ch->s.heap.get? b=KB o->H b=KF->H' b=KF)
  (y:∀b o,b∉ch->s.heap.get? b=KB o->∃D,h'.get? b=KB D)
  (E:∀b xs,H b=KB (.tup xs)->H' b=KB (.tup xs)) (F:∀b o u,H b=KB (.frz o u)->H' b=KB (.frz o u)) (G:∀b M,H b=KB (.tbl M)->∃J,H' b=KB (.tbl (M++J)))
  (ns:∀m,s.heap.Ns X.env.locals m->h'.Ns X.env.locals m) (O:HOk X.prog X.w H' h') (W:h9 g') (Y:0<t'):
  Inv X Y1 σ H' { s with heap:=h',gens:=g',drawn:=d',toks:=t' }:=by
 have Q:∀b o,X.s₀.heap.get? b=KB o->b≠X.env.locals:=λb o e=>bh (bb (aI e) I.ok.above);have N:∀b o,X.s₀.heap.get? b=KB o->b∉X.ex->b∉ch:=λb o e a A=>by
  rcases (C b A).1 with z|z
  ·exact a z
  ·exact absurd (bb (aI e) z) (bN _)
 have h:∀x c,X.env.cells.lookup x=KB c->∀v,s.heap.IsCell c v->h'.IsCell c v:=λx c e v ⟨o,B,P⟩=>by
  have K:c∉ch:=λz=>(C c z).2.2.1 x c e rfl;by_cases R:c∈X.fs
  ·obtain⟨sl,q⟩:=t c o (I.cne x c e) R K B (I.freeC x c e);exact⟨_,q,P⟩
  ·exact⟨o,g c o (I.cne x c e) R K B (I.freeC x c e),P⟩
 refine⟨I.ok,I.os,W,⟨λb o e n A a=>?_,λb o e n A a=>?_,λb o e n a=>?_,λb o e a=>?_,λb xs e=>E b xs (I.base.tups b xs e),λb o xs e=>F b o xs (I.base.frzs b o xs e),λb M e=>?_⟩,?_,λx c e=>?_,?_,λx c e=>?_,λp S=>?_,O,I.len,Y⟩
 ·exact g b o (Q b o e) A (N b o e a) (I.base.keep b o e n A a) (I.base.free b o e n a)
 ·obtain⟨sl,j⟩:=I.base.slot b o e n A a;obtain⟨Z,L⟩:=t b _ (Q b o e) A (N b o e a) j (I.base.free b o e n a);exact⟨Z,L⟩
 ·obtain⟨D,j⟩:=I.base.there b o e a;exact f b D (N b o e a) j (I.base.free b o e n a)
 ·obtain⟨D,j⟩:=I.base.there b o e a;exact y b D (N b o e a) j
 ·obtain⟨m1,j⟩:=I.base.tbls b M e;obtain⟨m2,L⟩:=G b _ j;exact⟨m1++m2,by rw[L,lT]⟩
 ·obtain⟨m,hn,hl⟩:=I.loc;refine⟨m,ns m hn,λi x v j L e3=>?_⟩;obtain⟨u,r,l⟩:=hl i x v j L e3;refine⟨u,r,?_⟩;rcases l with l|⟨k,c,e,z⟩
  ·exact .inl l
  ·exact .inr ⟨k,c,e,h x c e _ z⟩
 ·obtain⟨v,z⟩:=I.cell x c e;exact⟨v,h x c e v z⟩
 ·obtain⟨m,⟨o,_,_,B,_⟩,_⟩:=I.loc;exact f _ o (λz=>(C _ z).2.1 rfl) B I.free
 ·obtain⟨v,o,B,P⟩:=I.cell x c e;exact f c o (λz=>(C c z).2.2.1 x c e rfl) B (I.freeC x c e)
 ·obtain⟨e,n,T,U,d⟩:=I.pin p S;have K:p.1∉ch:=λz=>(C p.1 z).2.2.2 p S rfl;exact⟨g p.1 p.2 T U K e n,f p.1 p.2 K e n,T,U,d⟩
def Inv.un{t':Nat}(I:Inv X Y1 σ H s)(u:Un X.fs [] H H' s.heap h')(a:HOk X.prog X.w H' h')(h:0<t':=by first|exact cR _|exact Inv.tk ‹_›|assumption|lia):Inv X Y1 σ H' { s with heap:=h',toks:=t' }:=by
 obtain⟨m,⟨o,p,q,f,r⟩,_⟩:=id I.loc;obtain⟨t,i⟩:=u.any f I.free 'k';exact I.step (g':=s.gens) (d':=s.drawn) (ch:=[]) (λ_ z=>nomatch z) (λb o _ c _ e n=>u.keep b o e n c 'k') (λb o _ c _ e n=>u.slot b o e n c 'k') (λb o _ e n=>u.free b o e n 'k') (λb o _ e=>u.there b o e 'k') u.tups u.frzs u.tbls (λv j=>by
  obtain⟨x,d,k,g,l⟩:=j;rw[f] at g;cases g;exact⟨_,d,k,i,l⟩) a I.bare h
def Inv.call{g':Array mN}{t':Nat}{d':Drawn}{ch:List ae}(I:Inv X Y1 σ H s)(u:Un (um X.stack) ch H H' s.heap h')(d:HOk X.prog X.w H' h')(k:h9 g')
  (h:∀b∈ch,(b∈X.ex\/X.s₀.heap.objs.size<=b)/\b≠X.env.locals/\(∀x c,X.env.cells.lookup x=KB c->c≠b)/\∀p∈X.pn++Y1,p.1≠b) (l:0<t':=by first|exact cR _|exact Inv.tk ‹_›|assumption|lia):
  Inv X Y1 σ H' { s with heap:=h',gens:=g',drawn:=d',toks:=t' }:=by
 obtain⟨m,⟨o,A,B,i,r⟩,_⟩:=id I.loc;obtain⟨C,f⟩:=u.any i I.free λz=>(h _ z).2.1 rfl;exact I.step (ch:=ch) h (λb o f q a e n=>u.keep b o e n (λz=>(aq.mp (I.stkSub b z)).elim f q) a) (λb o _ _ a e n=>u.any e n a) (λb o a e n=>u.free b o e n a) (λb o a e=>u.there b o e a) u.tups u.frzs u.tbls (λD t=>by
  obtain⟨E,g,v,j,y⟩:=t;rw[i] at j;cases j;exact⟨_,g,v,f,y⟩) d k l
def Inv.turned{t':Nat}{it:ae}(I:Inv X Y1 σ H s)(k:∀b o,b≠it->s.heap.get? b=KB o->h'.get? b=KB o)(g:H it=KF)(d:it≠X.env.locals)
  (h:it∈X.ex\/X.s₀.heap.objs.size<=it) (i:∀x c,X.env.cells.lookup x=KB c->c≠it) (j:∀p∈X.pn++Y1,p.1≠it) (l:0<t':=by first|exact cR _|exact Inv.tk ‹_›|assumption|lia):Inv X Y1 σ H { s with heap:=h',toks:=t' }:=by
 have f:∀b u,H b=KB u->b≠it:=λb u e z=>by rw[z,g] at e;cases e
 refine I.step (g':=s.gens) (d':=s.drawn) (ch:=[it]) (λb t=>?_) (λb o _ _ a e _=>k b o (λz=>a (by simp[z])) e) (λb o _ _ a e _=>⟨o.slots,k b o (λz=>a (by simp[z])) e⟩) (λ_ _ _ _ n=>n)
  (λb o a e=>⟨o,k b o (λz=>a (by simp[z])) e⟩) (λ_ _ e=>e) (λ_ _ _ e=>e) (λb C e=>⟨#[],by rw[e];simp⟩) (λm w=>?_) (λb u e=>?_) I.bare l
 ·have e:b=it:=by simpa using t
  subst e;exact⟨h,d,i,j⟩
 ·obtain⟨o,y,A,B,r⟩:=w;exact⟨o,y,A,k _ o (bB d) B,r⟩
 ·refine(I.hok b u e).stay (λc v a q=>k c v ?_ q) (λ_ q=>q) λ_ _ q=>q;rcases a with z|z
  ·rw[z];exact f b u e
  ·exact f c _ z
def Inv.tok(I:Inv X Y1 σ H s)(t:Nat)(a:0<t:=by first|exact cR _|exact Inv.tk ‹_›|assumption|lia):Inv X Y1 σ H { s with toks:=t }:=I.un (h':=s.heap) (t':=t) Un.refl I.hok
def Inv.kept(I:Inv X Y1 σ H s)(k:∀b u,s.heap.get? b=KB u->h'.get? b=KB u)(a:0<t':=by first|exact cR _|exact Inv.tk ‹_›|assumption|lia):Inv X Y1 σ H { s with heap:=h',toks:=t' }:=I.un (Un.kept k) (I.hok.kept k)
def Inv.laid{a:ae}{o:HO}{t':Nat}(I:Inv X Y1 σ H s)(k:∀b u,s.heap.get? b=KB u->h'.get? b=KB u)(c:s.heap.objs.size<=a)(d:oy X.prog X.w (upd H a o) h' a o)(e:0<t':=by first|exact cR _|exact Inv.tk ‹_›|assumption|lia):
  Inv X Y1 σ (upd H a o) { s with heap:=h',toks:=t' }:=I.un (Un.laid k c (I.hok.fresh c)) (I.hok.laid k c d)
def Inv.write(I:Inv X Y1 σ H s)(c:FV (H x))(d:e=x\/H e=KB (.own x))(k:∀b u,b≠e->s.heap.get? b=KB u->h'.get? b=KB u)(f:∃u,h'.get? e=KB u)
  (a:oy X.prog X.w (upd H x o) h' x o) (g:0<t':=by first|exact cR _|exact Inv.tk ‹_›|assumption|lia):Inv X Y1 σ (upd H x o) { s with heap:=h',toks:=t' }:=I.un (Un.write c d k f) (I.hok.write c d k f a)
def Inv.pins_of(I:Inv X Y1 σ H s)(h:∀p∈EE,s.heap.get? p.1=KB p.2/\H p.1=KF/\p.1≠X.env.locals/\p.1∉X.fs/\∀v,p.2.data ≠ .cell v):Inv X EE σ H s:=
 ⟨I.ok,I.os,I.bare,I.base,I.loc,I.cell,I.free,I.freeC,λp a=>(aP.mp a).elim (λz=>I.pin p (bV _ z)) (h p),I.hok,I.len,I.tk⟩
def Rf{N:List Str}(c:N.Nodup){i j:Nat}{x:Str}(a:N[i]?=KB x)(b:N[j]?=KB x):i=j:=by obtain⟨f,d⟩:=ar.mp a;obtain⟨g,e⟩:=ar.mp b;exact(jS c).mp (d.trans e.symm)
def Ks{M:iP}{A:ba}{E:ab->ag->Prop}{i:Nat}{x:Str}{v:V}{u:ab}{Q:Unit->ag->Prop}(I:Inv X Y1 σ H s)(hN:X.N.Nodup)(G:X.N[i]?=KB x)(t:Loc X.env.scope x)(r:RelV v u)
  (h:∀O,Inv X Y1 (σ.set i (KB v)) H O->(∃a,cS a s.heap O.heap/\(a=X.env.locals\/X.env.cells.lookup x=KB a))->Q () O) (hf:X.fn x=KM\/X.env.scope.names.lookup x=KB .local:=by first|exact .inl rfl|exact .inr rfl|assumption):am M A (storeName X.env x u) Q E s:=by
 obtain⟨m,P,hl⟩:=id I.loc;have Mp:(X.env.scope.kind == .class||(X.env.scope.kind == .module&&X.env.locals !=X.env.globals))=K7:=by rw[I.ok.kind];rfl
 have Fm:i<σ.length:=by rw[I.len];exact(ar.mp G).1
 have C:=I.cne;have g:∀{a:ae}{h':aX},(∃o,s.heap.get? a=KB o/\H a=KF)->cS a s.heap h'->HOk X.prog X.w H h':=λ{a h'}ha f b ob e=>by
  obtain⟨_,_,qr⟩:=ha;refine(I.hok b ob e).stay (λc J hc q=>(f.2 c ?_).trans q) (λ_ q=>q) λ_ _ q=>q;rintro rfl;rcases hc with rfl|hc
  ·rw[qr] at e;cases e
  ·rw[qr] at hc;cases hc
 rcases t with hk|hk
 ·refine wpAny_storeName_local hk P (λh' Ib f=>?_) Mp;obtain⟨oL,_,_,R,_⟩:=id P;refine h _ ⟨I.ok,I.os,I.bare,⟨λb o e n D t=>?_,λb o e n D t=>?_,I.base.free,λb o e t=>?_,I.base.tups,I.base.frzs,I.base.tbls⟩,⟨_,Ib,λj y S l B T=>?_⟩,λy c e=>?_,I.free,I.freeC,λp U=>?_,g ⟨oL,R,I.free⟩ f,by simpa using I.len,cR _⟩ ⟨_,f,.inl rfl⟩
  ·exact(f.2 b (bh (bb (aI e) I.ok.above))).trans (I.base.keep b o e n D t)
  ·obtain⟨W,l⟩:=I.base.slot b o e n D t;exact⟨W,(f.2 b (bh (bb (aI e) I.ok.above))).trans l⟩
  ·obtain⟨Y,l⟩:=I.base.there b o e t;exact⟨Y,(f.2 b (bh (bb (aI e) I.ok.above))).trans l⟩
  ·by_cases F:j=i
   ·subst F;rw[G] at l;cases l;rw[bw Fm] at B;cases B;exact⟨u,r,.inl ⟨hk,by simp⟩⟩
   ·rw[bq (bB F)] at B;obtain⟨Z,r',q⟩:=hl j y S l B T;refine⟨Z,r',?_⟩;rcases q with⟨k,e⟩|⟨k,c,e,z⟩
    ·refine .inl ⟨k,?_⟩;have:y≠x:=λe=>F (Rf hN l (e▸G));simp[this,e]
    ·exact .inr ⟨k,c,e,z.sameBut f (C y c e)⟩
  ·obtain⟨J,z⟩:=I.cell y c e;exact⟨J,z.sameBut f (C y c e)⟩
  ·obtain⟨e,n,K,nf,d⟩:=I.pin p U;exact⟨(f.2 p.1 K).trans e,n,K,nf,d⟩
 ·have C4:X.fn x=KM:=by
   rcases hf with z|z
   ·exact z
   ·rw[z] at hk;cases hk
  obtain⟨c,hc⟩:=I.ok.has x (.inl hk);obtain⟨J,z⟩:=I.cell x c hc;refine wpAny_storeName_cell I.ok.kind hk hc z (λh' t_ f=>?_);obtain⟨oc,C3,LY⟩:=id z;refine h { s with heap:=h' } ⟨I.ok,I.os,I.bare,⟨λb o e n D t=>?_,λb o e n D t=>?_,I.base.free,λb o e t=>?_,I.base.tups,I.base.frzs,I.base.tbls⟩,⟨m,P.sameBut f (bB (C x c hc)),λj y S l B T=>?_⟩,λy L e=>?_,I.free,I.freeC,λp U=>?_,g ⟨oc,C3,I.freeC x c hc⟩ f,by simpa using I.len,I.tk⟩ ⟨c,f,.inr hc⟩
  ·exact(f.2 b (bh (bb (aI e) (I.ok.cab x c C4 hc)))).trans (I.base.keep b o e n D t)
  ·obtain⟨W,l⟩:=I.base.slot b o e n D t;exact⟨W,(f.2 b (bh (bb (aI e) (I.ok.cab x c C4 hc)))).trans l⟩
  ·obtain⟨Y,l⟩:=I.base.there b o e t;exact⟨Y,(f.2 b (bh (bb (aI e) (I.ok.cab x c C4 hc)))).trans l⟩
  ·by_cases F:j=i
   ·subst F;rw[G] at l;cases l;rw[bw Fm] at B;cases B;exact⟨u,r,.inr ⟨.inl hk,c,hc,t_⟩⟩
   ·rw[bq (bB F)] at B;obtain⟨Z,r',q⟩:=hl j y S l B T;refine⟨Z,r',?_⟩;rcases q with q|⟨k,L,e,z'⟩
    ·exact .inl q
    ·refine .inr ⟨k,L,e,z'.sameBut f ?_⟩;rintro rfl;exact F (Rf hN l (I.ok.inj _ _ _ e hc▸G))
  ·by_cases uk:L=c
   ·subst uk;exact⟨_,t_⟩
   ·obtain⟨w2,z2⟩:=I.cell y L e;exact⟨w2,z2.sameBut f uk⟩
  ·obtain⟨e,n,K,nf,d⟩:=I.pin p U;refine⟨(f.2 p.1 ?_).trans e,n,K,nf,d⟩;intro q;rw[q,C3] at e;have q':oc=p.2:=bZ e;exact d J (by rw[<- q'];exact LY)
def DZ(I:Inv X Y1 σ H s)(b:X.N.Nodup)(c:X.N[i]?=KB x)(d:Loc X.env.scope x)(r:RelV v u)
  (h:∀a,Inv X Y1 (σ.set i (KB v)) H a->Q () a) (e:X.fn x=KM\/X.env.scope.names.lookup x=KB .local:=by first|exact .inl rfl|exact .inr rfl|assumption):am M A (storeName X.env x u) Q E s:=
 Ks I b c d r (λa f _=>h a f) e
def Inv.call'(I:Inv X Y1 σ H s)(d:s'.os=s.os)(u:Un (um X.stack) ch H H' s.heap s'.heap)(a:HOk X.prog X.w H' s'.heap)(f:h9 s'.gens)
  (g:∀b∈ch,(b∈X.ex\/X.s₀.heap.objs.size<=b)/\b≠X.env.locals/\(∀x c,X.env.cells.lookup x=KB c->c≠b)/\∀p∈X.pn++Y1,p.1≠b) (i:0<s'.toks:=by first|exact cR _|exact Inv.tk ‹_›|assumption|lia):Inv X Y1 σ H' s':=by obtain⟨h',g',d',t',h⟩:=s';have e:h=s.os:=d;subst e;exact I.call (g':=g') (t':=t') (d':=d') u a f g
end
abbrev XK:=ab->Option ae->Hp->Prop
abbrev St:=List (Option V)
abbrev VK:=V->Hp->Prop
abbrev TE:=St->Hp->VK->Prop
abbrev TT:=St->Hp->(Bool->Hp->Prop)->Prop
abbrev TA:=St->Hp->(List V->Hp->Prop)->Prop
structure xZ where
 nx:St->Hp->Prop
 rt:VK
 bk:St->Hp->Prop:=λ_ _=>False
 ct:St->Hp->Prop:=λ_ _=>False
abbrev TS:=xZ->St->Hp->Prop
def EP(X:Cx)(Y1:List (ae×Obj))(σ:St)(Q:VK)(u:ab)(s':ag):Prop:=∃v H',Inv X Y1 σ H' s'/\RelV v u/\Q v H'
def TP(X:Cx)(Y1:List (ae×Obj))(σ:St)(Q:Bool->Hp->Prop)(b:Bool)(s':ag):Prop:=∃H',Inv X Y1 σ H' s'/\Q b H'
def AP(X:Cx)(Y1:List (ae×Obj))(σ:St)(Q:List V->Hp->Prop)(us:List ab)(s':ag):Prop:=∃vs H',Inv X Y1 σ H' s'/\oa vs us/\Q vs H'
def SP(X:Cx)(Y1:List (ae×Obj))(D:xZ)(f:Flow)(s':ag):Prop:=
 match f with
 |.next=>∃σ' H',Inv X Y1 σ' H' s'/\D.nx σ' H'
 |.brk=>∃σ' H',Inv X Y1 σ' H' s'/\D.bk σ' H'
 |.cont=>∃σ' H',Inv X Y1 σ' H' s'/\D.ct σ' H'
 |.ret u=>∃v σ' H',Inv X Y1 σ' H' s'/\RelV v u/\D.rt v H'
def PE(X:Cx)(e:aT)(t:TE):Prop:=
 ∀(Y1:List (ae×Obj))(s:ag)(σ:St)(H:Hp)(Q:VK),Inv X Y1 σ H s->t σ H Q->am (av X.prog X.w) X.A (eval e X.env) (EP X Y1 σ Q) X.xe s
def PT(X:Cx)(e:aT)(t:TT):Prop:=
 ∀(Y1:List (ae×Obj))(s:ag)(σ:St)(H:Hp)(Q:Bool->Hp->Prop),Inv X Y1 σ H s->t σ H Q->am (av X.prog X.w) X.A (isTrue e X.env (eval e X.env)) (TP X Y1 σ Q) X.xe s
def PW(X:Cx)(e:aT)(t:TT):Prop:=
 ∀(whole:Sem ab)(Y1:List (ae×Obj))(s:ag)(σ:St)(H:Hp)(Q:Bool->Hp->Prop),Inv X Y1 σ H s->t σ H Q->am (av X.prog X.w) X.A (isTrue e X.env whole) (TP X Y1 σ Q) X.xe s
def PW.pt(h:PW X e t):PT X e t:=h _
def PA(X:Cx)(es:List aT)(t:TA):Prop:=
 ∀(pos:Pos)(Y1:List (ae×Obj))(s:ag)(σ:St)(H:Hp)(Q:List V->Hp->Prop),Inv X Y1 σ H s->t σ H Q->am (av X.prog X.w) X.A (spliced (backTo pos (aV es X.env))) (AP X Y1 σ Q) X.xe s
def PS(X:Cx)(st:eJ)(t:TS):Prop:=
 ∀(Y1:List (ae×Obj))(s:ag)(σ:St)(H:Hp)(D:xZ),Inv X Y1 σ H s->t D σ H->am (av X.prog X.w) X.A (exec st X.env) (SP X Y1 D) X.xe s
def sJ(X:Cx)(st:List eJ)(t:TS):Prop:=
 ∀(Y1:List (ae×Obj))(s:ag)(σ:St)(H:Hp)(D:xZ),Inv X Y1 σ H s->t D σ H->am (av X.prog X.w) X.A (execs st X.env) (SP X Y1 D) X.xe s
def pG{α:Type}{t:Sem α}{Q b:α->ag->Prop}{M:iP}{A:ba}{E:ab->ag->Prop}{s:ag}(h:am M A t Q E s)(c:∀a s,Q a s->b a s):am M A t b E s:=cG h c λ_ _ x=>x
section
variable{X:Cx}
def bin{a b:aT}{i j:TE}(k:PE X a i)(l:PE X b j){c:List (ae×Obj)}{s:ag}{σ:St}{H:Hp}{R:V->V->Hp->Prop}(I:Inv X c σ H s)(h:i σ H λx g=>j σ g λy d=>R x y d)
  {α:Type} {Q:α->ag->Prop} {f:ab->ab->Sem α}
  (m:∀v u e x y d,Inv X c σ d e->RelV x v->RelV y u->R x y d->am (av X.prog X.w) X.A (f v u) Q X.xe e):
  am (av X.prog X.w) X.A (eval a X.env) (λv n=>am (av X.prog X.w) X.A (eval b X.env) (λu o=>am (av X.prog X.w) X.A (f v u) Q X.xe o) X.xe n) X.xe s:=by refine pG (k c s σ H _ I h) λv p ⟨x,g,q,r,t⟩=>?_;refine pG (l c p σ g _ q t) λu e ⟨y,d,z,B,C⟩=>?_;exact m v u e x y d z r B C
def IQ(i:Nat):TE:=λσ H Q=>∃v,σ[i]?=KB (KB v)/\Q v H
def tC(v:V):TE:=λ_ H Q=>Q v H
def Jh(j:X.N[i]?=KB x)(k:uE X.env.scope x)(d:(x==("__debug__":Str))=K7:=by decide)(n:(x==("__classdict__":Str))=K7:=by decide):PE X (.Name x pos) (IQ i):=by
 intro b s o H Q I h;obtain⟨v,e,h⟩:=h;obtain⟨m,p,q⟩:=I.loc;obtain⟨u,r,l⟩:=q i x v j e k;have a:EP X b o Q u s:=⟨v,H,I,r,h⟩;rcases l with⟨hk,t⟩|⟨hk,c,f,g⟩
 ·exact wpAny_Name (lm I.ok.kind hk p t a) d
 ·rcases hk with hk|hk
  ·exact wpAny_Name (lK I.ok.kind hk f g a) d
  ·exact wpAny_Name (wpAny_loadName_free I.ok.kind hk f g a n) d
def V8:PE X (.Constant (.int i) j pos) (tC (.int i)):=λ_ _ _ H _ I h=>wpAny_Constant_int ⟨.int i,H,I.tok _,⟨_,rfl⟩,h⟩
def VB:PE X (.Constant (.bool b) j pos) (tC (.bl b)):=λ_ _ _ H _ I h=>Constant_bool ⟨.bl b,H,I,rfl,h⟩
def XO:PE X (.Constant .none j pos) (tC .non):=λ_ _ _ H _ I h=>Constant_none ⟨.non,H,I,rfl,h⟩
def Jp:PE X (.Constant (.str x) j pos) (tC (.str x)):=λ_ _ _ H _ I h=>Calls.Constant_str ⟨.str x,H,I.tok _,⟨_,rfl⟩,h⟩
def Gl(X:Cx)(x:Str):Prop:=X.env.kindOf x=KB .globalImplicit
def Pr(I:Inv X Y1 σ H s)(a:Gl X x)(b:X.mg x=KB u)(h:Q u s)
  (c:(x==("__debug__":Str))=K7:=by decide):am (av X.prog X.w) X.A (eval (.Name x pos) X.env) Q E s:=
 ju I.ok.kind a (Calls.loadGlobal_global (by rw[I.ok.glob];exact I.mod.glob.keeps I.bk) b h) c
def AY(I:Inv X Y1 σ H s)(a:Gl X x)(b:X.mg x=KF)(c:bA x=KB u)(h:Q u s)
  (d:x ≠ "__name__":=by decide) (e:(x==("__debug__":Str))=K7:=by decide):am (av X.prog X.w) X.A (eval (.Name x pos) X.env) Q E s:=by obtain⟨i,f,g⟩:=I.mod.blt;exact ju I.ok.kind a (Calls.loadGlobal_builtin (by rw[I.ok.glob];exact I.mod.glob.keeps I.bk) b (by rw[I.ok.blt];exact f.keeps I.bk) ((g x d).trans c) h) e
def GA(a:Gl X x)(b:X.mg x=KB u)(r:RelV v u)(c:(x==("__debug__":Str))=K7:=by decide):PE X (.Name x pos) (tC v):=
 λ_ _ _ H _ I h=>Pr I a b ⟨v,H,I,r,h⟩ c
def Z4(a:Gl X x)(b:X.mg x=KF)(c:bA x=KB u)(r:RelV v u)(d:x ≠ "__name__":=by decide)(e:(x==("__debug__":Str))=K7:=by decide):PE X (.Name x pos) (tC v):=
 λ_ _ _ H _ I h=>AY I a b c ⟨v,H,I,r,h⟩ d e
variable{a b:aT}{ta tb:TE}{pos:Pos}
def PC(X:Cx)(op:CmpOp)(a b:aT)(t:TE):Prop:=
 ∀(Y1:List (ae×Obj))(s:ag)(σ:St)(H:Hp)(Q:VK),Inv X Y1 σ H s->t σ H Q->
  am (av X.prog X.w) X.A (eval a X.env) (λv m_=>am (av X.prog X.w) X.A (eval b X.env) (λu rZ=>am (av X.prog X.w) X.A (cm op v u) (EP X Y1 σ Q) X.xe rZ) X.xe m_) X.xe s
def QL(b:aT)(h:op ≠ .In)(c:op ≠ .NotIn):behindInMarks op b=K7:=by
 have d:(op==CmpOp.In)=K7:=by cases op<;>first|rfl|exact absurd rfl h
 have e:(op==CmpOp.NotIn)=K7:=by cases op<;>first|rfl|exact absurd rfl c
 cases b<;>simp[behindInMarks,d,e]
def tB(t:TE):TT:=λσ H Q=>t σ H λx H1=>∃c,x=.bl c/\Q c H1
def Wr(h:PC X op a b t)(d:behindInMarks op b=K7:=by first|exact QL _ 'u' 'u'|rfl):PE X (.Compare a [op] [b] pos) t:=λc s e H Q I f=>wpAny_Compare1 (h c s e H Q I f) d
def V9{op:CmpOp}{t:TE}(h:PC X op a b t)(f:behindInMarks op b=K7:=by first|exact QL _ 'u' 'u'|rfl):PT X (.Compare a [op] [b] pos) (tB t):=by intro e s g H Q I i;refine kL (pG (h e s g H _ I i) λv o f=>pG f λu p j=>pG j λc r ⟨x,k,l,m,n⟩=>?_) f;obtain⟨d,rfl,q⟩:=n;cases m;exact cX ⟨k,l,q⟩
variable{tA HJ:TT}{rest:List aT}
def U_(t u:TT):TT:=λσ H Q=>t σ H λc H1=>if c=KM then u σ H1 Q else Q K7 H1
def tOr(t u:TT):TT:=λσ H Q=>t σ H λc H1=>if c=KM then Q KM H1 else u σ H1 Q
def UY(t:TT):TT:=λσ H Q=>t σ H λc H1=>Q (!c) H1
def ZD(f:PT X a tA):PW X (.BoolOp .And [a] pos) tA:=by
 intro i d s g H Q I h;refine isTrue_and (pG (f d s g H Q I h) λc j e=>?_);cases c with
 |true=>exact isTrue_and_nil e
 |false=>exact e
def Wp(f:PT X a tA):PW X (.BoolOp .Or [a] pos) tA:=by
 intro i d s g H Q I h;refine isTrue_or (pG (f d s g H Q I h) λc j e=>?_);cases c with
 |false=>exact isTrue_or_nil e
 |true=>exact e
def VR(j:PT X a tA)(k:PW X (.BoolOp .And (b::rest) pos) HJ):PW X (.BoolOp .And (a::b::rest) pos) (U_ tA HJ):=by
 intro l d s e H Q I h;refine isTrue_and (pG (j d s e H _ I h) λc m ⟨f,g,i⟩=>?_);cases c with
 |true=>exact k l d m e f Q g i
 |false=>exact⟨f,g,i⟩
def Vp(j:PT X a tA)(k:PW X (.BoolOp .Or (b::rest) pos) HJ):PW X (.BoolOp .Or (a::b::rest) pos) (tOr tA HJ):=by
 intro l d s e H Q I h;refine isTrue_or (pG (j d s e H _ I h) λc m ⟨f,g,i⟩=>?_);cases c with
 |true=>exact⟨f,g,i⟩
 |false=>exact k l d m e f Q g i
def Wo(e:PT X a tA):PT X (.UnaryOp .Not a pos) (UY tA):=by intro d s f H Q I h;exact isTrue_not (e d s f H (λc g=>Q (!c) g) I h)
def Vz(ta tb:TE):TE:=λσ H Q=>ta σ H λx H1=>∃c,x=.bl c/\if c=KM then tb σ H1 Q else Q (.bl K7) H1
def U4(ta tb:TE):TE:=λσ H Q=>ta σ H λx H1=>∃c,x=.bl c/\if c=KM then Q (.bl KM) H1 else tb σ H1 Q
def Wd(ta:TE):TE:=λσ H Q=>ta σ H λx H1=>∃c,x=.bl c/\Q (.bl (!c)) H1
def V_(h:PE X a t):PE X (.BoolOp op [a] pos) t:=λc s d H Q I e=>BoolOp_one (h c s d H Q I e)
def XN(j:PE X a ta)(k:PE X (.BoolOp .And (b::rest) pos) tb):PE X (.BoolOp .And (a::b::rest) pos) (Vz ta tb):=by
 intro d s f H Q I h;refine BoolOp_and (pG (j d s f H _ I h) λv l ⟨x,g,i,m,e⟩=>?_);obtain⟨c,rfl,e⟩:=e;cases m;refine cX ?_;cases c with
 |true=>exact k d l f g Q i e
 |false=>exact⟨.bl K7,g,i,rfl,e⟩
def Wg(j:PE X a ta)(k:PE X (.BoolOp .Or (b::rest) pos) tb):PE X (.BoolOp .Or (a::b::rest) pos) (U4 ta tb):=by
 intro d s f H Q I h;refine BoolOp_or (pG (j d s f H _ I h) λv l ⟨x,g,i,m,e⟩=>?_);obtain⟨c,rfl,e⟩:=e;cases m;refine cX ?_;cases c with
 |false=>exact k d l f g Q i e
 |true=>exact⟨.bl KM,g,i,rfl,e⟩
def Wu(f:PE X a ta):PE X (.UnaryOp .Not a pos) (Wd ta):=by intro d s g H Q I h;refine UnaryOp_ (pG (f d s g H _ I h) λv l ⟨x,i,j,k,e⟩=>?_);obtain⟨c,rfl,e⟩:=e;cases k;exact not_of (cX ⟨.bl (!c),i,j,rfl,e⟩)
def tIf(t:TT)(ta tb:TE):TE:=λσ H Q=>t σ H λc H1=>if c=KM then ta σ H1 Q else tb σ H1 Q
def zgg{c:aT}(l:PT X c tA)(m:PE X a ta)(n:PE X b tb):PE X (.IfExp c a b pos) (tIf tA ta tb):=by
 intro e s f H Q I h;refine wpAny_IfExp (pG (l e s f H _ I h) λd g ⟨i,j,k⟩=>?_);cases d with
 |true=>exact m e g f i Q j k
 |false=>exact n e g f i Q j k
end
def qz(K:ai)(H:Hp)(a:ae)(xs:List V):Prop:=
 Rd H a (.lst xs) \/
  ∃(o:Obj)(h_:Array ab)(n:Nat),K.lookup a=KB o/\o.cls=.type "list"/\o.dict=KF/\o.data=.seq h_ n/\h_.size<=qN/\oa xs h_.toList
def qT(K:ai)(H:Hp)(a:ae)(xs:List V):Prop:=
 Rd H a (.tup xs) \/
  ∃(o:Obj)(h_:Array ab)(n:Nat),K.lookup a=KB o/\o.cls=.type "tuple"/\o.data=.seq h_ n/\h_.size<=qN/\oa xs h_.toList
def Vb:ab->Option V
 |.none=>KB .non
 |.bool b=>KB (.bl b)
 |.int i _=>KB (.int i)
 |.str x _=>KB (.str x)
 |.bytes b _=>KB (.byt b)
 |.float b _=>KB (.flt b)
 |.ref a=>KB (.ref a)
 |.type n=>KB (.ty n)
 |_=>KF
def RelV.abs(r:RelV x u):Vb u=KB x:=by
 cases x with
 |non=>cases r;rfl
 |bl _=>cases r;rfl
 |int _=>obtain⟨t,rfl⟩:=r;rfl
 |str _=>obtain⟨t,rfl⟩:=r;rfl
 |byt _=>obtain⟨t,rfl⟩:=r;rfl
 |flt _=>obtain⟨t,rfl⟩:=r;rfl
 |ref _=>cases r;rfl
 |ty _=>cases r;rfl
def RelV.inj(r:RelV x u)(q:RelV y u):x=y:=bZ (r.abs.symm.trans q.abs)
theorem oa.inj:∀{xs a:List V}{b:List ab},oa xs b->oa a b->xs=a
 |_,_,_,.nil,.nil=>rfl
 |_,_,_,.cons r t,.cons r' t'=>by rw[r.inj r',oa.inj t t']
section
variable{X:Cx}{Y1:List (ae×Obj)}{σ:St}{H:Hp}{s:ag}{a:ae}{xs ys:List V}
def qz.of{K:ai}(h:H a=KB (.lst xs)):qz K H a xs:=.inl (.inl h)
def qT.of{K:ai}(h:H a=KB (.tup xs)):qT K H a xs:=.inl (.inl h)
def Inv.list(I:Inv X Y1 σ H s)(h:qz X.K H a xs):∃b:List ab,oa xs b/\PlainL s.heap a b.toArray/\xs.length<=qN:=by
 rcases h with h|⟨o,b,n,c,d,f,g,i,r⟩
 ·obtain⟨z,b,n,r,e⟩:=h.ok I.hok;exact⟨b,r,⟨_,n,e,rfl,rfl,rfl⟩,z⟩
 ·refine⟨b.toList,r,⟨o,n,I.kIn a o c,d,f,by simpa using g⟩,?_⟩;have e:=r.length;simp only[az] at e;lia
def Inv.tuple(I:Inv X Y1 σ H s)(h:qT X.K H a xs):∃b:List ab,oa xs b/\IsTup s.heap a b.toArray/\xs.length<=qN:=by
 rcases h with h|⟨o,b,n,c,d,f,g,r⟩
 ·obtain⟨z,b,r,p⟩:=h.ok I.hok;exact⟨b,r,p.tup,z⟩
 ·refine⟨b.toList,r,⟨o,I.kIn a o c,d,n,by simpa using f⟩,?_⟩;have e:=r.length;simp only[az] at e;lia
def Inv.list_inj(I:Inv X Y1 σ H s)(h:qz X.K H a xs)(h':qz X.K H a ys):xs=ys:=by
 obtain⟨g,r,⟨o,n,e,_,_,d⟩,_⟩:=I.list h;obtain⟨b,i,⟨j,k,c,_,_,f⟩,_⟩:=I.list h';rw[e] at c;cases c;rw[d] at f;injection f with d1 _;have:g=b:=by simpa using congrArg lU d1
 subst this;exact r.inj i
def Inv.tuple_inj(I:Inv X Y1 σ H s)(h:qT X.K H a xs)(h':qT X.K H a ys):xs=ys:=by
 obtain⟨g,r,⟨o,e,_,n,d⟩,_⟩:=I.tuple h;obtain⟨b,i,⟨j,c,_,k,f⟩,_⟩:=I.tuple h';rw[e] at c;cases c;rw[d] at f;injection f with d1 _;have:g=b:=by simpa using congrArg lU d1
 subst this;exact r.inj i
end
abbrev Cx.wish(X:Cx)(E:ab->ag->Prop):Cx:={ X with xe:=E }
abbrev Cx.nox(X:Cx):Cx:=X.wish λ_ _=>False
def Cx.Ok.wish{X:Cx}(ok:X.Ok)(E:ab->ag->Prop):(X.wish E).Ok:=
 ⟨ok.mod,ok.kind,ok.glob,ok.blt,ok.above,ok.inj,ok.has,ok.cab,ok.hd,ok.frames,ok.stk,ok.exf,ok.bs,ok.bsz,ok.noex,ok.exfs,ok.funs,ok.frf⟩
def Cx.Ok.unwish{X:Cx}{E:ab->ag->Prop}(ok:(X.wish E).Ok):X.Ok:=
 ⟨ok.mod,ok.kind,ok.glob,ok.blt,ok.above,ok.inj,ok.has,ok.cab,ok.hd,ok.frames,ok.stk,ok.exf,ok.bs,ok.bsz,ok.noex,ok.exfs,ok.funs,ok.frf⟩
section
variable{X:Cx}{Y1:List (ae×Obj)}{σ:St}{H:Hp}{s:ag}{E:ab->ag->Prop}
def Inv.wish(I:Inv X Y1 σ H s)(E:ab->ag->Prop):Inv (X.wish E) Y1 σ H s:=⟨I.ok.wish E,I.os,I.bare,I.base,I.loc,I.cell,I.free,I.freeC,I.pin,I.hok,I.len,I.tk⟩
def Inv.unwish(I:Inv (X.wish E) Y1 σ H s):Inv X Y1 σ H s:=⟨I.ok.unwish,I.os,I.bare,I.base,I.loc,I.cell,I.free,I.freeC,I.pin,I.hok,I.len,I.tk⟩
def SP.unwish{D:xZ}{f:Flow}{c:ag}(h:SP (X.wish E) Y1 D f c):SP X Y1 D f c:=by
 cases f with
 |next=>obtain⟨a,b,I,q⟩:=h;exact⟨a,b,I.unwish,q⟩
 |brk=>obtain⟨a,b,I,q⟩:=h;exact⟨a,b,I.unwish,q⟩
 |cont=>obtain⟨a,b,I,q⟩:=h;exact⟨a,b,I.unwish,q⟩
 |ret u=>obtain⟨v,a,b,I,r,q⟩:=h;exact⟨v,a,b,I.unwish,r,q⟩
def PE.nox(h:PE X.nox e t):PE X e t:=λY1 s σ H Q I a=>
 cG (h Y1 s σ H Q (I.wish _) a) (λ_ _ ⟨v,b,c,r,q⟩=>⟨v,b,c.unwish,r,q⟩) λ_ _ z=>aj z
def PT.nox(h:PT X.nox e t):PT X e t:=λY1 s σ H Q I a=>
 cG (h Y1 s σ H Q (I.wish _) a) (λ_ _ ⟨b,c,q⟩=>⟨b,c.unwish,q⟩) λ_ _ z=>aj z
def sJ.nox{st:List eJ}{t:TS}(h:sJ X.nox st t):sJ X st t:=λY1 s σ H D I a=>
 cG (h Y1 s σ H D (I.wish _) a) (λ_ _ q=>q.unwish) λ_ _ z=>aj z
end
section
variable{X:Cx}{st:eJ}{rest:List eJ}{t u:TS}{e:aT}{te:TE}{pos:Pos}
def NL:TS:=λD σ H=>D.nx σ H
def M5(t u:TS):TS:=λD σ H=>t { D with nx:=u D } σ H
def ZW:sJ X [] NL:=λ_ _ a H _ I h=>iQ ⟨a,H,I,h⟩
def D3(c:PS X st t)(d:sJ X rest u):sJ X (st::rest) (M5 t u):=by
 intro a s g H D I h;refine wpAny_execs_cons (pG (c a s g H { D with nx:=u D } I h) λf i q=>?_);cases f with
 | next=>
  obtain⟨b,j,k,q⟩:=q;exact d a i b j D k q
 |ret v=>exact q
 |brk=>exact q
 |cont=>exact q
def P5(b:PS X st t):sJ X [st] t:=by
 intro a s c H D I h;refine wpAny_execs_cons (pG (b a s c H D I h) λf d q=>?_);cases f with
 |next=>exact iQ q
 |ret v=>exact q
 |brk=>exact q
 |cont=>exact q
def Z_:PS X (.Pass pos) NL:=λ_ _ a H _ I h=>wpAny_Pass ⟨a,H,I,h⟩
def Inv.quiet{a:List (ae×Obj)}{σ:St}{H:Hp}{s:ag}(I:Inv X a σ H s):interactive X.env=K7:=by simp[interactive,I.ok.kind]
def VE(te:TE):TS:=λD σ H=>te σ H λ_ H1=>D.nx σ H1
def Pz(c:PE X e te)(d:swapsWith e KF pos.line X.env=pure K7:=by rfl):PS X (.Expr e pos) (VE te):=by intro a s b H D I h;exact wpAny_Expr_any (pG (c a s b H _ I h) λv j ⟨x,f,g,k,i⟩=>⟨b,f,g,i⟩) I.quiet d
def UX(te:TE):TS:=λD σ H=>te σ H D.rt
def WO(c:PE X e te):PS X (.Return (KB e) pos) (UX te):=by intro a s b H D I h;exact wpAny_Return_some (pG (c a s b H _ I h) λv j ⟨x,d,f,g,i⟩=>⟨x,b,d,f,g,i⟩)
def Vf(c:TT)(t u:TS):TS:=λD σ H=>c σ H λb H1=>if b=KM then t D σ H1 else u D σ H1
def Vv{c:aT}{a b:List eJ}{i:TT}(n:PT X c i)(o:sJ X a t)(p:sJ X b u):PS X (.If c a b pos) (Vf i t u):=by
 intro f s g H D I h;refine wpAny_If (pG (n f s g H _ I h) λd j ⟨k,l,m⟩=>?_);cases d with
 |true=>exact o f j g k D l m
 |false=>exact p f j g k D l m
def W9:TS:=λ_ _ _=>False
def zfH:sJ X sts W9:=λ_ _ _ _ _ _ h=>h.elim
end
abbrev TG:=V->St->Hp->(St->Hp->Prop)->Prop
abbrev C_:=List V->St->Hp->(St->Hp->Prop)->Prop
def PG(X:Cx)(target:aT)(t:TG):Prop:=
 ∀(Y1:List (ae×Obj))(s:ag)(σ:St)(H:Hp)(v:V)(u:ab)(Q:St->Hp->Prop),Inv X Y1 σ H s->RelV v u->t v σ H Q->
  am (av X.prog X.w) X.A (assign target X.env u) (λ_ s'=>∃σ' H',Inv X Y1 σ' H' s'/\Q σ' H') X.xe s
def Iz(X:Cx)(ts:List aT)(t:C_):Prop:=
 ∀(Y1:List (ae×Obj))(s:ag)(σ:St)(H:Hp)(vs:List V)(us:List ab)(Q:St->Hp->Prop),Inv X Y1 σ H s->oa vs us->t vs σ H Q->
  am (av X.prog X.w) X.A (assignInOrder ((gE ts X.env).map (·.2)) us) (λ_ s'=>∃σ' H',Inv X Y1 σ' H' s'/\Q σ' H') X.xe s
abbrev IK:=V->V->V->Hp->(Hp->Prop)->Prop
def MZ(X:Cx)(t:IK):Prop:=
 ∀(Y1:List (ae×Obj))(s:ag)(σ:St)(H:Hp)(o i v:V)(ov iv u:ab)(Q:Hp->Prop),Inv X Y1 σ H s->RelV o ov->RelV i iv->RelV v u->t o i v H Q->
  am (av X.prog X.w) X.A (setItem ov iv u) (λ_ s'=>∃H',Inv X Y1 σ H' s'/\Q H') X.xe s
abbrev Iw:=V->V->Hp->VK->Prop
def UE(X:Cx)(op:Operator)(t:Iw):Prop:=
 ∀(Y1:List (ae×Obj))(s:ag)(σ:St)(H:Hp)(x y:V)(v u:ab)(Q:VK),Inv X Y1 σ H s->RelV x v->RelV y u->t x y H Q->
  am (av X.prog X.w) X.A (inplaceOp op v u) (EP X Y1 σ Q) X.xe s
section
variable{X:Cx}{pos:Pos}
def yf(i:Nat):TG:=λv σ H Q=>Q (σ.set i (KB v)) H
def JN(b:X.N.Nodup)(c:X.N[i]?=KB x)(d:Loc X.env.scope x)(e:X.fn x=KM\/X.env.scope.names.lookup x=KB .local:=by first|exact .inl rfl|exact .inr rfl|assumption):PG X (.Name x pos) (yf i):=by intro a s g H v u Q I r h;exact jG (DZ I b c d r (λj f=>⟨_,H,f,h⟩) e)
def Nh:C_:=λvs σ H Q=>vs=[]/\Q σ H
def Ja(t:TG)(u:C_):C_:=λvs σ H Q=>∃v r,vs=v::r/\t v σ H λσ' H'=>u r σ' H' Q
def X6:Iz X [] Nh:=by intro a s b H c d Q I r h;obtain⟨e,h⟩:=h;subst e;cases r;exact assignInOrder_nil ⟨b,H,I,h⟩
def Qt{e:aT}{b:List aT}{t:TG}{u:C_}(c:PG X e t)(d:Iz X b u)
  (f:(gE (e::b) X.env).map (·.2)=assign e X.env::(gE b X.env).map (·.2):=by rfl):Iz X (e::b) (Ja t u):=by
 intro a s g H o p Q I r h;obtain⟨v,q,i,h⟩:=h;subst i;cases r with
 | cons r rr=>
  rw[f];refine jl (pG (c a s g H _ _ _ I r h) λ_ j ⟨k,l,m,n⟩=>?_);exact d a j k l _ _ Q m rr n
noncomputable def Nb(K:ai)(n:Nat)(t:C_):TG:=λv σ H Q=>∃a xs,v=.ref a/\qT K H a xs/\xs.length=n/\t xs σ H Q
def Wm(i:X.calm=KM)(h:Iz X es t)
  (j:(gE es X.env).length=n:=by rfl) (l:(gE es X.env).findIdx? (·.1)=KF:=by rfl):PG X (.Tuple es k pos) (Nb X.K n t):=by intro c s f H v u Q I r d;obtain⟨a,m,p,q,w,d⟩:=d;subst p;cases r;obtain⟨B,g,x,C⟩:=I.tuple q;refine assign_Tuple_tuple (I.ok.hd i) x (by simp[j,<- w,g.length]) l λy z=>?_;have A:Inv X c f H { s with heap:=y }:=I.kept (t':=s.toks) λb o e=>z b o (bh (aI e)) e;exact h c _ f H m _ Q A (by simpa using g) d
def wJ(to ti:TE)(t:IK):TG:=λv σ H Q=>to σ H λo H1=>ti σ H1 λi H2=>t o i v H2 λH3=>Q σ H3
def WV{o i:aT}{e f:TE}{t:IK}(g:PE X o e)(j:PE X i f)(k:MZ X t)
  (l:∀v,assign (.Subscript o i pos) X.env v=(do
   let b <- holding [v] (eval o X.env);let c <- holding [v,b] (eval i X.env)
   standAt pos
   holding [v,b,c] (setItem b c v)
   release [v,b,c] []):=by intro _;rfl):PG X (.Subscript o i pos) (wJ e f t):=by intro a s d H v u Q I r h;rw[l];refine aa (bz (pG (g a s d H _ I h) λb m ⟨x,n,p,q,w⟩=>?_));refine aa (bz (pG (j a m d n _ p w) λc z ⟨y,A,B,C,D⟩=>?_));refine aa (ez (aa (bz (pG (k a z d A x y v b c u _ B q C r D) λ_ J ⟨E,F,G⟩=>?_))));exact wpAny_release ⟨d,E,F,G⟩
def B2(te:TE)(g:TG):TS:=λD σ H=>te σ H λx H1=>g x σ H1 D.nx
def OD{b e:aT}{te:TE}{g:TG}(d:PE X e te)(f:PG X b g)(i:gJ [b] e pos.line X.env=pure K7:=by rfl)(j:gK [b] e X.env=pure KF:=by rfl)
  (k:(gE [b] X.env).map (·.2)=[assign b X.env]:=by rfl):PS X (.Assign [b] e pos) (B2 te g):=by intro a s c H D I h;refine wpAny_Assign_stores (pG (d a s c H _ I h) λv l ⟨x,m,n,o,p⟩=>?_) i j;rw[k];exact pG (f a l c m x v _ n o p) λ_ r q=>q
def Of{i:Nat}{x:Str}{e:aT}{te:TE}{a:Pos}(c:X.N.Nodup)(d:X.N[i]?=KB x)(f:Loc X.env.scope x)(g:PE X e te)(j:swapsWith e (KB (.Name x a)) pos.line X.env=pure K7:=by rfl)(k:X.fn x=KM\/X.env.scope.names.lookup x=KB .local:=by first|exact .inl rfl|exact .inr rfl|assumption):
  PS X (.Assign [.Name x a] e pos) (B2 te (yf i)):=by intro b s l H D I h;refine wpAny_Assign_Name (pG (g b s l H _ I h) λv r ⟨y,m,n,o,p⟩=>?_) j;exact DZ n c d f o (λt q=>⟨_,m,q,p⟩) k
def UT(i j:Nat)(ta:TA):TS:=λD σ H=>ta σ H λvs H1=>∃v w,vs=[v,w]/\D.nx ((σ.set i (KB v)).set j (KB w)) H1
def Wv{i j:Nat}{x y:Str}{a b:aT}{r:TA}{k l m:Pos}{kt k2 Bl}(F:X.calm=KM)(t:X.N.Nodup)(G:X.N[i]?=KB x)(J:X.N[j]?=KB y)(K:i≠j)
  (u:X.env.scope.names.lookup x=KB .local) (z:X.env.scope.names.lookup y=KB .local) (L:PA X [a,b] r)
  (M:gK [.Tuple [.Name x k,.Name y l] kt m] (.Tuple [a,b] k2 Bl) X.env=pure (KB [x,y]))
  (O:gJ [.Tuple [.Name x k,.Name y l] kt m] (.Tuple [a,b] k2 Bl) pos.line X.env=pure K7:=by rfl):
  PS X (.Assign [.Tuple [.Name x k,.Name y l] kt m] (.Tuple [a,b] k2 Bl) pos) (UT i j r):=by
 intro c s B H D I h;rw[exec_Assign_arm];refine aa (ez ?_);rw[O];refine aa (ah ?_);rw[qq 'u'];refine aa (Tuple_ (pG (L _ c s B H _ I h) λP d ⟨vs,C,Q,R,n⟩=>?_));obtain⟨v,w,S,n⟩:=n;subst S;obtain⟨f,g,rfl,T,U⟩:∃f g,P=[f,g]/\RelV v f/\RelV w g:=by
  cases R with
  | cons p q=>
   cases q with
   | cons p' q'=>
    cases q';exact⟨_,_,rfl,p,p'⟩
 refine b9 ?_ (by show 2<=qN;decide);have V:Inv X c B C { d with heap:=d.heap.push { cls:=.type "tuple",data:=.seq [f,g].toArray } }:=Q.kept (t':=d.toks) λb o e=>af _ e;rw[M];refine aa (ah ?_);show am (av X.prog X.w) X.A (do rule "assign.swapped-stores";let items <- unpackItems (.ref d.heap.objs.size) 2 KF;assignInOrder [λv=>bindName X.env y v,λv=>bindName X.env x v] items.reverse;pure Flow.next) _ _ _;refine aa (c9 (aa (unpackItems_tuple (items:=#[f,g]) (I.ok.hd F) (IsTup.new d.heap _) λh' W=>?_)));have Y:=V.kept (h':=h') (t':=d.toks) λb o e=>W b o (bh (aI e)) e;show am _ _ (assignInOrder [λv=>bindName X.env y v,λv=>bindName X.env x v] [g,f] >>= λ_=>pure Flow.next) _ _ _;refine aa (jl (wpAny_bindName (DZ Y t J (.inl z) U (λs2 Z=>?_) (.inr z))));refine jl (wpAny_bindName (DZ Z t G (.inl u) T (λs3 E=>assignInOrder_nil (ah ?_)) (.inr u)));rw[List.set_comm _ _ (bB K)] at E;exact⟨_,C,E,n⟩
def UZ(i:Nat)(te:TE)(ti:Iw):TS:=λD σ H=>∃x,σ[i]?=KB (KB x)/\te σ H λy H1=>ti x y H1 λz H2=>D.nx (σ.set i (KB z)) H2
def Xb{i:Nat}{x:Str}{e:aT}{te:TE}{op:Operator}{g:Iw}{b:Pos}(p:X.N.Nodup)(j:X.N[i]?=KB x)(d:Loc X.env.scope x)(q:PE X e te)(t:UE X op g)(B:X.fn x=KM\/X.env.scope.names.lookup x=KB .local:=by first|exact .inl rfl|exact .inr rfl|assumption):
  PS X (.AugAssign (.Name x b) op e pos) (UZ i te g):=by
 intro a s n H D I h;obtain⟨v,C,h⟩:=h;obtain⟨m,E,F⟩:=I.loc;have f:uE X.env.scope x:=by rcases d with k|k;exact .inl k;exact .inr (.inl k)
 obtain⟨u,r,l⟩:=F i x v j C f;refine wpAny_AugAssign_Name ?_;have o:am (av X.prog X.w) X.A (eval e X.env) (λw G=>am (av X.prog X.w) X.A (inplaceOp op u w) (λr J=>am (av X.prog X.w) X.A (storeName X.env x r) (λ_=>SP X a D .next) X.xe J) X.xe G) X.xe s:=by
  refine pG (q a s n H _ I h) λw K ⟨y,L,M,O,P⟩=>?_;refine pG (t a K n L v y u w _ M r O P) λz Z ⟨zv,Q,R,S,T⟩=>?_;exact DZ R p j d S (λs3 U=>⟨_,Q,U,T⟩) B
 rcases l with⟨hk,V⟩|⟨hk,c,W,Y⟩
 ·exact lm I.ok.kind hk E V o
 ·rcases hk with hk|hk
  ·exact lK I.ok.kind hk W Y o
  ·rcases d with k|k
   ·have:X.env.scope.names.lookup x=KB .free:=hk;rw[k] at this;cases this
   ·have:X.env.scope.names.lookup x=KB .free:=hk;rw[k] at this;cases this
def ipI(f:Int->Int->Int):Iw:=λx y H Q=>∃i j,x=.int i/\y=.int j/\Q (.int (f i j)) H
def V2:UE X .Add (ipI λi j=>i+j):=by intro a s f H x y v u Q I b c h;obtain⟨i,j,d,e,q⟩:=h;subst d;subst e;obtain⟨t,rfl⟩:=b;obtain⟨g,rfl⟩:=c;exact iadd_int ⟨.int _,H,I.tok _,⟨_,rfl⟩,q⟩
end
section
variable{X:Cx}{pos:Pos}
noncomputable def WT(c:TT)(tb:TS):TS:=λD σ H=>∃W:Nat->St->Hp->Prop,(∃m,W m σ H)/\∀m σ H,W m σ H->
 c σ H λb H1=>if b=KM then ∃N:St->Hp->Prop,(∀σ' H',N σ' H'->∃m',m'<m/\W m' σ' H')/\tb { D with nx:=N,ct:=N,bk:=D.nx } σ H1 else D.nx σ H1
def zht{c:aT}{body:List eJ}{t:TT}{u:TS}(x:km (av X.prog X.w) X.A X.env X.xe)(F:PT X c t)(G:sJ X body u):PS X (.While c body [] pos) (WT t u):=by
 intro a s J H D I h;obtain⟨W,⟨K,L⟩,d⟩:=h;refine wpAny_While (codeAny_whileLoop (λn M=>∃e y,Inv X a e y M/\W n e y) ?_ K ⟨J,H,I,L⟩);rintro n O ⟨j,z,P,Q⟩;refine fC x (pG (F a O j z _ P (d n j z Q)) λb R ⟨B,C,k⟩=>?_);cases b with
 | true=>
  obtain⟨N,E,k⟩:=k;rw[qb rfl];refine fC x (pG (G a R j B _ C k) λf S l=>?_);cases f with
  | next=>
   obtain⟨g,i,m,o⟩:=l;obtain⟨p,q,r⟩:=E g i o;exact⟨p,q,g,i,m,r⟩
  | cont=>
   obtain⟨g,i,m,o⟩:=l;obtain⟨p,q,r⟩:=E g i o;exact⟨p,q,g,i,m,r⟩
  |brk=>exact l
  |ret v=>exact l
 | false=>
  rw[qq cf];exact iQ ⟨j,B,C,k⟩
end
structure It where
 go:Nat->Hp->Prop
 yld:Nat->Hp->V->Hp->Prop
 stop:Nat->Hp->Prop
def rE(X:Cx)(Y1:List (ae×Obj))(H:Hp)(b:ae):Prop:=
 H b=KF/\b≠X.env.locals/\b∉X.fs/\(b∈X.ex\/X.s₀.heap.objs.size<=b)/\(∀x c,X.env.cells.lookup x=KB c->c≠b)/\∀p∈X.pn++Y1,p.1≠b
def Inv.fpOk(I:Inv X Y1 σ H s)(a:s.heap.objs.size<=b)(d:H' b=KF):rE X Y1 H' b:=by
 refine⟨d,dU (bb I.lt a),I.nofs a,.inr (aM I.sz a),λx c e z=>?_,λp f z=>?_⟩
 ·obtain⟨v,q⟩:=I.cell x c e;exact absurd (bb q.lt (by rw[z];exact a)) (bN _)
 ·exact absurd (bb (aI (I.pin p f).1) (by rw[z];exact a)) (bN _)
structure wK(P:aN)(w:aY)(K:ai)(tg:aT)(J:It)(fp:List ae)(it:ae)(tn:Nat->aX->Prop):Prop where
 mem:it∈fp
 obj:∀i h,tn i h->∀b∈fp,∃o,h.get? b=KB o/\∀v,o.data ≠ .cell v
 keep:∀i h h',tn i h->(∀b∈fp,∀o,h.get? b=KB o->h'.get? b=KB o)->tn i h'
 item:∀(X:Cx),X.prog=P->X.w=w->X.K=K->X.calm=KM->∀(i:Nat)(Y1:List (ae×Obj))(s:ag)(σ:St)(H:Hp)(E:ab->ag->Prop),Inv X Y1 σ H s->(∀b∈fp,rE X Y1 H b)->tn i s.heap->J.go i H->
  am (av P w) X.A (pyNext (.ref it)) (λr s1=>∃u,r=KB u/\
   am (av P w) X.A (letOwnedTupleGo tg (.ref it) u) (λ_ s2=>∃x H',Inv X Y1 σ H' s2/\RelV x u/\J.yld i H x H'/\tn (i+1) s2.heap/\∀b∈fp,H' b=KF) E s1) E s
 done:∀(X:Cx),X.prog=P->X.w=w->X.K=K->X.calm=KM->∀(i:Nat)(Y1:List (ae×Obj))(s:ag)(σ:St)(H:Hp)(E:ab->ag->Prop),Inv X Y1 σ H s->(∀b∈fp,rE X Y1 H b)->tn i s.heap->J.stop i H->
  am (av P w) X.A (pyNext (.ref it)) (λr s1=>r=KF/\Inv X Y1 σ H s1) E s
 self:∀(A:ba)(i:Nat)(s:ag)(Q:ab->ag->Prop)(E:ab->ag->Prop),tn i s.heap->Q (.ref it) s->am (av P w) A (pyIter (.ref it)) Q E s
abbrev TI:=St->Hp->(It->Hp->Prop)->Prop
def UG(X:Cx)(Y1:List (ae×Obj))(σ:St)(tg:aT)(R:It->Hp->Prop)(EZ:ab)(s2:ag):Prop:=
 ∃(it:ae)(fp:List ae)(tn:Nat->aX->Prop)(J:It)(H':Hp),EZ=.ref it/\Inv X Y1 σ H' s2/\wK X.prog X.w X.K tg J fp it tn/\tn 0 s2.heap/\(∀b∈fp,rE X Y1 H' b)/\R J H'
def PI(X:Cx)(tg iter:aT)(wi:TI):Prop:=
 ∀(Y1:List (ae×Obj))(s:ag)(σ:St)(H:Hp)(R:It->Hp->Prop),Inv X Y1 σ H s->wi σ H R->
  am (av X.prog X.w) X.A (eval iter X.env) (λv s1=>am (av X.prog X.w) X.A (pyIter v) (UG X Y1 σ tg R) X.xe s1) X.xe s
def Dq(b:s.heap.get? it=KB o)(c:o.cls=.type n)(d:o.data=.fields vs)
  (e:["enumerate", "zip", "dict_itemiterator", "dict_reverseitemiterator", "odict_iterator", "itertools.zip_longest", "itertools.pairwise"].contains n=K7) (a:Q () s):am M A (letOwnedTupleGo tg (.ref it) u) Q E s:=by
 unfold letOwnedTupleGo;cases tg<;>first
  |exact ah a
  | (cases u<;>first
    |exact ah a
    | (refine aa (wpAny_load b ?_)
       rw[c,d];show am M A (if (["enumerate", "zip", "dict_itemiterator", "dict_reverseitemiterator", "odict_iterator", "itertools.zip_longest", "itertools.pairwise"].contains n&&vs[0]?==KB (bR _))=KM then _ else _) Q E s;rw[qq (by intro h;rw[e,nv] at h;cases h)];exact ah a))
noncomputable def IG(K:ai)(a:ae):It:=
 ⟨λi H=>∃xs x,qz K H a xs/\xs[i]?=KB x,λi H x H'=>H'=H/\∀xs,qz K H a xs->xs[i]?=KB x,λi H=>∃xs,qz K H a xs/\xs.length<=i⟩
noncomputable def MR(K:ai)(a:ae):It:=
 ⟨λi H=>∃xs x,qT K H a xs/\xs[i]?=KB x,λi H x H'=>H'=H/\∀xs,qT K H a xs->xs[i]?=KB x,λi H=>∃xs,qT K H a xs/\xs.length<=i⟩
noncomputable def IF(lo:Int)(n:Nat):It:=⟨λi _=>i<n,λi H x H'=>H'=H/\x=.int (lo+i),λi _=>n<=i⟩
def Rw{P:aN}{w:aY}{K:ai}{O:aT}(a it:ae):wK P w K O (IG K a) [it] it (λi h=>h.IsListIter it a i) where
 mem:=by simp
 obj:=λi h f b j=>by
  have e:b=it:=by simpa using j
  subst e;obtain⟨o,e,c,d⟩:=f;exact⟨o,e,λv z=>by rw[d] at z;cases z⟩
 keep:=λi h l f k=>f.at λo e=>k it 'k' o e
 item:=by
  intro X q r t L i g s M H E I m f y;subst q r t;obtain⟨Q,x,n,A⟩:=y;obtain⟨R,B,p,S⟩:=I.list n;obtain⟨u,T,U⟩:=B.get A;obtain⟨C,D,V,F,G,J⟩:=m it 'k';refine wpAny_pyNext_list_item f p.isList (x:=u) (by simpa using T) λl N W=>?_;have Y:Inv X g M H { s with heap:=l }:=I.turned (t':=s.toks) (λb o j e=>(W.2 b j).trans e) C D F G J;obtain⟨o,e,c,d⟩:=id N;exact⟨u,rfl,Dq (s:={ s with heap:=l }) e c d 'u' ⟨x,H,Y,U,⟨rfl,λys Z=>by rw[I.list_inj Z n];exact A⟩,N,λb j=>(m b j).1⟩⟩
 done:=by
  intro X q r t L i g s M H E I m f y;subst q r t;obtain⟨Q,n,A⟩:=y;obtain⟨R,B,p,S⟩:=I.list n;obtain⟨C,D,V,F,G,J⟩:=m it 'k';have hl:=B.length;exact wpAny_pyNext_list_end (I.ok.hd L) f p.isList (by simp;lia) λl eb=>⟨rfl,I.turned (t':=s.toks) (λb o j e=>eb b o j e) C D F G J⟩
 self:=λ_ _ _ _ _ f h=>wpAny_pyIter_listiter f h
def zcj{P:aN}{w:aY}{K:ai}{Q:aT}(a it:ae):wK P w K Q (MR K a) [it] it (λi h=>h.IsTupleIter it a i) where
 mem:=by simp
 obj:=λi h f b j=>by
  have e:b=it:=by simpa using j
  subst e;obtain⟨o,e,c,d⟩:=f;exact⟨o,e,λv z=>by rw[d] at z;cases z⟩
 keep:=λi h l f k=>f.at λo e=>k it 'k' o e
 item:=by
  intro X q r t M i g s N H E I m f y;subst q r t;obtain⟨R,x,n,A⟩:=y;obtain⟨B,C,p,S⟩:=I.tuple n;obtain⟨u,T,U⟩:=C.get A;obtain⟨D,F,V,G,J,L⟩:=m it 'k';refine wpAny_pyNext_tuple_item f (show s.heap.IsTuple a B.toArray from p) (x:=u) (by simpa using T) λl O W=>?_;have Y:Inv X g N H { s with heap:=l }:=I.turned (t':=s.toks) (λb o j e=>(W.2 b j).trans e) D F G J L;obtain⟨o,e,c,d⟩:=id O;exact⟨u,rfl,Dq (s:={ s with heap:=l }) e c d 'u' ⟨x,H,Y,U,⟨rfl,λys Z=>by rw[I.tuple_inj Z n];exact A⟩,O,λb j=>(m b j).1⟩⟩
 done:=by
  intro X q r t M i g s N H E I m f y;subst q r t;obtain⟨R,n,A⟩:=y;obtain⟨B,C,p,S⟩:=I.tuple n;obtain⟨D,F,V,G,J,L⟩:=m it 'k';have hl:=C.length;exact wpAny_pyNext_tuple_end (I.ok.hd M) f (show s.heap.IsTuple a B.toArray from p) (by simp;lia) λl eb=>⟨rfl,I.turned (t':=s.toks) (λb o j e=>eb b o j e) D F G J L⟩
 self:=λ_ _ _ _ _ f h=>wpAny_pyIter_tupleiter f h
def zc7{P:aN}{w:aY}{K:ai}{G:aT}(it:ae)(lo:Int)(n:Nat):wK P w K G (IF lo n) [it] it (λi h=>IsRangeIter h it (lo+(i:Nat)*1) ((n:Int)-(i:Nat)) 1) where
 mem:=by simp
 obj:=λi h a b d=>by
  have e:b=it:=by simpa using d
  subst e;exact⟨_,a,λv z=>by
   have J:Data.fields _=Data.cell v:=z;cases J⟩
 keep:=λi h f a k=>k it 'k' _ a
 item:=by
  intro X j l m p i c s C H E I g a q;subst j l m;obtain⟨r,u,L,x,y,A⟩:=g it 'k';have W:=Walks.range (prog:=X.prog) (w:=X.w) (I.ok.hd p) it lo 1 n;refine ge I.tk (W.item i s _ _ q a λv f B M D N F=>?_);have F:0<B:=F;obtain⟨t,rfl⟩:=M;have O:Inv X c C H { s with heap:=f,toks:=B }:=I.turned (λb o d e=>N b o (by simpa using d) e) r u x y A;refine⟨_,rfl,Dq (s:={ s with heap:=f,toks:=B }) (n := "range_iterator") D rfl rfl 'u' ⟨.int (lo+i),H,O,⟨t,?_⟩,⟨rfl,rfl⟩,D,λb d=>(g b d).1⟩⟩;rw[Int.mul_one]
 done:=by
  intro X j l m p i c s C H E I g a q;subst j l m;obtain⟨r,u,L,x,y,A⟩:=g it 'k';exact wpAny_pyNext_range_end (I.ok.hd p) a (by have:n<=i:=q;lia) λf Q=>⟨rfl,I.turned (t':=s.toks) (λb o d e=>Q b o d e) r u x y A⟩
 self:=λ_ _ _ _ _ a h=>wpAny_pyIter_rangeiter a h
section
variable{X:Cx}{tg:aT}
def zg4{c:List (ae×Obj)}{σ:St}{H:Hp}{s:ag}{R:It->Hp->Prop}{E:ab->ag->Prop}{lo a:Int}{t u v:Tok}{tk:Nat}(I:Inv X c σ H s)(f:-(2 ^ 62)<=lo)(g:lo<2 ^ 62)(h:-(2 ^ 62)<=a)(i:a<2 ^ 62)
  (q:R (IF lo (a-lo).toNat) H) (m:0<tk):am (av X.prog X.w) X.A (pyIter (.ref s.heap.objs.size)) (UG X c σ tg R) E { s with heap:=s.heap.push { cls:=.type "range",data:=.fields #[.int lo t,.int a u,.int 1 v] },toks:=tk }:=by
 refine wpAny_pyIter_range (IsRange.new ..) (small_one f g h i) ?_;have d:Inv X c σ H { s with heap:=s.heap.push { cls:=.type "range",data:=.fields #[.int lo t,.int a u,.int 1 v] },toks:=tk }:=I.kept λb o e=>af _ e;refine⟨(s.heap.push { cls:=.type "range",data:=.fields #[.int lo t,.int a u,.int 1 v] }).objs.size,[(s.heap.push { cls:=.type "range",data:=.fields #[.int lo t,.int a u,.int 1 v] }).objs.size],_,_,H,rfl,
  d.kept (t':=tk) λb o e=>af _ e,zc7 _ lo (a-lo).toNat,?_,λb j=>?_,q⟩
 ·have k:lo+((0:Nat):Int)*1=lo:=by simp
  have l:(((a-lo).toNat:Nat):Int)-((0:Nat):Int)=Builtin.Range.rangeSize lo a 1:=by rw[rangeSize_one];split<;>lia
  show IsRangeIter _ _ (lo+((0:Nat):Int)*1) ((((a-lo).toNat:Nat):Int)-((0:Nat):Int)) 1;rw[k,l];exact aC _ rfl
 ·have e:b=(s.heap.push { cls:=.type "range",data:=.fields #[.int lo t,.int a u,.int 1 v] }).objs.size:=by simpa using j
  subst e;exact d.fpOk (aF _) (d.hok.fresh (aF _))
def VG(ta:TA):TI:=λσ H R=>ta σ H λvs H1=>∃j:Int,vs=[.int j]/\-(2 ^ 62)<=j/\j<2 ^ 62/\R (IF 0 j.toNat) H1
def ze0{a:aT}{d:TA}{p pos:Pos}(g:Gl X "range")(i:X.mg "range" = KF)(k:PA X [a] d)(l:aV [a] X.env=[(K7,eval a X.env)]:=by rfl):PI X tg (.Call (.Name "range" p) [a] [] pos) (VG d):=by
 intro b s m H R I h;refine lj (AY I g i boot_range (fy (pG (k pos b s m H _ I h) λu v ⟨w,x,f,n,c⟩=>?_) l rfl));obtain⟨j,e,c,o,q⟩:=c;subst e;cases n with
 | cons r rr=>
  cases rr;obtain⟨t,rfl⟩:=r;exact call_range_1 (zg4 f 'd' 'd' c o (by simpa using q) (by first|exact cR _|exact f.tk))
noncomputable def U2(wi:TI)(g:TG)(tb:TS):TS:=λD σ H=>wi σ H λJ H1=>∃W:Nat->Nat->St->Hp->Prop,(∃m,W 0 m σ H1)/\∀i m σ H,W i m σ H->
 (J.stop i H/\D.nx σ H)\/(J.go i H/\∃N:St->Hp->Prop,(∀σ' H',N σ' H'->∃m',m'<m/\W (i+1) m' σ' H')/\∀x H',J.yld i H x H'->g x σ H' λrV H2=>tb { D with nx:=N,ct:=N,bk:=D.nx } rV H2)
def DH(fp:List ae)(h:aX):List (ae×Obj):=fp.filterMap λb=>(h.get? b).map λo=>(b,o)
def G9(a:b∈fp)(e:h.get? b=KB o):(b,o)∈DH fp h:=gZ.mpr ⟨b,a,by rw[e];rfl⟩
def zdl(a:p∈DH fp h):p.1∈fp/\h.get? p.1=KB p.2:=by
 obtain⟨b,c,e⟩:=gZ.mp a;cases q:h.get? b with
 |none=>rw[q] at e;cases e
 | some o=>
  rw[q] at e;have d:(b,o)=p:=bZ e;subst d;exact⟨c,q⟩
def Inv.pinned(I:Inv X Y1 σ H s)(f:∀b∈fp,rE X Y1 H b)(g:∀b∈fp,∃o,s.heap.get? b=KB o/\∀v,o.data ≠ .cell v):Inv X (Y1++DH fp s.heap) σ H s:=
 I.pins_of λp h=>(aP.mp h).elim (λz=>I.pin p (ay _ z)) λz=>by
  obtain⟨a,e⟩:=zdl z;obtain⟨i,j,k,_⟩:=f p.1 a;obtain⟨o,c,d⟩:=g p.1 a;rw[e] at c;cases c;exact⟨e,i,j,k,d⟩
def Inv.unpinned(I:Inv X (Y1++pl) σ H s):Inv X Y1 σ H s:=I.pins_of λp a=>I.pin p (ay _ (bV _ a))
def Ox(z:km (av X.prog X.w) X.A X.env X.xe)(U:X.calm=KM)(hi:PI X tg iter wi)(hg:PG X tg g)(c:sJ X body tb)
  (hs:∀x,bK iter X.env x=pure x:=by intro _;rfl):PS X (.For tg iter body [] pos) (U2 wi g tb):=by
 intro a s V H D I h;refine wpAny_For (pG (hi a s V H _ I h) λv s1 h1=>pG h1 λEZ s2 h2=>?_) hs;obtain⟨it,B,Y,J,H2,e,I2,T,p9,Z,W,⟨m0,w0⟩,C⟩:=h2;subst e
 -- what stays KM of the Bt objects through the loop
 have M:∀{t:Hp},(∀b∈B,t b=KF)->∀b∈B,rE X a t b:=λhn b c=>⟨hn b c,(Z b c).2⟩;refine codeAny_forLoop_any (λn s'=>∃i j t,Inv X a j t s'/\Y i s'.heap/\(∀b∈B,t b=KF)/\W i n j t) ?_ m0 ⟨0,V,H2,I2,p9,λb c=>(Z b c).1,w0⟩;rintro n s3 ⟨i,E,L,I3,pN,Ip,w3⟩;rcases C i n E L w3 with⟨F,qn⟩|⟨go,N,hN,G⟩
 ·refine fC z (pG (T.done X rfl rfl rfl U i a s3 E L X.xe I3 (M Ip) pN F) λr s4 ⟨O,I4⟩=>?_);subst O;exact iQ ⟨E,L,I4,qn⟩
 ·refine fC z (pG (T.item X rfl rfl rfl U i a s3 E L X.xe I3 (M Ip) pN go) λr s4 ⟨u,O,h4⟩=>?_);subst O;refine fC z (pG h4 λ_ s5 ⟨x,H5,I5,r5,y5,P,Q⟩=>?_);have R:=I5.pinned (M Q) (T.obj _ _ P);refine fC z (pG (hg _ s5 E H5 x u _ R r5 (G x H5 y5)) λ_ s6 ⟨UP,H6,I6,q6⟩=>?_);refine fC z (pG (c _ s6 UP H6 _ I6 q6) λf S y=>?_);have k:∀{l:St}{p:Hp},Inv X (a++DH B s5.heap) l p S->N l p->∃m,m<n/\∃i j t,Inv X a j t S/\Y i S.heap/\(∀b∈B,t b=KF)/\W i m j t:=λ{l p}q K=>by
   obtain⟨m',hm,w7⟩:=hN l p K;refine⟨m',hm,i+1,l,p,q.unpinned,T.keep _ _ _ P λb c o e=>(q.pin (b,o) (ay _ (ay _ (G9 c e)))).1,λb c=>?_,w7⟩;obtain⟨o,e,d⟩:=T.obj _ _ P b c;exact(q.pin (b,o) (ay _ (ay _ (G9 c e)))).2.1
  cases f with
  |next=>obtain⟨l,p,q,K⟩:=y;exact k q K
  |cont=>obtain⟨l,p,q,K⟩:=y;exact k q K
  |brk=>obtain⟨l,p,q,y⟩:=y;exact⟨l,p,q.unpinned,y⟩
  |ret v=>obtain⟨x7,l,p,q,r7,y⟩:=y;exact⟨x7,l,p,q.unpinned,r7,y⟩
end
abbrev R2:=V->V->Hp->VK->Prop
def qm(X:Cx)(f:ab->ab->Sem ab)(r:R2):Prop:=
 ∀(Y1:List (ae×Obj))(s:ag)(σ:St)(H:Hp)(x y:V)(v u:ab)(Q:VK),Inv X Y1 σ H s->RelV x v->RelV y u->r x y H Q->
  am (av X.prog X.w) X.A (f v u) (EP X Y1 σ Q) X.xe s
def on(X:Cx)(f:ab)(r:List V->Hp->VK->Prop):Prop:=
 ∀(Y1:List (ae×Obj))(s:ag)(σ:St)(H:Hp)(xs:List V)(us:List ab)(Q:VK),Inv X Y1 σ H s->oa xs us->r xs H Q->
  am (av X.prog X.w) X.A (call f us) (EP X Y1 σ Q) X.xe s
def U1(X:Cx)(r:V->Hp->(Bool->Hp->Prop)->Prop):Prop:=
 ∀(Y1:List (ae×Obj))(s:ag)(σ:St)(H:Hp)(x:V)(v:ab)(Q:Bool->Hp->Prop),Inv X Y1 σ H s->RelV x v->r x H Q->
  am (av X.prog X.w) X.A (truthy v) (TP X Y1 σ Q) X.xe s
def EC(r:R2)(ta tb:TE):TE:=λσ H Q=>ta σ H λx H1=>tb σ H1 λy H2=>r x y H2 Q
def rI(C:Int->Int->Prop)(g:Int->Int->V):R2:=λx y H Q=>∃i j,x=.int i/\y=.int j/\C i j/\Q (g i j) H
def vF(g:Int->Int->V):R2:=λx y H Q=>∃i j,x=.int i/\y=.int j/\Q (g i j) H
section
variable{X:Cx}{a b:aT}{ta tb:TE}{pos:Pos}
def IM(i:PE X a ta)(j:PE X b tb){c:List (ae×Obj)}{s:ag}{σ:St}{H:Hp}{R:V->V->Hp->Prop}(I:Inv X c σ H s)
  (h:ta σ H λx g=>tb σ g λy d=>R x y d) {Q:ab->ag->Prop} {f:ab->ab->Sem ab}
  (k:∀v u e x y d,Inv X c σ d e->RelV x v->RelV y u->R x y d->am (av X.prog X.w) X.A (f v u) Q X.xe e):
  am (av X.prog X.w) X.A (eval a X.env) (λv l=>am (av X.prog X.w) X.A (eval b X.env) (λu m=>am (av X.prog X.w) X.A (f v u) Q X.xe m) X.xe l) X.xe s:=by refine pG (i c s σ H _ I h) λv n ⟨x,g,o,p,q⟩=>?_;refine pG (j c n σ g _ o q) λu e ⟨y,d,r,t,z⟩=>?_;exact k v u e x y d r p t z
def Vm{op:Operator}{r:R2}(d:qm X (eM op) r)(e:PE X a ta)(f:PE X b tb):PE X (.BinOp a op b pos) (EC r ta tb):=by intro c s g H Q I h;exact wpAny_BinOp (IM e f I h λv u i x y j k l m q=>d c i g j x y v u Q k l m q)
def EG{f:ab->ab->Sem ab}{C:Int->Int->Prop}{g:Int->Int->Int}
  (c:∀(i j:Int)(t u:Tok)(s:ag)(Q:ab->ag->Prop)(E:ab->ag->Prop),C i j->Q (.int (g i j) s.toks) { s with toks:=s.toks+1 }->am (av X.prog X.w) X.A (f (.int i t) (.int j u)) Q E s):
  qm X f (rI C λi j=>.int (g i j)):=by intro d s n H x y v u Q I e k h;obtain⟨i,j,rfl,rfl,l,q⟩:=h;obtain⟨t,rfl⟩:=e;obtain⟨m,rfl⟩:=k;exact c i j t m s _ _ l ⟨.int (g i j),H,I.tok _,⟨_,rfl⟩,q⟩
def Ng{f:ab->ab->Sem ab}{g:Int->Int->Int}
  (c:∀(i j:Int)(t u:Tok)(s:ag)(Q:ab->ag->Prop)(E:ab->ag->Prop),Q (.int (g i j) s.toks) { s with toks:=s.toks+1 }->am (av X.prog X.w) X.A (f (.int i t) (.int j u)) Q E s):
  qm X f (vF λi j=>.int (g i j)):=by intro d s m H x y v u Q I e k h;obtain⟨i,j,rfl,rfl,q⟩:=h;obtain⟨t,rfl⟩:=e;obtain⟨l,rfl⟩:=k;exact c i j t l s _ _ ⟨.int (g i j),H,I.tok _,⟨_,rfl⟩,q⟩
def IT{f:ab->ab->Sem ab}{g:Int->Int->Bool}
  (c:∀(i j:Int)(t u:Tok)(s:ag)(Q:ab->ag->Prop)(E:ab->ag->Prop),Q (.bool (g i j)) s->am (av X.prog X.w) X.A (f (.int i t) (.int j u)) Q E s):
  qm X f (vF λi j=>.bl (g i j)):=by intro d s m H x y v u Q I e k h;obtain⟨i,j,rfl,rfl,q⟩:=h;obtain⟨t,rfl⟩:=e;obtain⟨l,rfl⟩:=k;exact c i j t l s _ _ ⟨.bl (g i j),H,I,rfl,q⟩
def M9(i j:Int):Prop:=0<j/\j<1073741824
def F4(i j:Int):Prop:=0<=j/\j<=1000000/\i.natAbs<2 ^ 64
def o7(i j:Int):Prop:=(-(2 ^ 64)<i/\i<2 ^ 64)\/(-(2 ^ 64)<j/\j<2 ^ 64)
def o7.ok(h:o7 i j):IntMulOk i j:=by
 rcases h with⟨c,d⟩|⟨c,d⟩
 ·exact .of_left (intBits_le_64 c d)
 ·exact .of_right (intBits_le_64 c d)
def Xe:qm X (eM .Add) (vF λi j=>.int (i+j)):=Ng λ_ _ _ _ _ _ _ q=>add_int q
def Xy:qm X (eM .Sub) (vF λi j=>.int (i-j)):=Ng λ_ _ _ _ _ _ _ q=>sub_int q
def Xz:qm X (eM .Mult) (rI o7 λi j=>.int (i*j)):=EG λ_ _ _ _ _ _ _ c q=>mul_int q c.ok
def Z6:qm X (eM .FloorDiv) (rI M9 λi j=>.int (i/j)):=EG λi j _ _ _ _ _ c q=>by
 have d:(0:Int)<j:=c.1;have e:j<1073741824:=c.2;exact floordiv_int 'd' (by rw[Int.fdiv_eq_ediv_of_nonneg i 'd'];exact q) (.inl (PyProof.noPylong_small 'd'))
def XC:qm X (eM .Mod) (rI (λ_ j=>0<j) λi j=>.int (i%j)):=EG λi j _ _ _ _ _ c q=>by
 have d:(0:Int)<j:=c;exact mod_int' 'd' (by rw[Int.fmod_eq_emod_of_nonneg i 'd'];exact q)
def Xw:qm X (eM .Pow) (rI F4 λi j=>.int (i ^ j.toNat)):=EG λ_ _ _ _ _ _ _ c q=>pow_int_small c.1 c.2.1 c.2.2 q
def V6:qm X (eM .LShift) (rI F4 λi j=>.int (i*2 ^ j.toNat)):=EG λ_ _ _ _ _ _ _ c q=>lshift_int_small c.1 c.2.1 c.2.2 q
end
section
variable{X:Cx}{a b c:aT}{ta tb tc:TE}{pos:Pos}
def DB(I:Inv X Y1 σ H s)(q:Q (.bl k) H)(e:k=k'):EP X Y1 σ Q (.bool k') s:=by subst e;exact⟨.bl k,H,I,rfl,q⟩
def Jd:qm X (cm .Lt) (vF λi j=>.bl (decide (i<j))):=IT λ_ _ _ _ _ _ _ q=>lt_int q
def ND:qm X (cm .LtE) (vF λi j=>.bl (decide (i<=j))):=IT λ_ _ _ _ _ _ _ q=>le_int q
def NJ:qm X (cm .GtE) (vF λi j=>.bl (decide (j<=i))):=IT λ_ _ _ _ _ _ _ q=>ge_int q
def ze3:qm X (cm .Lt) (λx y H Q=>∃i j,x=.str i/\y=.str j/\Q (.bl (decide (i.cps.toList<j.cps.toList))) H):=by intro d s g H x y v u Q I e f h;obtain⟨i,j,rfl,rfl,q⟩:=h;obtain⟨t,rfl⟩:=e;obtain⟨k,rfl⟩:=f;exact lt_str (DB I q rfl)
def zeU:qm X (cm .In) (λx y H Q=>∃i j,x=.str i/\y=.str j/\Q (.bl (!(bS j i 0 j.length 1).isEmpty)) H):=by intro d s g H x y v u Q I e f h;obtain⟨i,j,rfl,rfl,q⟩:=h;obtain⟨t,rfl⟩:=e;obtain⟨k,rfl⟩:=f;exact in_str (DB I q rfl)
def Oq:qm X (cm .Is) (λx y H Q=>y=.non/\Q (.bl (decide (x=.non))) H):=by
 intro d s g H x y v u Q I e f h;obtain⟨rfl,q⟩:=h;cases f;refine is_none_gen (DB I q ?_);cases x<;>first
  |(cases e;rfl)
  |(obtain⟨t,rfl⟩:=e;rfl)
def OS:qm X (cm .IsNot) (λx y H Q=>y=.non/\Q (.bl (!decide (x=.non))) H):=by
 intro d s g H x y v u Q I e f h;obtain⟨rfl,q⟩:=h;cases f;refine isnot_none_gen (DB I q ?_);cases x<;>first
  |(cases e;rfl)
  |(obtain⟨t,rfl⟩:=e;rfl)
def z93:qm X (cm .NotIn) (λx y H Q=>∃i j,x=.str i/\y=.str j/\Q (.bl (!(!(bS j i 0 j.length 1).isEmpty))) H):=by intro d s g H x y v u Q I e f h;obtain⟨i,j,rfl,rfl,q⟩:=h;obtain⟨t,rfl⟩:=e;obtain⟨k,rfl⟩:=f;exact notIn_str (DB I q rfl)
def qm.or(h:qm X f r)(h':qm X f r'):qm X f (λx y H Q=>r x y H Q\/r' x y H Q):=by
 intro d s e H x y v u Q I g i q;rcases q with q|q
 ·exact h d s e H x y v u Q I g i q
 ·exact h' d s e H x y v u Q I g i q
def uv(b:aT)(h:op ≠ .In:=by decide)(d:op ≠ .NotIn:=by decide):behindInMarks op b=K7:=by
 have e:(op==CmpOp.In)=K7:=by cases op<;>first|rfl|exact absurd rfl h
 have f:(op==CmpOp.NotIn)=K7:=by cases op<;>first|rfl|exact absurd rfl d
 cases b<;>simp[behindInMarks,e,f]
def Zw{op:CmpOp}{r:R2}(e:qm X (cm op) r)(f:PE X a ta)(g:PE X b tb)(i:behindInMarks op b=K7):PE X (.Compare a [op] [b] pos) (EC r ta tb):=by intro d s j H Q I h;exact wpAny_Compare1 (IM f g I h λv u k x y l m n o q=>e d k j l x y v u Q m n o q) i
def Nw(t:TE):TT:=λσ H Q=>t σ H λx H'=>∃k,x=.bl k/\Q k H'
def ZP(g:qm X (cm op) r)(i:PE X a ta)(j:PE X b tb)(l:behindInMarks op b=K7):PT X (.Compare a [op] [b] pos) (Nw (EC r ta tb)):=by
 intro d s f H Q I h;refine kL (pG (i d s f H _ I h) λv m ⟨x,n,o,p,q⟩=>pG (j d m f n _ o q) λu t ⟨y,w,A,B,C⟩=>
  pG (g d t f w x y v u _ A p B C) λc J ⟨z,D,E,F,k,e,G⟩=>?_) l
 subst e;cases F;exact cX ⟨D,E,G⟩
noncomputable def Xx(r r':R2)(ta tb tc:TE):TE:=λσ H Q=>ta σ H λx H1=>tb σ H1 λy H2=>r x y H2 λz H3=>∃k,z=.bl k/\
 (if k=KM then tc σ H3 λw' H4=>r' y w' H4 Q else Q (.bl K7) H3)
def zha(n:qm X (cm op) r)(o:qm X (cm CW) r')(p:PE X a ta)(q:PE X b tb)(t:PE X c tc)
  (w:lastMarks [op,CW] [b,c]=K7:=by with_unfolding_all rfl):PE X (.Compare a [op,CW] [b,c] pos) (Xx r r' ta tb tc):=by
 intro f s g H Q I h;refine Compare_chain (pG (p f s g H _ I h) λv A ⟨x,B,C,D,E⟩=>chain_link (pG (q f A g B _ C E) λu F ⟨y,G,J,i,K⟩=>
  pG (n f F g G x y v u _ J D i K) λd L ⟨z,j,l,M,k,e,m⟩=>?_)) w
 subst e;cases M;refine cX ?_;cases k with
 |false=>exact ite_ff ⟨.bl K7,j,l,rfl,m⟩
 |true=>exact ite_tt (chain_last (pG (t f L g j _ l m) λN O ⟨P,R,S,T,U⟩=>o f O g R y P u N Q S i T U))
def M8(K:ai)(x:V)(H:Hp)(k:Bool):Prop:=
 match x with
 |.non=>k=K7
 |.bl b=>k=b
 |.int i=>k=(i !=0)
 |.str y=>y.length<=qN/\k=((y.length:Int) !=0)
 |.byt y=>y.size<=qN/\k=((y.size:Int) !=0)
 |.ref p=>(∃xs,qz K H p xs/\k = !xs.isEmpty)\/(∃xs,qT K H p xs/\k = !xs.isEmpty) \/ ∃k_,H p=KB (.dK k_)/\k = !k_.isEmpty
 |_=>False
def zcD{κ:Type}{d:List (κ×V)}{vs:List (κ×ab)}(r:KV d vs):(!vs.isEmpty) = !d.isEmpty:=by cases r<;>rfl
def Sh{xs:List V}{d:List ab}(r:oa xs d):(!d.toArray.isEmpty) = !xs.isEmpty:=by cases r<;>simp
def Cq:(qN:Nat)<2 ^ 63:=by rw[kB];decide
def WI:U1 X (λx H Q=>∃k,M8 X.K x H k/\Q k H):=by
 intro z s E H x v Q I j h;obtain⟨k,e,q⟩:=h;have F:=Cq;have G:qN=16777216:=kB;cases x with
 | non=>
  cases j;have d:k=K7:=e;subst d;exact truthy_none ⟨H,I,q⟩
 | bl b=>
  cases j;have d:k=b:=e;subst d;exact cX ⟨H,I,q⟩
 | int i=>
  obtain⟨t,rfl⟩:=j;have d:k=(i !=0):=e;subst d;exact PySem.P.truthy_int ⟨H,I,q⟩
 | str y=>
  obtain⟨t,rfl⟩:=j;obtain⟨B,d⟩:y.length<=qN/\k=((y.length:Int) !=0):=e;subst d;exact PySem.P.truthy_str 'd' ⟨H,I.tok _,q⟩
 | byt y=>
  obtain⟨t,rfl⟩:=j;obtain⟨B,d⟩:y.size<=qN/\k=((y.size:Int) !=0):=e;subst d;exact PySem.W.truthy_bytes 'd' ⟨H,I.tok _,q⟩
 | ref p=>
  cases j;have d:(∃g,qz X.K H p g/\k = !g.isEmpty)\/(∃g,qT X.K H p g/\k = !g.isEmpty) \/ ∃l,H p=KB (.dK l)/\k = !l.isEmpty:=e;rcases d with⟨g,n,d⟩|⟨g,n,d⟩|⟨l,n,d⟩
  ·subst d;obtain⟨C,r,u,A⟩:=I.list n;have f:=r.length;exact wpAny_truthy_list u.isList (by simp only[aH];lia) ⟨H,I.tok _,by rw[Sh r];exact q⟩
  ·subst d;obtain⟨C,r,u,A⟩:=I.tuple n;have f:=r.length;exact truthy_tuple u (by simp only[aH];lia) ⟨H,I.tok _,by rw[Sh r];exact q⟩
  ·subst d;obtain⟨A,D,o,r,m⟩:l.length<=qN/\(p==sysModules)=K7/\∃o,KV l o/\s.heap.DictOf (vE X.prog X.w) p o:=I.hok p _ n;have f:l.length=o.length:=lD r;exact wpAny_truthy_dict D m 'd' ⟨H,I.tok _,by rw[zcD r];exact q⟩
 |_=>exact(show False from e).elim
def zh4(f:PE X a ta)(g:∀d,isTrue a X.env d=(do let v <- d;standAt a.pos;holding [v] (truthy v))):
  PT X a (λσ H Q=>ta σ H λx H'=>∃k,M8 X.K x H' k/\Q k H'):=by intro e s σ H Q I h;exact isTrue_plain (pG (f e s σ H _ I h) λv i ⟨x,j,l,m,n⟩=>WI e i σ j x v Q l m n) (g _)
def zcg:qm X (eM .Add) (λx y H Q=>∃i j,x=.str i/\y=.str j/\i.length+j.length<=qN/\Q (.str (i++j)) H):=by intro d s m H x y v u Q I e f h;obtain⟨i,j,rfl,rfl,g,q⟩:=h;obtain⟨t,rfl⟩:=e;obtain⟨k,rfl⟩:=f;exact ge I.tk (add_str (λk n l=>⟨.str (i++j),H,I.tok _ l,⟨_,rfl⟩,q⟩) g)
def uI(r:oa [x] us):∃u,us=[u]/\RelV x u:=by
 cases r with
 |cons r1 r2=>cases r2;exact⟨_,rfl,r1⟩
def Cb(r:oa [x,y] us):∃u d,us=[u,d]/\RelV x u/\RelV y d:=by
 cases r with
 | cons r1 r2=>
  cases r2 with
  |cons r3 r4=>cases r4;exact⟨_,_,rfl,r1,r3⟩
def zeW(f:X.calm=KM):on X (.builtin "max") (λxs H Q=>∃i j,xs=[.int i,.int j]/\Q (.int (if j>i then j else i)) H):=by
 intro e s l H xs m Q I r h;obtain⟨i,j,rfl,q⟩:=h;obtain⟨u,n,rfl,⟨t,rfl⟩,⟨o,rfl⟩⟩:=Cb r;refine ge I.tk (max_two_ints (I.ok.hd f) λp v k g=>⟨_,H,I.kept k g,?_,q⟩);by_cases d:j>i
 ·rw[qb d,qb d];exact⟨_,rfl⟩
 ·rw[qq d,qq d];exact⟨_,rfl⟩
def zdc(f:X.calm=KM):on X (.builtin "min") (λxs H Q=>∃i j,xs=[.int i,.int j]/\Q (.int (if j<i then j else i)) H):=by
 intro e s l H xs m Q I r h;obtain⟨i,j,rfl,q⟩:=h;obtain⟨u,n,rfl,⟨t,rfl⟩,⟨o,rfl⟩⟩:=Cb r;refine ge I.tk (min_two_ints (I.ok.hd f) λp v k g=>⟨_,H,I.kept k g,?_,q⟩);by_cases d:j<i
 ·rw[qb d,qb d];exact⟨_,rfl⟩
 ·rw[qq d,qq d];exact⟨_,rfl⟩
def zfg:on X (.type "int") (λxs H Q=>(∃i,xs=[.int i]/\Q (.int i) H) \/ ∃k,xs=[.bl k]/\Q (.int (if k then 1 else 0)) H):=by
 intro d s f H xs g Q I r h;rcases h with⟨i,rfl,q⟩|⟨k,rfl,q⟩
 ·obtain⟨u,rfl,t,rfl⟩:=uI r;exact call_int_int ⟨.int i,H,I,⟨_,rfl⟩,q⟩
 ·obtain⟨u,rfl,e⟩:=uI r;cases e;exact call_int_bool ⟨.int (if k then 1 else 0),H,I.tok _,⟨_,rfl⟩,q⟩
def Nk(K:ai)(x:V)(H:Hp)(n:Nat):Prop:=
 match x with
 |.str y=>y.length<=qN/\n=y.length
 |.byt y=>y.size<=qN/\n=y.size
 |.ref p=>(∃xs,qz K H p xs/\n=xs.length) \/ ∃xs,qT K H p xs/\n=xs.length
 |_=>False
def zgj:on X (.builtin "len") (λxs H Q=>∃x n,xs=[x]/\Nk X.K x H n/\Q (.int n) H):=by
 intro l s w H xs z Q I r h;obtain⟨x,n,rfl,e,q⟩:=h;obtain⟨u,rfl,g⟩:=uI r;have A:=Cq;have B:qN=16777216:=kB;cases x with
 | str y=>
  obtain⟨t,rfl⟩:=g;obtain⟨m,f⟩:y.length<=qN/\n=y.length:=e;subst f;exact len_str 'd' ⟨.int _,H,I.tok _,⟨_,rfl⟩,q⟩
 | byt y=>
  obtain⟨t,rfl⟩:=g;obtain⟨m,f⟩:y.size<=qN/\n=y.size:=e;subst f;exact PySem.W.len_bytes 'd' ⟨.int _,H,I.tok _,⟨_,rfl⟩,q⟩
 | ref p=>
  cases g;have f:(∃xs,qz X.K H p xs/\n=xs.length) \/ ∃xs,qT X.K H p xs/\n=xs.length:=e;rcases f with⟨xs,i,f⟩|⟨xs,i,f⟩
  ·subst f;obtain⟨o,j,k,v⟩:=I.list i;have d:=j.length;exact Calls.call_len_list k.isList (by simp only[aH];lia) ⟨.int xs.length,H,I.tok _,⟨_,by simp only[aH];rw[d]⟩,q⟩
  ·subst f;obtain⟨o,j,k,v⟩:=I.tuple i;have d:=j.length;exact len_tuple k (by simp only[aH];lia) ⟨.int xs.length,H,I.tok _,⟨_,by simp only[aH];rw[d]⟩,q⟩
 |_=>exact(show False from e).elim
end
structure zpH(h:aX)(x dx C:ae)(mA:Str->Option ab):Prop where
 obj:h.get? x=KB (m9 C dx)
 ns:h.Ns1 dx mA
 ne:dx≠x
section
end
def oO.some_of(r:oO (KB v) o):∃u,o=KB u/\RelV v u:=by
 cases o with
 |none=>exact(show False from r).elim
 |some u=>exact⟨u,rfl,r⟩
structure MT(K:ai)(C:ae):Prop where
 pg:mP K C Str.empty=KM
 hd:PySem.W.hasDictIn K C=KM
 po:PySem.W.plainOver K C=KM
 sa:fg K (.ref C) "__setattr__" = KB (KB (.builtin "object.__setattr__"))
def MT.get{K:ai}{C:ae}(c:MT K C)(f:Str):mP K C f=KM:=c.pg
structure Con(K:ai)(C:ae)(f:Str)(v:V)(u:ab):Prop where
 at_:fg K (.ref C) f=KB (KB u)
 rel:RelV v u
 get:jH K u "__get__" = KB KF
 cp:PySem.W.copiedNames.contains f=K7
structure zpM(K:ai)(C:ae)(m:Str)(f:ae):Prop where
 at_:fg K (.ref C) m=KB (KB (.ref f))
 fn:nT K (.ref f)=KM
 kp:cZ K (.ref f)=KM
section
end
section
variable{H:Hp}
inductive xg(K:ai)(H:Hp):V->ab->Prop where
 |non:xg K H .non (.type "NoneType")
 |bl (x:Bool):xg K H (.bl x) (.type "bool")
 |int (i:Int):xg K H (.int i) (.type "int")
 |str (x:Str):xg K H (.str x) (.type "str")
 |flt (x:UInt64):xg K H (.flt x) (.type "float")
 |lst {a:ae} {xs:List V} (e:H a=KB (.lst xs)):xg K H (.ref a) (.type "list")
 |frz {a:ae} {o:Obj} {xs:List V} (e:H a=KB (.frz o (.lst xs))):xg K H (.ref a) (.type "list")
 |tup {a:ae} {xs:List V} (e:H a=KB (.tup xs)):xg K H (.ref a) (.type "tuple")
 |dK {a:ae} {k_:List (Key×V)} (e:H a=KB (.dK k_)):xg K H (.ref a) (.type "dict")
 |dT {a:ae} {k_:List (List Key×V)} (e:H a=KB (.dT k_)):xg K H (.ref a) (.type "dict")
 | ins {a C dx:ae} {fs:List (Str×V)} (e:H a=KB (.ins C dx fs)) (cl:MT K C) (ha:fg K (.ref C) "__class__" = KB (KB (.builtin "object.__class__")))
   (hn:jH K (.builtin "object.__class__") "__get__" = KB (KB (.builtin "getset_descriptor.__get__"))) (qp:ng K (.builtin "object.__class__")=KB KM)
   (hm:lE K C (.type "object")=KB KM):xg K H (.ref a) (.ref C)
end
structure om(k:Nat)(A:ba):Prop where
 hd:A.handled=KF
 dp:A.depth+3*k+5<recursionLimit
 un:A.units+16*k+200<cLine
def om.mono(r:om k A)(h:j<=k):om j A:=⟨r.hd,by have:=r.dp;lia,by have:=r.un;lia⟩
def om.deeper(r:om (k+1) A)(env:Env):om k (A.deeper env):=
 ⟨r.hd,by have:=r.dp;show A.depth+1+3*k+5<_;lia,by have:=r.un;show A.units+3+16*k+200<_;lia⟩
def om.in1(r:om (k+1) A):om k A.in1:=
 ⟨r.hd,by have:=r.dp;show A.depth+3*k+5<_;lia,by have:=r.un;show A.units+1+16*k+200<_;lia⟩
def om.depth(r:om k A):A.depth<recursionLimit:=by have:=r.dp;lia
def om.units(r:om k A):A.units+64<cLine:=by have:=r.un;lia
def MW:TA:=λ_ H Q=>Q [] H
def NV(ta:TE)(tr:TA):TA:=λσ H Q=>ta σ H λx H1=>tr σ H1 λxs H2=>Q (x::xs) H2
section
variable{X:Cx}{e:aT}{es:List aT}{te:TE}{t:TA}{pos:Pos}
def Gw:PA X [] MW:=λ_ _ _ _ H Q I h=>mq ⟨[],H,I,.nil,h⟩
def DP(c:PE X e te)(d:PA X es t)(f:aV (e::es) X.env=(K7,eval e X.env)::aV es X.env:=by rfl):PA X (e::es) (NV te t):=by intro pos a s b H Q I h;rw[f];show am _ _ (spliced ((K7,eval e X.env)::backTo pos (aV es X.env))) _ _ s;refine lV (pG (c a s b H _ I h) λu g ⟨x,i,j,k,l⟩=>?_);exact pG (d pos a g b i _ j l) λr v ⟨m,n,o,p,q⟩=>⟨x::m,n,o,.cons k p,q⟩
def U0(t:TA):TE:=λσ H Q=>t σ H λxs H1=>xs.length<=qN/\∀p,H1 p=KF->Q (.ref p) (upd H1 p (.tup xs))
def U9(t:TA):TE:=λσ H Q=>t σ H λxs H1=>xs.length<=qN/\∀p,H1 p=KF->Q (.ref p) (upd H1 p (.lst xs))
def Wt(h:PA X es t):PE X (.Tuple es x1 pos) (U0 t):=by intro a s g H Q I i;refine wpAny_Tuple_spliced (pG (h pos a s g H _ I i) λj c ⟨k,d,f,r,z,q⟩=>⟨by rw[<- r.length];exact z,?_⟩);have l:d c.heap.objs.size=KF:=f.hok.fresh (aF _);refine⟨.ref c.heap.objs.size,upd d c.heap.objs.size (.tup k),f.laid (t':=c.toks) (λb u e=>af _ e) (aF _) ?_,rfl,q _ l⟩;exact⟨z,j,r,oG.new _ _⟩
def Ob(h:PA X es t):PE X (.List es pos) (U9 t):=by intro a s g H Q I i;refine wpAny_List_spliced (pG (h pos a s g H _ I i) λj c ⟨k,d,f,r,z,q⟩=>⟨by rw[<- r.length];exact z,?_⟩);have l:d c.heap.objs.size=KF:=f.hok.fresh (aF _);refine⟨.ref c.heap.objs.size,upd d c.heap.objs.size (.lst k),f.laid (t':=c.toks) (λb u e=>af _ e) (aF _) ?_,rfl,q _ l⟩;exact⟨z,j,0,r,aC _ rfl⟩
end
abbrev Sp:=List V->Hp->VK->XK->Prop
abbrev wF:=List Env->Hp->ag->XK->ab->ag->Prop
structure oR(P:aN)(w:aY)(K:ai)(mg:Str->Option ab)(base:aX)(A:ba)(outer:List Env)(s:ag)(H:Hp):Prop where
 frames:A.frames=KB outer
 mod:Mod K mg base
 bs:∀b o,base.get? b=KB o->s.heap.get? b=KB o/\H b=KF
 bsz:base.objs.size<=s.heap.objs.size
 funs:s.heap.FunFrames base outer
 frf:∀b∈um outer,H b=KF
 hok:HOk P w H s.heap
 bare:h9 s.gens
 tk:0<s.toks
def CE(outer:List Env)(P:aN)(w:aY)(H:Hp)(s:ag)(Q:VK)(u:ab)(s':ag):Prop:=
 (∃v H',s'.os=s.os/\h9 s'.gens/\Un (um outer) [] H H' s.heap s'.heap/\HOk P w H' s'.heap/\RelV v u/\Q v H')/\0<s'.toks
def CR(CX:wF)(outer:List Env)(P:aN)(w:aY)(H:Hp)(s:ag)(Q:VK)(E:XK)(r:Result)(s':ag):Prop:=
 match r with
 |.ok (.ret u)=>CE outer P w H s Q u s'
 |.ok _=>False
 |.error e=>CX outer H s E e s'
structure oB(P:aN)(w:aY)(K:ai)(mg:Str->Option ab)(base:aX)(CX:wF)(k:Nat)(f:ae)(fd:eD)(ps:List Str)(sp:Sp):Prop where
 len:∀vs H Q E,sp vs H Q E->vs.length=ps.length
 run:∀(A:ba)(outer:List Env)(s:ag)(H:Hp)(args:Args)(us:List ab)(vs:List V)(Q:VK)(E:XK),om k A->oR P w K mg base A outer s H->kM s fd args (ps.zip us)->oa vs us->sp vs H Q E->
  codeAny (av P w) A (.call (.ref f) args) (CR CX outer P w H s Q E) s
def oB.mono{P:aN}{w:aY}{K:ai}{mg:Str->Option ab}{base:aX}{c:wF}{j k:Nat}{f:ae}{d:eD}{e:List Str}{g:Sp}(F:oB P w K mg base c j f d e g)(h:j<=k):
  oB P w K mg base c k f d e g:=⟨F.len,λA a s H b i l Q E m=>F.run A a s H b i l Q E (m.mono h)⟩
def oB.imp{P:aN}{w:aY}{K:ai}{mg:Str->Option ab}{base:aX}{c:wF}{k:Nat}{f:ae}{d:eD}{e:List Str}{g i:Sp}(F:oB P w K mg base c k f d e g)
  (h:∀vs H Q E,i vs H Q E->g vs H Q E):oB P w K mg base c k f d e i:=
 ⟨λvs H Q E q=>F.len vs H Q E (h _ _ _ _ q),λA a s H b j vs Q E l m n o p=>F.run A a s H b j vs Q E l m n o (h _ _ _ _ p)⟩
def oR.in1{P:aN}{w:aY}{K:ai}{mg:Str->Option ab}{base:aX}{A:ba}{a:List Env}{s:ag}{H:Hp}(e:oR P w K mg base A a s H):
  oR P w K mg base A.in1 a s H:=⟨e.frames,e.mod,e.bs,e.bsz,e.funs,e.frf,e.hok,e.bare,e.tk⟩
section
variable{X:Cx}{Y1:List (ae×Obj)}{σ:St}{H:Hp}{s s':ag}
def Inv.env0(I:Inv X Y1 σ H s):oR X.prog X.w X.K X.mg X.base X.A X.stack s H:=
 ⟨I.ok.frames,I.ok.mod,I.bs,aM I.ok.bsz I.sz,I.stack,I.stkFree,I.hok,I.bare,I.tk⟩
def Inv.after(I:Inv X Y1 σ H s)(h:CE X.stack X.prog X.w H s Q u s'):EP X Y1 σ Q u s':=by obtain⟨⟨v,e,f,a,i,c,r,q⟩,j⟩:=h;obtain⟨k,g,d,t,l⟩:=s';obtain rfl:l=s.os:=f;exact⟨v,e,I.call (h':=k) (g':=g) (d':=d) (t':=t) (ch:=[]) i c a (λb z=>absurd z 'k') j,r,q⟩
end
def Wb(sp:Sp)(dvs:List V)(E:XK)(t:TA):TE:=λσ H Q=>t σ H λvs H1=>sp (vs++dvs) H1 Q E
def Binds(K:ai)(fd:eD)(ps:List Str)(ds:List ab):Prop:=
 ∀(s:ag)(us:List ab),K.In s.heap->(us++ds).length=ps.length->kM s fd ⟨us,[]⟩ (ps.zip (us++ds))
def Binds.all{K:ai}{c:eD}{b:List Str}(h:∀a:List ab,a.length=b.length->bindArgs c ⟨a,[]⟩=pure (b.zip a)):Binds K c b []:=λs a _ d=>by
 rw[bC] at d ⊢;exact .of_eq (h a d)
def Gz(CX:wF)(X:Cx)(E:XK):Prop:=∀(Y1:List (ae×Obj))(σ:St)(H:Hp)(s:ag)(e:ab)(s':ag),Inv X Y1 σ H s->CX X.stack H s E e s'->X.xe e s'
section
variable{X:Cx}{CX:wF}{k:Nat}{f C:ae}{fd:eD}{ps:List Str}{sp:Sp}{dvs:List V}{ds:List ab}{E:XK}{x:Str}{p pos:Pos}{e:aT}{es:List aT}{t:TA}
def WA(F:oB X.prog X.w X.K X.mg X.base CX k f fd ps sp)(c:om k X.A)(d:Binds X.K fd ps ds)(g:oa dvs ds)(i:Gz CX X E)
  (I:Inv X Y1 σ H s) (r:oa vs us) (h:sp (vs++dvs) H Q E):am (av X.prog X.w) X.A (call (.ref f) us) (EP X Y1 σ Q) X.xe s:=by
 have b:oa (vs++dvs) (us++ds):=r.append g;have j:(us++ds).length=ps.length:=by rw[<- b.length];exact F.len _ _ _ _ h
 refine lp (gq (F.run X.A X.stack s H ⟨us,[]⟩ (us++ds) (vs++dvs) Q E c I.env0 (d s us I.kIn j) b h) λr l a=>?_);cases r with
 |error e=>exact i Y1 σ H s e l I a
 | ok fl=>
  cases fl with
  |ret u=>exact I.after a
  |next=>exact aj a
  |brk=>exact aj a
  |cont=>exact aj a
def OZ(F:oB X.prog X.w X.K X.mg X.base CX k f fd ps sp)(c:om k X.A)(d:Gl X x)(g:X.mg x=KB (.ref f))(i:cZ X.K (.ref f)=KM)(j:Binds X.K fd ps ds)(l:oa dvs ds)(m:Gz CX X E)
  (n:PA X (e::es) t) (o:(x==("__debug__":Str))=K7:=by decide) (u:aV (e::es) X.env=(K7,eval e X.env)::aV es X.env:=by rfl) (v:(backTo pos (aV es X.env)).any (·.1)=K7:=by rfl):
  PE X (.Call (.Name x p) (e::es) [] pos) (Wb sp dvs E t):=by intro a s y H Q I h;refine g7 (Pr I d g ?_ o);refine PySem.W.callWith_K (h₀:=X.base) I.ok.mod.kin i (pG (n pos a s y H _ I h) λz B ⟨D,G,b,r,q⟩=>⟨b.kIn,?_⟩) u v;exact WA F c j l m b r q
structure Mk(K:ai)(C f:ae):Prop where
 makes:PySem.W.makesIn K C=KM
 init:fg K (.ref C) "__init__" = KB (KB (.ref f))
 fn:nT K (.ref f)=KM
 kp:cZ K (.ref C)=KM
end
section
variable{fd:eD}{ps ks:List Str}
structure zoM(K:ai)(fd:eD)(ps ks:List Str)(g:List ab->List ab->List ab)(gV:List V->List V->List V):Prop where
 to:∀(s:ag)(us ws:List ab),K.In s.heap->(g us ws).length=ps.length->kM s fd ⟨us,ks.zip ws⟩ (ps.zip (g us ws))
 rel:∀{vs:List V}{us:List ab}{zs:List V}{ws:List ab},oa vs us->oa zs ws->oa (gV vs zs) (g us ws)
end
structure pV(N P:List Str)(sc:c8):Prop where
 kind:sc.kind=.function
 co:sc.isCoroutine=K7
 gen:sc.isGenerator=K7
 nd:N.Nodup
 pre:N.take P.length=P
 par:∀x∈P,sc.names.lookup x=KB .local\/sc.names.lookup x=KB .cell
 nofree:∀y∈sc.names,y.2 ≠ .free
theorem RC{a:Str->Option dr}{x:Str}:∀{binds:List (Str×ab)}{m:Str->Option ab},(∀v,(x,v)∉binds)->bindL a binds m x=m x
 |[],_,_=>rfl
 | (n,v)::r,m,h=>by
  unfold bindL;rw[RC λw b=>h w (al _ b)];split
  ·have:x≠n:=by rintro rfl;exact h v au
   simp[this]
  ·rfl
theorem RQ{a:Str->Option dr}{x:Str}:∀{binds:List (Str×ab)}{m:Str->Option ab},(∀v,(x,v)∉binds)->bindC a binds m x=m x
 |[],_,_=>rfl
 | (n,v)::r,m,h=>by
  unfold bindC;rw[RQ λw b=>h w (al _ b)];split
  ·rfl
  ·have:x≠n:=by rintro rfl;exact h v au
   simp[this]
theorem Rq{a:Str->Option dr}{x:Str}{v:ab}:∀{P:List Str}{vs:List ab}{i:Nat}{m:Str->Option ab},P.Nodup->P[i]?=KB x->vs[i]?=KB v->a x=KB .local->
  bindL a (P.zip vs) m x=KB v
 |[],_,_,_,_,h,_,_=>by simp at h
 |_::_,[],_,_,_,_,h,_=>by simp at h
 | p::P,w::vs,0,m,nd,h1,h2,hk=>by
  simp at h1 h2;subst h1;subst h2;show bindL a ((p,w)::P.zip vs) m p=_;unfold bindL;rw[RC λv b=>(bG.mp nd).1 (kn b).1,qb hk];simp
 | p::P,w::vs,i+1,m,nd,h1,h2,hk=>by
  show bindL a ((p,w)::P.zip vs) m x=_;unfold bindL;exact Rq (i:=i) (bG.mp nd).2 (by simpa using h1) (by simpa using h2) hk
theorem Rp{a:Str->Option dr}{x:Str}{v:ab}:∀{P:List Str}{vs:List ab}{i:Nat}{m:Str->Option ab},P.Nodup->P[i]?=KB x->vs[i]?=KB v->a x≠KB .local->
  bindC a (P.zip vs) m x=KB v
 |[],_,_,_,_,h,_,_=>by simp at h
 |_::_,[],_,_,_,_,h,_=>by simp at h
 | p::P,w::vs,0,m,nd,h1,h2,hk=>by
  simp at h1 h2;subst h1;subst h2;show bindC a ((p,w)::P.zip vs) m p=_;unfold bindC;rw[RQ λv b=>(bG.mp nd).1 (kn b).1,qq hk];simp
 | p::P,w::vs,i+1,m,nd,h1,h2,hk=>by
  show bindC a ((p,w)::P.zip vs) m x=_;unfold bindC;exact Rp (i:=i) (bG.mp nd).2 (by simpa using h1) (by simpa using h2) hk
def start(N:List Str)(vs:List V):St:=vs.map KB++aw (N.length-vs.length) KF
def AL(CX:wF)(P:aN)(w:aY)(K:ai)(mg:Str->Option ab)(base:aX)(N:List Str)(qual:Str)(scope:c8)(f:ae)(cd:ab)(A:ba)(outer:List Env)(s:ag)(H:Hp)(E:XK):Cx where
 prog:=P
 w:=w
 K:=K
 mg:=mg
 base:=base
 A:=A.deeper (envOfC qual scope s.heap.objs.size f cd)
 N:=N
 s₀:=s
 H₀:=H
 env:=envOfC qual scope s.heap.objs.size f cd
 outer:=outer
 stack:=envOfC qual scope s.heap.objs.size f cd::outer
 ex:=[]
 calm:=KM
 fn:=λ_=>KM
 pn:=[]
 xe:=λe s'=>am (av P w) (A.deeper (envOfC qual scope s.heap.objs.size f cd)) (leaving (envOfC qual scope s.heap.objs.size f cd) e) (λ_ yW=>CX outer H s E e yW) (λe' yW=>CX outer H s E e' yW) s'
def QR{a:c8}{n:Nat}{x:Str}(h:a.names.lookup x=KB .cell):∃c,(cE n a.names []).lookup x=KB c:=by have q:=ir a.names n [] (.inl h);exact g8.mp q
def zdH{I:wF}{P:aN}{w:aY}{K:ai}{mg:Str->Option ab}{base:aX}{N m:List Str}{g:Str}{scope:c8}{f:ae}{t:ab}{A:ba}{d:List Env}{s D:ag}{H:Hp}{E:XK}{F:List ab}{vs:List V}
  (S:pV N m scope) (O:A.handled=KF) (l:oR P w K mg base A d s H) (U:vs.length=m.length) (r:oa vs F)
  (x:InCallC s s.heap.objs.size (bindL (envOfC g scope s.heap.objs.size f t).kindOf (m.zip F) λ_=>KF) (cE (s.heap.objs.size+1) scope.names []) (bindC (envOfC g scope s.heap.objs.size f t).kindOf (m.zip F) λ_=>KF) D) (Q:0<D.toks):
  Inv (AL I P w K mg base N g scope f t A d s H E) [] (start N vs) H D:=by
 have W:m.length<=N.length:=by have:=congrArg kC S.pre;rw[cq] at this;lia
 obtain⟨B,X,rfl,J⟩:=x.done;have G:∀b:ae,b∉(AL I P w K mg base N g scope f t A d s H E).ex:=λb z=>absurd (show b∈([]:List ae) from z) 'k';refine⟨⟨l.mod,S.kind,rfl,rfl,aF _,λy z c B j=>?_,λy hy=>?_,λy c _ h=>?_,λ_=>O,lq l.frames,.inr ⟨rfl,rfl⟩,λb z=>absurd z (G b),l.bs,l.bsz,λb _ _=>G b,λb z=>absurd z (G b),l.funs,l.frf⟩,
  rfl,l.bare,Un.kept J,⟨_,x.toInCall.ns,λi y v B j Y=>?_⟩,λy c h=>⟨_,x.cell y c h⟩,l.hok.fresh (aF _),λy c h=>?_,λp o=>absurd (show p∈([]:List (ae×Obj)) from o) 'k',l.hok.kept J,?_,Q⟩
 ·exact name_of_addr x.apart (bQ B) (bQ j)
 ·have hy:scope.names.lookup y=KB .cell\/scope.names.lookup y=KB .free:=hy;rcases hy with hy|hy
  ·exact QR hy
  ·exact absurd rfl (S.nofree _ (bQ hy))
 ·exact gp (x.above y c (bQ h))
 ·have C:i<vs.length:=by
   unfold start at j;by_cases C:i<vs.length
   ·exact C
   ·rw[bo (by simpa using C)] at j;rw[e8] at j;split at j<;>cases j
  have R:vs[i]?=KB v:=by
   unfold start at j;rw[aJ (by simpa using C),a8] at j;cases e:vs[i]? with
   |none=>rw[e] at j;cases j
   |some a=>rw[e] at j;cases j;rfl
  obtain⟨u,L,T⟩:=r.get R;have o:m[i]?=KB y:=by
   rw[<- S.pre,f7 'd'];exact B
  have M:m.Nodup:=by rw[<- S.pre];exact S.nd.sublist (cK _ _)
  refine⟨u,T,?_⟩;rcases S.par y (aL o) with k|k
  ·exact .inl ⟨k,Rq M o L k⟩
  ·obtain⟨c,e⟩:=QR (n:=s.heap.objs.size+1) k;refine .inr ⟨.inl k,c,e,?_⟩;have q:=x.cell y c e;rw[Rp M o L (by show scope.names.lookup y≠_;rw[k];decide)] at q;exact q
 ·exact l.hok.fresh (gp (x.above y c (bQ h)))
 ·unfold start;show _=N.length;rw[aE,ax,iH];lia
def pP{z:wF}{P:aN}{w:aY}{K:ai}{mg:Str->Option ab}{base:aX}{k:Nat}{f:ae}{name c:Str}{d:iI}{body:List eJ}{scope:c8}{M O l R h T oc:ab}{U od:Option ae}
  {ui:Array (Option ab)} {N B:List Str} {C:Sp} (lk:K.lookup f=KB ⟨oc,od,.func (cF name c d body scope M O l R U h T),ui⟩) (qK:fh K h c=KM) (S:pV N B scope)
  (m:∀vs H Q E,C vs H Q E->vs.length=B.length)
  (ql:∀(A:ba)(a:List Env)(s:ag)(H:Hp)(vs:List V)(Q:VK)(E:XK),om k (A.deeper (envOfC c scope s.heap.objs.size f h))->C vs H Q E->
   ∃t,sJ (AL z P w K mg base N c scope f h A a s H E) body t/\t { nx:=λ_ H'=>Q .non H',rt:=Q } (start N vs) H):
  oB P w K mg base z (k+1) f (cF name c d body scope M O l R U h T) B C:=by
 refine⟨m,λA a s H X us vs Q E D i hb r Y=>?_⟩;have hl:=m _ _ _ _ Y;have Z:K.In s.heap:=i.mod.kin.keeps λb o e=>(i.bs b o e).1;have F:s.heap.NoLimit:=i.mod.nolimit.keeps λb o e=>(i.bs b o e).1;have Fl:∀y∈B.zip us,scope.names.lookup y.1=KB .local\/(scope.names.lookup y.1=KB .cell/\((cE (s.heap.objs.size+1) scope.names []).lookup y.1).isSome=KM):=λ⟨n,v⟩ hy=>by
  rcases S.par n (kn hy).1 with q|q
  ·exact .inl q
  ·exact .inr ⟨q,ir _ _ _ (.inl q)⟩
 refine codeAny_call_function D.depth (Z _ _ lk) rfl S.co S.gen rfl (PySem.W.codeRec_of Z qK) (hb _ _ _ _ ?_);refine ge i.tk (wpAny_newFunctionEnv_cells S.kind Fl λenv he s1 x qp=>?_);subst he;refine⟨F.keeps x.toInCall.keep,codeAny_func ?_⟩;obtain⟨t,ht,hq⟩:=ql A a s H vs Q E (D.deeper _) Y;have I:Inv (AL z P w K mg base N c scope f h A a s H E) [] (start N vs) H s1:=zdH S D.hd i hl r x qp;refine cG (ht [] s1 (start N vs) H _ I hq) (λfl G j=>?_) λe G j=>j;have p:∀{g:St}{H':Hp}{v:V}{u:ab},Inv (AL z P w K mg base N c scope f h A a s H E) [] g H' G->RelV v u->Q v H'->CE a P w H s Q u G:=
  λ{g H' v u}J L q=>⟨⟨v,H',J.os,J.bare,J.base,J.hok,L,q⟩,J.tk⟩
 cases fl with
 | ret u=>
  obtain⟨v,g,H',J,L,q⟩:=j;exact p J L q
 | next=>
  obtain⟨g,H',J,q⟩:=j;exact p (v:=V.non) (u:=gD) J rfl q
 | brk=>
  obtain⟨_,_,_,q⟩:=j;exact aj q
 | cont=>
  obtain⟨_,_,_,q⟩:=j;exact aj q
section
variable{X:Cx}{x:Str}{p pos:Pos}{e:aT}{es:List aT}{t:TA}{id T:String}{r:List V->Hp->VK->Prop}
def HI(r:List V->Hp->VK->Prop)(t:TA):TE:=λσ H Q=>t σ H λvs H1=>r vs H1 Q
def Kg(c:on X (.builtin id) r)(d:Gl X x)(f:X.mg x=KF)(g:bA x=KB (.builtin id))(i:PA X (e::es) t)(j:x ≠ "__name__":=by decide)(k:(x==("__debug__":Str))=K7:=by decide)
  (l:aV (e::es) X.env=(K7,eval e X.env)::aV es X.env:=by rfl) (m:(backTo pos (aV es X.env)).any (·.1)=K7:=by rfl):PE X (.Call (.Name x p) (e::es) [] pos) (HI r t):=by intro a s b H Q I h;refine g7 (AY I d f g ?_ j k);exact PyProof.Rows.callWith_builtin1 (pG (i pos a s b H _ I h) λn o ⟨q,u,v,w,y⟩=>c a o b u q n Q v w y) l m
def RU(c:on X (.type T) r)(d:Gl X x)(f:X.mg x=KF)(g:bA x=KB (.type T))(i:PA X (e::es) t)(j:x ≠ "__name__":=by decide)(k:(x==("__debug__":Str))=K7:=by decide)
  (l:aV (e::es) X.env=(K7,eval e X.env)::aV es X.env:=by rfl) (m:(backTo pos (aV es X.env)).any (·.1)=K7:=by rfl):PE X (.Call (.Name x p) (e::es) [] pos) (HI r t):=by intro a s b H Q I h;refine g7 (AY I d f g ?_ j k);exact fy (pG (i pos a s b H _ I h) λn o ⟨q,u,v,w,y⟩=>c a o b u q n Q v w y) l m
end
end L2
namespace HT
open PySem PyProof.Rows
section
open PySem.SeqAt
open PySem.AutoSeq1 (wpAny_loadPart')
open PySem.MeetsSeq PySem.MeetsSeq2 PySem.MeetsSeq3
end
section
variable{prog:aN}{w:aY}{A:ba}{E:ab->ag->Prop}{s:ag}
def cat_tup(r:IsTup s.heap t vs.toArray)(u:IsTup s.heap b ws.toArray)(h:vs≠[])
  (v:ws=[]->Q (.ref t) s) (x:ws≠[]->Q (.ref s.heap.objs.size) { s with heap:=s.heap.push { cls:=.type "tuple",data:=.seq (vs++ws).toArray } })
  (hsz:vs.length+ws.length<=qN):am (av prog w) A (eM .Add (.ref t) (.ref b)) Q E s:=by
 obtain⟨⟨cls,i,data,j⟩,c,k,n,l⟩:=id r;obtain⟨⟨y,m,g,o⟩,d,p,q,a⟩:=id u;simp only at k l p a;subst k l p a;have e:vs.toArray++ws.toArray=(vs++ws).toArray:=by simp
 by_cases f:ws=[]
 ·exact kN ⟨_,c,rfl⟩ ⟨_,d,rfl⟩ noFill_tuple_add seq_tuple_add kE j9 (jT _ _)
   (tuple_addW1 t b vs.toArray ws.toArray n q i m j o (by simpa using h) (by simp[f])) ⟨c,d,v f⟩
 ·refine kN ⟨_,c,rfl⟩ ⟨_,d,rfl⟩ noFill_tuple_add seq_tuple_add kE j9 (jT _ _)
   (tuple_addW2 t b vs.toArray ws.toArray n q i m j o (by simpa using h) (by simpa using f) (by rw[aH,aH];exact hsz)) ⟨c,d,?_⟩
  rw[e];exact x f
def sIx(n d:Nat):Option Int->Nat
 |none=>d
 |some v=>if v<0 then (v+(n:Int)).toNat else min v.toNat n
def sIx_none(n d:Nat):sIx n d KF=d:=rfl
def sIx_nat(n d k:Nat):sIx n d (KB (k:Int))=min k n:=by show(if (k:Int)<0 then ((k:Int)+(n:Int)).toNat else min (k:Int).toNat n)=min k n;rw[qq 'd',fM]
def WX(n d:Nat)(b:d<=n)(o:Option Int):sIx n d o<=n:=by
 cases o with
 |none=>exact b
 | some v=>
  show(if v<0 then (v+(n:Int)).toNat else min v.toNat n)<=n;by_cases a:v<0
  ·rw[qb a];lia
  ·rw[qq a];exact mQ _ _
def PQ(v:Int)(n d:Nat):(if v<0 then max (v+(n:Int)) 0 else min v (n:Int))=((sIx n d (KB v):Nat):Int):=by
 show(if v<0 then max (v+(n:Int)) 0 else min v (n:Int))=(((if v<0 then (v+(n:Int)).toNat else min v.toNat n):Nat):Int);by_cases a:v<0
 ·simp only[qb a];lia
 ·simp only[qq a];lia
def zcA(lo a:Option Int)(n:Nat):gW lo a 1 (n:Int)=(((sIx n 0 lo:Nat):Int),((sIx n n a:Nat):Int)):=by
 have b:¬ ((1:Int)<0):=by lia
 unfold gW;simp only[b,if_false];refine mO ?_ ?_
 ·cases lo with
  |none=>rfl
  |some v=>exact PQ v n 0
 ·cases a with
  |none=>rfl
  |some v=>exact PQ v n n
def zce(i j:Nat):fU (i:Int) (j:Int) 1=j-i:=by
 unfold fU;have a:(1:Int)>0:=by lia
 simp only[a,if_true,Int.ediv_one];split<;>lia
def Sj(p:g9 v o)(h:Q o s):am (av prog w) A (Builtin.Slice.slicePartIndex v) Q E s:=by
 cases p with
 |none=>exact slicePart_none h
 |int i t=>exact slicePart_int h
def sliceApplied_gen{sl:ae}{b c:ab}{lo a:Option Int}{n:Nat}{Q:Int×Int×Nat->ag->Prop}(f:s.heap.IsSliceOf sl b c .none)(pl:g9 b lo)(g:g9 c a)
  (h:Q (((sIx n 0 lo:Nat):Int),1,sIx n n a-sIx n 0 lo) s):am (av prog w) A (jv (.ref sl) (pure (n:Int))) Q E s:=by obtain⟨i,d,j,e⟩:=id f;unfold jv Builtin.Slice.sliceFields;refine aa (aa (bO d e (x:=b) rfl (aa (bO d e (x:=c) rfl (aa (bO d e (x:=.none) rfl (ah ?_)))))));refine aa (slicePart_none ?_);show am _ _ (if ((1:Int)==0)=KM then _ else _) _ _ s;rw[qq 'u'];refine aa (Sj pl (aa (Sj g (aa (ah ?_)))));show am _ _ (match gW lo a 1 (n:Int) with|(lo,a)=>pure (lo,(1:Int),fU lo a 1)) _ _ s;rw[zcA lo a n];show am _ _ (pure (((sIx n 0 lo:Nat):Int),(1:Int),fU ((sIx n 0 lo:Nat):Int) ((sIx n n a:Nat):Int) 1)) _ _ s;rw[zce];exact ah h
def zfY(xs:Array ab)(i k:Nat):((aA k).filterMap λ(m:Nat)=>xs[((i:Int)+(m:Int)*1).toNat]?).toArray=((xs.toList.drop i).take k).toArray:=by
 have e:(λ(m:Nat)=>xs[((i:Int)+(m:Int)*1).toNat]?)=λm=>xs[i+m]?:=by
  funext m;have:((i:Int)+(m:Int)*1).toNat=i+m:=by lia
  rw[this]
 rw[e];have:=pick_run xs i k;rw[List.filterMap_map] at this;have a:((λx=>xs[x]?)∘λx=>i+x)=λm=>xs[i+m]?:=rfl;rw[a] at this;rw[this]
def getItem_tuple_cut{t sl:ae}{items:Array ab}{d e:ab}{lo a:Option Int}{Q:ab->ag->Prop}(b:IsTup s.heap t items)(f:s.heap.IsSliceOf sl d e .none)(pl:g9 d lo)(g:g9 e a)
  (i:¬ (sIx items.size 0 lo=0/\sIx items.size items.size a=items.size))
  (h:Q (.ref s.heap.objs.size) { s with heap:=s.heap.push { cls:=.type "tuple",data:=.seq ((items.toList.drop (sIx items.size 0 lo)).take (sIx items.size items.size a-sIx items.size 0 lo)).toArray } })
  (hsz:items.size<=qN):am (av prog w) A (getItem (.ref t) (.ref sl)) Q E s:=by
 have c:sizeOk (.seq ((items.toList.drop (sIx items.size 0 lo)).take (sIx items.size items.size a-sIx items.size 0 lo)).toArray):=by
  show((items.toList.drop (sIx items.size 0 lo)).take (sIx items.size items.size a-sIx items.size 0 lo)).toArray.size<=qN;rw[aH,cq,cB,az];lia
 have p:sIx items.size items.size a<=items.size:=WX _ _ (aF _) a;obtain⟨j,k,l,r⟩:=id f;have n:s.TypeIs (.ref sl) "slice":=⟨j,k,l⟩;unfold getItem
 try with_reducible refine bz ?_
 first|refine aa (ah ?_)|skip
 refine aa (wpAny_sequenceKey b.typeIs 'u' ?_);refine aa (cb (name:=fw "__getitem__") b.typeIs cL
  (bL cL b.typeIs lL ?_ (lW _ _)))
 show am _ _ (jw (.ref t) >>= _) _ _ s;refine aa (tupleItemsOf_ b ?_);refine aa (iS n ?_);rw[qb 'u'];refine aa (sliceApplied_gen f pl g ?_);have o:¬ ((((sIx items.size 0 lo:Nat):Int)==0&&(1:Int)==1&&(sIx items.size items.size a-sIx items.size 0 lo)==items.size)=KM):=by
  intro q;rw[aW,aW] at q;have u:((sIx items.size 0 lo:Nat):Int)=0:=eq_of_beq q.1.1;have v:sIx items.size items.size a-sIx items.size 0 lo=items.size:=eq_of_beq q.2;exact i ⟨by lia,by lia⟩
 show am _ _ (if (((sIx items.size 0 lo:Nat):Int)==0&&(1:Int)==1&&(sIx items.size items.size a-sIx items.size 0 lo)==items.size)=KM then _ else _) _ _ s;rw[qq o,zfY]
 first
  |exact aa (m:=f8 _) (b9 (ah ⟨_,rfl,ah h⟩) c)
  |exact aa (m:=f8 _) (b9 (aa (ah (ah ⟨_,rfl,ah h⟩))) c)
  |exact aa (aa (m:=f8 _) (b9 (ah (ah ⟨_,rfl,ah h⟩)) c))
  |exact aa (aa (m:=f8 _) (b9 (ah ⟨_,rfl,ah h⟩) c))
end
end HT
namespace L2
open PySem PySem.Spec PyProof.Rows
abbrev TO:=St->Hp->(Option Int->Hp->Prop)->Prop
def PO(X:Cx)(e:Option aT)(t:TO):Prop:=
 ∀(Y1:List (ae×Obj))(s:ag)(σ:St)(H:Hp)(Q:Option Int->Hp->Prop),Inv X Y1 σ H s->t σ H Q->
  am (av X.prog X.w) X.A (evalPart e X.env) (λu s'=>∃o H',Inv X Y1 σ H' s'/\g9 u o/\Q o H') X.xe s
def Yn:TO:=λ_ H Q=>Q KF H
def Vq(t:TE):TO:=λσ H Q=>t σ H λx H1=>∃i,x=.int i/\Q (KB i) H1
def R5:∀{a:List ab},oa (ns.map V.int) a->kO a ns:=by
 induction ns with
 |nil=>intro a r;rw[jU] at r;cases r;exact .nil
 | cons n ns ih=>
  intro a r;rw[bH] at r;cases r with
  | cons r1 r2=>
   obtain⟨t,e⟩:=r1;subst e;exact .cons n t (ih r2)
section
variable{X:Cx}{e:aT}{te:TE}{lo hi:Option aT}{tl th:TO}{pos p2:Pos}
def ZS:PO X KF Yn:=by intro a s b H Q I h;rw[evalPart_none];exact ah ⟨KF,H,I,.none,h⟩
def Yi(h:PE X e te):PO X (KB e) (Vq te):=by intro a s b H Q I c;rw[evalPart_some];refine pG (h a s b H _ I c) λu k ⟨x,d,f,g,j⟩=>?_;obtain⟨i,rfl,q⟩:=j;obtain⟨t,rfl⟩:=g;exact⟨KB i,d,f,.int i t,q⟩
def vK(X:Cx)(r:V->Option Int->Option Int->Hp->VK->Prop):Prop:=
 ∀(Y1:List (ae×Obj))(s:ag)(σ:St)(H:Hp)(x:V)(v vl vu:ab)(lo hi:Option Int)(sl:ae)(Q:VK),Inv X Y1 σ H s->RelV x v->s.heap.IsSliceOf sl vl vu .none->g9 vl lo->g9 vu hi->r x lo hi H Q->
  ∃T id,typeLookup (.type T) "__getitem__" = pure (KB (.builtin id))/\s.TypeIs v T/\am (av X.prog X.w) X.A (getItem v (.ref sl)) (EP X Y1 σ Q) X.xe s
def vK.or(h:vK X r)(h':vK X r'):vK X (λx lo hi H Q=>r x lo hi H Q\/r' x lo hi H Q):=by
 intro a s b H x v c d lo hi f Q I g i j k q;rcases q with q|q
 ·exact h a s b H x v c d lo hi f Q I g i j k q
 ·exact h' a s b H x v c d lo hi f Q I g i j k q
noncomputable def tSl(r:V->Option Int->Option Int->Hp->VK->Prop)(te:TE)(tl th:TO):TE:=λσ H Q=>te σ H λx H1=>tl σ H1 λl H2=>th σ H2 λu H3=>r x l u H3 Q
def Qp(j:vK X r)(k:PE X e te)(m:PO X lo tl)(n:PO X hi th):PE X (.Subscript e (.Slice lo hi KF p2) pos) (tSl r te tl th):=by intro a s d H Q I h;refine Subscript_ (pG (k a s d H _ I h) λv o ⟨x,p,t,y,z⟩=>?_);refine wpAny_Slice (pG (m a o d p _ t z) λf B ⟨l,C,D,E,F⟩=>pG (n a B d C _ D F) λg c ⟨u,i,G,J,K⟩=>?_);rw[evalPart_none];refine ah ?_;have L:Inv X a d i { c with heap:=c.heap.push { cls:=.type "slice",data:=.fields #[f,g,.none] } }:=G.kept (t':=c.toks) λb P q=>af _ q;obtain⟨T,R,M,N,O⟩:=j a { c with heap:=c.heap.push { cls:=.type "slice",data:=.fields #[f,g,.none] } } d i x v f g l u c.heap.objs.size Q L y (nZ ..) E J K;show am (av X.prog X.w) X.A (subscriptTail e (.Slice lo hi KF p2) v (.ref c.heap.objs.size)) (EP X a d Q) X.xe { c with heap:=c.heap.push { cls:=.type "slice",data:=.fields #[f,g,.none] } };exact tail_any (ops:=[.ref c.heap.objs.size,v]) N M O (by with_unfolding_all rfl)
def zP(xs:List V)(lo hi:Option Int):List V:=(xs.drop (HT.sIx xs.length 0 lo)).take (HT.sIx xs.length xs.length hi-HT.sIx xs.length 0 lo)
def SF(xs:List V)(lo hi:Option Int):(zP xs lo hi).length<=xs.length:=by unfold zP;rw[cq,cB];lia
def Na(K:ai):V->Option Int->Option Int->Hp->VK->Prop:=λx lo hi H Q=>∃a xs,x=.ref a/\qT K H a xs/\
 ¬ (HT.sIx xs.length 0 lo=0/\HT.sIx xs.length xs.length hi=xs.length)/\∀p,H p=KF->Q (.ref p) (upd H p (.tup (zP xs lo hi)))
def Oo:vK X (Na X.K):=by
 intro f s u H x v w y lo hi z Q I j k l m h;obtain⟨a,d,rfl,n,p,q⟩:=h;cases j;obtain⟨t,r,g,i⟩:=I.tuple n;have c:t.toArray.size=d.length:=by rw[aH];exact r.length.symm
 refine⟨"tuple",_,cL.lookup,g.typeIs,?_⟩;refine HT.getItem_tuple_cut g k l m (by rw[c];exact p) ?_ (by rw[c];exact i);rw[c];refine⟨.ref s.heap.objs.size,_,I.laid (t':=s.toks) (o:=.tup (zP d lo hi)) (λb A q=>af _ q) (aF _) ?_,rfl,q _ (I.hok.fresh (aF _))⟩;exact⟨aM (SF d lo hi) i,_,(r.drop (HT.sIx d.length 0 lo)).take (HT.sIx d.length d.length hi-HT.sIx d.length 0 lo),oG.new _ _⟩
def NA(K:ai):R2:=λx y H Q=>∃a b xs ys,x=.ref a/\y=.ref b/\qT K H a xs/\qT K H b ys/\xs≠[]/\xs.length+ys.length<=qN/\
 (ys=[]->Q (.ref a) H)/\(ys≠[]->∀p,H p=KF->Q (.ref p) (upd H p (.tup (xs++ys))))
def oa.nil_iff(r:oa xs us):us=[]↔xs=[]:=by
 cases r with
 |nil=>simp
 |cons _ _=>simp
def YK:qm X (eM .Add) (NA X.K):=by intro f s B H x y v u Q I i j h;obtain⟨a,b,k,l,rfl,rfl,m,n,p,g,r,t⟩:=h;cases i;cases j;obtain⟨C,d,A,_⟩:=I.tuple m;obtain⟨D,c,p2,_⟩:=I.tuple n;refine HT.cat_tup A p2 (λz=>p (d.nil_iff.mp z)) (λz=>⟨.ref a,H,I,rfl,r (c.nil_iff.mp z)⟩) (λz=>?_) (by rw[<- d.length,<- c.length];exact g);refine⟨.ref s.heap.objs.size,_,I.laid (t':=s.toks) (o:=.tup (k++l)) (λb E q=>af _ q) (aF _) ?_,rfl,t (λw=>z (c.nil_iff.mpr w)) _ (I.hok.fresh (aF _))⟩;exact⟨by rw[aE];exact g,_,d.append c,oG.new _ _⟩
end
noncomputable def ixN(n:Nat)(i:Int):Option Nat:=if 0<=i then (if i<n then KB i.toNat else KF) else if -(n:Int)<=i then KB (i+n).toNat else KF
def atI{α:Type}(xs:List α)(i:Int):Option α:=(ixN xs.length i).bind λj=>xs[j]?
def Pd(h:ixN n i=KB j):seqIndex? i n=KB j/\j<n/\-(n:Int)<=i/\i<n:=by
 unfold ixN at h;by_cases b:0<=i
 ·rw[qb b] at h;by_cases a:i<n
  ·rw[qb a] at h;have e:i.toNat=j:=bZ h;exact⟨by rw[mK b a,e],by lia,by lia,a⟩
  ·rw[qq a] at h;cases h
 ·rw[qq b] at h;by_cases a:-(n:Int)<=i
  ·rw[qb a] at h;have e:(i+n).toNat=j:=bZ h;exact⟨by rw[seqIndex_neg 'd' a,e],by lia,a,by lia⟩
  ·rw[qq a] at h;cases h
def JI{α:Type}{xs:List α}{i:Int}{v:α}(h:atI xs i=KB v):∃j,seqIndex? i xs.length=KB j/\xs[j]?=KB v/\j<xs.length/\-(xs.length:Int)<=i/\i<xs.length:=by
 unfold atI at h;cases e:ixN xs.length i with
 |none=>rw[e] at h;cases h
 | some j=>
  rw[e] at h;obtain⟨a,b,c,d⟩:=Pd e;exact⟨j,a,h,b,c,d⟩
def atI_nat{α:Type}{xs:List α}{j:Nat}{v:α}(h:xs[j]?=KB v):atI xs (j:Int)=KB v:=by
 have a:j<xs.length:=(ar.mp h).1;have e:ixN xs.length (j:Int)=KB j:=by
  unfold ixN;rw[qb 'd',qb 'd'];simp
 unfold atI;rw[e];exact h
def OR(b:aT):Prop:=∀o i,subscripted b K7 o i=operate [o,i] (getItem o i)
def zD(X:Cx)(r:R2):Prop:=
 ∀(value slice:aT)(Y1:List (ae×Obj))(s:ag)(σ:St)(H:Hp)(x y:V)(v u:ab)(Q:VK),Inv X Y1 σ H s->RelV x v->RelV y u->r x y H Q->
  subscripted slice K7 v u=operate [v,u] (getItem v u)->am (av X.prog X.w) X.A (subscriptTail value slice v u) (EP X Y1 σ Q) X.xe s
def IC(X:Cx)(id:String)(r:V->List V->Hp->VK->Prop):Prop:=
 ∀(Y1:List (ae×Obj))(s:ag)(σ:St)(H:Hp)(x:V)(xs:List V)(v:ab)(us:List ab)(Q:VK),Inv X Y1 σ H s->RelV x v->oa xs us->r x xs H Q->
  am (av X.prog X.w) X.A (call (.builtin id) (v::us)) (EP X Y1 σ Q) X.xe s
section
variable{X:Cx}{a b:aT}{ta tb:TE}{pos:Pos}
def zD.or(h:zD X r)(h':zD X r'):zD X (λx y H Q=>r x y H Q\/r' x y H Q):=by
 intro c d e s f H x y v u Q I g i q j;rcases q with q|q
 ·exact h c d e s f H x y v u Q I g i q j
 ·exact h' c d e s f H x y v u Q I g i q j
def VM(d:zD X r)(e:PE X a ta)(f:PE X b tb)(g:OR b):PE X (.Subscript a b pos) (EC r ta tb):=by intro c s i H Q I h;exact Subscript_ (IM e f I h λv u j x y k l m n q=>d a b c j i k x y v u Q l m n q (g _ _))
def M7(K:ai):R2:=λx y H Q=>∃p xs i v,x=.ref p/\y=.int i/\qz K H p xs/\atI xs i=KB v/\Q v H
def Nl(K:ai):R2:=λx y H Q=>∃p xs i v,x=.ref p/\y=.int i/\qT K H p xs/\atI xs i=KB v/\Q v H
def MX:R2:=λx y H Q=>∃z i c,x=.str z/\y=.int i/\z.length<=qN/\atI z.cps.toList i=KB c/\Q (.str ⟨#[c]⟩) H
def pf:zD X (M7 X.K):=by
 intro f g c s m H x y v u Q I B C h n;obtain⟨p,P,i,z,rfl,rfl,D,E,q⟩:=h;cases B;obtain⟨t,rfl⟩:=C;obtain⟨F,r,k,R⟩:=I.list D;obtain⟨j,e,G,S,J,L⟩:=JI E;obtain⟨w,o,M⟩:=r.get G;have N:=r.length;have T:=Cq;have d:EP X c m Q w s:=⟨z,H,I,M,q⟩;by_cases A:0<=i
 ·have l:i.toNat=j:=by
   rw[mK A L] at e;exact bZ e
  exact item_listR k.isList A 'd' (by rw[l];simpa using o) d n
 ·have l:(i+(F.toArray.size:Int)).toNat=j:=by
   rw[seqIndex_neg 'd' J] at e;rw[aH,<- N];exact bZ e
  exact kF (x:=w) k.isList.typeIs slot_list_getitem.lookup
   (wpAny_getItem_list_neg (Q:=λr O=>r=w/\EP X c m Q r O) k.isList 'd' (by rw[aH]<;>lia) 'd' (by rw[l];simpa using o) ⟨rfl,d⟩) n
def oY:zD X (Nl X.K):=by
 intro d e c s g H x y v u Q I l m h n;obtain⟨p,J,i,z,rfl,rfl,o,A,q⟩:=h;cases l;obtain⟨t,rfl⟩:=m;obtain⟨L,r,k,M⟩:=I.tuple o;obtain⟨j,B,C,N,O,P⟩:=JI A;obtain⟨w,D,E⟩:=r.get C;have F:=r.length;have R:=Cq;have f:EP X c g Q w s:=⟨z,H,I,E,q⟩;exact kF (x:=w) k.typeIs cL.lookup
  (getItem_tuple (j:=j) (Q:=λr G=>r=w/\EP X c g Q r G) k 'd' 'd' (by rw[aH,<- F];exact B) (by simpa using D) ⟨rfl,f⟩) n
def WH:zD X MX:=by
 intro d e f s C H x y v u Q I k l h m;obtain⟨z,i,c,rfl,rfl,D,n,q⟩:=h;obtain⟨t,rfl⟩:=k;obtain⟨E,rfl⟩:=l;obtain⟨j,g,o,F,p,r⟩:=JI n;have w:z.cps.toList.length=z.length:=by simp[Str.length]
 rw[w] at g p r;have G:=Cq;exact tail_any (typeIs_str s z t) slot_str_getitem.lookup (getItem_str (c:=c) (by
  have A:decide (i < -(2 ^ 63:Int))=K7:=decide_eq_false 'd';have B:decide (i ≥ 2 ^ 63)=K7:=decide_eq_false 'd';rw[A,B,Bool.or_false]) (by rw[g];simpa using o) ⟨.str ⟨#[c]⟩,H,I.tok _,⟨_,rfl⟩,q⟩) m
def Tp(K:ai):R2:=λx y H Q=>M7 K x y H Q\/Nl K x y H Q\/MX x y H Q
def WU:zD X (Tp X.K):=pf.or (oY.or WH)
def zc3(c:List ab)(n j:Nat)(u:ab):br (·.setIfInBounds j u) { cls:=.type "list",data:=.seq c.toArray n } = { cls:=.type "list",data:=.seq (c.set j u).toArray n }:=by simp[br]
def Inv.lst{c:List (ae×Obj)}{σ:St}{H:Hp}{s:ag}{p:ae}{xs:List V}(I:Inv X c σ H s)(h:H p=KB (.lst xs)):
  ∃(d:List ab)(n:Nat),oa xs d/\s.heap.get? p=KB { cls:=.type "list",data:=.seq d.toArray n }/\xs.length<=qN:=by obtain⟨z,d,n,r,e⟩:=I.hok p _ h;exact⟨d,n,r,e,z⟩
def Inv.lstUpd{c:List (ae×Obj)}{σ:St}{H:Hp}{s:ag}{p:ae}{xs d:List V}{i its':List ab}{n g:Nat}{f:Obj->Obj}(I:Inv X c σ H s)(h:H p=KB (.lst xs))
  (k:s.heap.get? p=KB { cls:=.type "list",data:=.seq i.toArray n }) (j:f { cls:=.type "list",data:=.seq i.toArray n } = { cls:=.type "list",data:=.seq its'.toArray g }) (r:oa d its') (hz:d.length<=qN) (t:Nat) (m:0<t:=by first|exact cR _|exact Inv.tk ‹_›|assumption|lia):
  Inv X c σ (upd H p (.lst d)) { s with heap:=s.heap.update p f,toks:=t }:=by
 have e:(s.heap.update p f).get? p=KB { cls:=.type "list",data:=.seq its'.toArray g }:=by
  rw[bJ f k (by rw[j]<;>rfl),j]
 refine I.write (x:=p) (e:=p) (by rw[h];trivial) (.inl rfl) (λb u l q=>(bj _ _ (bB l)).trans q) ⟨_,e⟩ ?_;exact⟨hz,its',g,r,e⟩
def Vs:V->V->V->Hp->(Hp->Prop)->Prop:=λo i v H Q=>∃p xs k j,o=.ref p/\i=.int k/\H p=KB (.lst xs)/\ixN xs.length k=KB j/\Q (upd H p (.lst (xs.set j v)))
def zg1:MZ X Vs:=by
 intro c s A H o i v J K u Q I B C D h;obtain⟨p,E,k,j,rfl,rfl,l,F,q⟩:=h;cases B;obtain⟨t,rfl⟩:=C;obtain⟨m,n,r,e,G⟩:=I.lst l;obtain⟨d,L,w,x⟩:=Pd F;have f:=r.length;have M:=Cq;have y:Inv X c A (upd H p (.lst (E.set j v))) { s with heap:=s.heap.update p (br (·.setIfInBounds j u)) }:=
  I.lstUpd l e (zc3 m n j u) (r.set D j) (by rw[el];exact G) s.toks
 by_cases z:0<=k
 ·have g:k.toNat=j:=by
   rw[mK z x] at d;exact bZ d
  exact PySem.W.ki_setAt e z 'd' (by rw[aH,<- f];exact x) (by rw[g];exact⟨_,y,q⟩)
 ·have g:(k+(m.toArray.size:Int)).toNat=j:=by
   rw[seqIndex_neg 'd' w] at d;rw[aH,<- f];exact bZ d
  exact PySem.W.ki_setBack e 'd' (by rw[aH,<- f];exact w) 'd' (by rw[g];exact⟨_,y,q⟩)
def z8M(lo c:Option Int)(n:Nat):(sliceBounds lo c KF n).1=((HT.sIx n 0 lo:Nat):Int)/\(sliceBounds lo c KF n).2.1=((HT.sIx n n c:Nat):Int)/\(sliceBounds lo c KF n).2.2=1:=by
 refine⟨?_,?_,rfl⟩
 ·cases lo with
  |none=>simp[sliceBounds,HT.sIx]
  | some i=>
   simp only[sliceBounds,HT.sIx,mR,show(1:Int)>0 by decide,if_true];by_cases h:i<0
   ·simp only[h,if_true]<;>lia
   ·simp only[h,if_false]<;>lia
 ·cases c with
  |none=>simp[sliceBounds,HT.sIx]
  | some i=>
   simp only[sliceBounds,HT.sIx,mR,show(1:Int)>0 by decide,if_true];by_cases h:i<0
   ·simp only[h,if_true]<;>lia
   ·simp only[h,if_false]<;>lia
def z7t(c:List ab)(lo d:Option Int):slicePick c.toArray lo d KF=((c.drop (HT.sIx c.length 0 lo)).take (HT.sIx c.length c.length d-HT.sIx c.length 0 lo)).toArray:=by obtain⟨e,f,g⟩:=z8M lo d c.toArray.size;unfold slicePick;rw[e,f,g];simp only[sliceRange_one,pick_run,aH]<;>rfl
def M_(K:ai):V->Option Int->Option Int->Hp->VK->Prop:=λx lo hi H Q=>∃a xs,x=.ref a/\qz K H a xs/\∀p,H p=KF->Q (.ref p) (upd H p (.lst (zP xs lo hi)))
def P6:vK X (M_ X.K):=by intro g s t H x v u w e f y Q I j k l m h;obtain⟨a,c,rfl,n,q⟩:=h;cases j;obtain⟨z,r,i,p⟩:=I.list n;have d:=r.length;refine⟨"list",_,slot_list_getitem.lookup,i.isList.typeIs,?_⟩;refine wpAny_getItem_list_slice i.isList k l m .none 'k' ?_ (by rw[aH]<;>lia);rw[z7t,<- d];refine⟨.ref s.heap.objs.size,_,I.laid (t':=s.toks) (o:=.lst (zP c e f)) (λb A q=>af _ q) (aF _) ?_,rfl,q _ (I.hok.fresh (aF _))⟩;exact⟨aM (SF c e f) p,_,0,(r.drop (HT.sIx c.length 0 e)).take (HT.sIx c.length c.length f-HT.sIx c.length 0 e),aC _ rfl⟩
def on.or{f:ab}{r d:List V->Hp->VK->Prop}(h:on X f r)(h':on X f d):on X f (λxs H Q=>r xs H Q\/d xs H Q):=by
 intro c s e H xs g Q I i q;rcases q with q|q
 ·exact h c s e H xs g Q I i q
 ·exact h' c s e H xs g Q I i q
def z7C:on X (.type "tuple") (λxs H Q=>∃p d,xs=[.ref p]/\((qz X.K H p d/\∀l,H l=KF->Q (.ref l) (upd H l (.tup d)))\/(qT X.K H p d/\Q (.ref p) H))):=by
 intro c s m H xs A Q I r h;obtain⟨p,d,rfl,h⟩:=h;obtain⟨u,rfl,x⟩:=uI r;cases x;rcases h with⟨g,q⟩|⟨g,q⟩
 ·obtain⟨i,j,k,n⟩:=I.list g;have t:=j.length;refine call_tuple_list k.isList (λf y=>?_) (by simp only[aH]<;>lia);have v:Inv X c m H { s with heap:=f }:=I.kept (t':=s.toks) y;have z:Inv X c m (upd H f.objs.size (.tup d)) { s with heap:=f.push { cls:=.type "tuple",data:=.seq i.toArray } }:=
   v.laid (t':=s.toks) (λb o e=>af _ e) (aF _) (show oy X.prog X.w _ _ _ (.tup d) from ⟨n,i,j,oG.new _ _⟩)
  exact⟨.ref f.objs.size,_,z,rfl,q _ (v.hok.fresh (aF _))⟩
 ·obtain⟨i,j,k,n⟩:=I.tuple g;exact call_tuple_same k ⟨.ref p,H,I,rfl,q⟩
def S8(K:ai)(T:String)(x:V)(H:Hp):Prop:=match x with
 |.str _=>T = "str"
 |.int _=>T = "int"
 | .ref p=>(T = "list"/\∃xs,qz K H p xs)\/(T = "tuple"/\∃o,K.lookup p=KB o/\o.cls=.type "tuple"/\o.dict=KF) \/
   (T = "dict"/\((∃k_,H p=KB (.dK k_)) \/ ∃k_,H p=KB (.dT k_)))\/(T = "set"/\∃S n,H p=KB (.set S n))
 |_=>False
def W3(I:Inv X Y1 σ H s)(r:RelV x v)(g:S8 X.K T x H):
  s.TypeIs v T/\∀a,v=.ref a->∃ob,s.heap.get? a=KB ob/\ob.dict=KF:=by
 cases x with
 | str z=>
  obtain⟨t,rfl⟩:=r;cases (show T = "str" from g);exact⟨typeIs_str s z t,λ_ e=>nomatch e⟩
 | int i=>
  obtain⟨t,rfl⟩:=r;cases (show T = "int" from g);exact⟨typeIs_int s i t,λ_ e=>nomatch e⟩
 | ref p=>
  cases r;rcases g with⟨rfl,u,l⟩|⟨rfl,o,d,m,h⟩|⟨rfl,d⟩|⟨rfl,S,n,d⟩
  ·obtain⟨w,_,k,_⟩:=I.list l;refine⟨k.isList.typeIs,λa e=>?_⟩;cases e;obtain⟨o,n,e,c,h,_⟩:=k;exact⟨o,e,h⟩
  ·refine⟨⟨o,I.kIn p o d,m⟩,λa e=>?_⟩;cases e;exact⟨o,I.kIn _ o d,h⟩
  ·have z:∃o,s.heap.get? p=KB o/\o.ExactDict:=by
    rcases d with⟨q,d⟩|⟨q,d⟩
    ·obtain⟨_,_,_,_,o,_,_,e,f,_⟩:=I.hok p _ d;exact⟨o,e,f⟩
    ·obtain⟨_,_,_,_,o,_,_,e,f,_⟩:=I.hok p _ d;exact⟨o,e,f⟩
   obtain⟨o,e,f⟩:=z;refine⟨⟨o,e,f.1⟩,λa j=>?_⟩;cases j;exact⟨o,e,f.2.1⟩
  ·obtain⟨o,_,_,_,e,f,_⟩:=I.hok p _ d;refine⟨⟨o,e,f.1⟩,λa j=>?_⟩;cases j;exact⟨o,e,f.2.1⟩
 |_=>exact aj g
def tBM(K:ai)(T:String)(r:V->List V->Hp->VK->Prop)(to:TE)(t:TA):TE:=λσ H Q=>to σ H λx H1=>S8 K T x H1/\t σ H1 λxs H2=>r x xs H2 Q
variable{o e:aT}{es:List aT}{to:TE}{t:TA}{name:Str}{apos pK:Pos}{T id:String}{r:V->List V->Hp->VK->Prop}
def Gj(k:PlainAttrs T)(d:Slot T name id)(l:typeOf (.builtin id)=pure (.type "method_descriptor"))(m:IC X id r)(n:PE X o to)(p:PA X (e::es) t)
  (q:attributeBase o name X.env (eval o X.env)=eval o X.env:=by rfl)
  (u:((backTo pK (aV (e::es) X.env)).all (λx=>!x.1)&&(backToKw pK (keywordEach [] X.env)).all (λx=>x.1.isSome)
   && decide ((e::es).length+([]:List fY).length+(if ([]:List fY).isEmpty then 0 else 1)<30))=KM:=by rfl)
  (w:(apos.endLine==pK.line)=KM:=by rfl) (y:aV (e::es) X.env=(K7,eval e X.env)::aV es X.env:=by rfl) (z:(backTo pK (aV es X.env)).any (·.1)=K7:=by rfl):
  PE X (.Call (.Attribute o name apos) (e::es) [] pK) (tBM X.K T r to t):=by intro c s f H Q I h;refine wpAny_Call_method_late q u w rfl (pG (n c s f H _ I h) λv A ⟨x,B,g,i,C,D⟩=>?_);obtain⟨E,F⟩:=W3 g i C;refine⟨T,id,k,d,l,E,F,?_⟩;have j:=p pK c A f B _ g D;rw[y] at j ⊢;refine Calls.callWith_builtin (by show(K7||(backTo pK (aV es X.env)).any (·.1))=K7;rw[z]<;>rfl) (Calls.evalArgs_plain ?_);exact pG j λG J ⟨L,M,N,O,P⟩=>m c J f M x L v G Q N i O P
end
def UH(X:Cx)(id:String)(r:V->List V->Hp->VK->Prop):Prop:=
 ∀(Y1:List (ae×Obj))(s:ag)(σ:St)(H:Hp)(x:V)(xs:List V)(v:ab)(us:List ab)(Q:VK),Inv X Y1 σ H s->RelV x v->oa xs us->r x xs H Q->
  am (av X.prog X.w) X.A (call (.builtin id) (v::us)) (EP X Y1 σ Q) X.xe s
def oa.one:∀{x:V}{a:List ab},oa [x] a->∃u,a=[u]/\RelV x u
 |_,_,.cons r .nil=>⟨_,rfl,r⟩
theorem oa.eraseIdx:∀{xs:List V}{a:List ab}(i:Nat),oa xs a->oa (xs.eraseIdx i) (a.eraseIdx i)
 |_,_,_,.nil=>.nil
 |_,_,0,.cons _ t=>t
 |_,_,i+1,.cons r t=>.cons r (oa.eraseIdx i t)
def oa.reverse{xs:List V}{a:List ab}(h:oa xs a):oa xs.reverse a.reverse:=by
 induction h with
 |nil=>exact .nil
 |cons r t ih=>rw[mr,mr];exact oa.append ih (.cons r .nil)
section
variable{X:Cx}{Y1:List (ae×Obj)}{σ:St}{H:Hp}{s:ag}{l:ae}{xs ys:List V}
def Inv.lset{a its':List ab}{n:Nat}{f:Array ab->Array ab}{t':Nat}(I:Inv X Y1 σ H s)(b:H l=KB (.lst xs))
  (e:s.heap.get? l=KB { cls:=.type "list",data:=.seq a.toArray n }) (c:f a.toArray=its'.toArray) (d:oa ys its') (hz:ys.length<=qN) (i:0<t':=by first|exact cR _|exact Inv.tk ‹_›|assumption|lia):
  Inv X Y1 σ (upd H l (.lst ys)) { s with heap:=s.heap.update l (br f),toks:=t' }:=by have q:=PySem.IsL.update e f;rw[c] at q;refine I.write (x:=l) (e:=l) (by rw[b];exact trivial) (.inl rfl) (λj u g h=>(bj s.heap (br f) (bB g)).trans h) ⟨_,q⟩ ?_;exact⟨hz,its',_,d,q⟩
def Inv.lnew(I:Inv X Y1 σ H s)(a:oa ys h_)(hz:ys.length<=qN)(b:0<t':=by first|exact cR _|exact Inv.tk ‹_›|assumption|lia):
  Inv X Y1 σ (upd H s.heap.objs.size (.lst ys)) { s with heap:=s.heap.push { cls:=.type "list",data:=.seq h_.toArray },toks:=t' }:=
 I.laid (λ_ _ q=>af _ q) (aF _) ⟨hz,h_,0,a,aC _ rfl⟩
def Inv.fresh(I:Inv X Y1 σ H s):H s.heap.objs.size=KF:=I.hok.fresh (aF _)
def Inv.lstM(I:Inv X Y1 σ H s)(b:H l=KB (.lst xs)):xs.length<=qN/\∃(a:List ab)(n:Nat),oa xs a/\xs.length=a.length/\s.heap.get? l=KB { cls:=.type "list",data:=.seq a.toArray n }:=by obtain⟨z,a,n,r,e⟩:=I.hok l _ b;exact⟨z,a,n,r,r.length,e⟩
def zg9{n:Nat}(h:n<=qN):f9 n=K7:=by unfold f9;exact decide_eq_false 'd'
end
section
variable{X:Cx}
def ZE:V->List V->Hp->VK->Prop:=λx vs H Q=>∃l xs y,x=.ref l/\vs=[y]/\H l=KB (.lst xs)/\xs.length<qN/\Q .non (upd H l (.lst (xs++[y])))
def RG:UH X "list.append" ZE:=by intro a s i H x j v k Q I d f h;obtain⟨l,m,y,rfl,rfl,b,o,q⟩:=h;cases d;obtain⟨u,rfl,g⟩:=f.one;obtain⟨z,c,n,r,p,e⟩:=I.lstM b;refine call_meets kP ⟨_,e,rfl⟩ F.entry_list_append (F.args_list_append_2 _ _) (PySem.list_append l c.toArray n u (by rw[aH];lia)) ⟨e,?_⟩;refine⟨.non,_,I.lset (its':=c++[u]) b e 'k' (r.append (.cons g .nil)) ?_,rfl,q⟩;rw[aE,fD];lia
end
section
end
end L2
namespace Att
open PySem PySem.W PySem.Calls PyProof.Rows
def z5v:∀(ns:List Int)(vs:List ab),WellAll P h vs (ns.map nK)->kO vs ns:=by
 intro ns
 induction ns with
 | nil=>
  intro vs w;rw[jU] at w;cases w;exact .nil
 | cons n ns ih=>
  intro vs w;rw[bH] at w;cases w with
  | cons a b=>
   cases a;exact .cons _ _ (ih _ b)
def zd3{l:lX}{n:Nat}(k:l.most=KB n){P:iO}{h:aX}{args:List WData}{b:List ab}
  (i:l.row.toRowW.claim.pre args=KM) (m:WellAll P h b args):
  ∃a vs ns,b=[fx a]/\args=[WData.list (ns.map nK)]/\h.get? a=KB { cls:=.type "list",data:=.seq vs.toArray }/\kO vs ns/\ns.length<=n:=by
 have g:WShape.hasAll [] args [.list .int]=KM:=(pre_splitW i).1;have j:l.pre.holds [] { args:=args } = KM:=(pre_splitW i).2;obtain⟨d,r,rfl,o,p⟩:=hasAllW_cons g;obtain rfl:=hasAllW_nil p;obtain⟨u,rfl,s⟩:=hasW_list o;obtain⟨ns,rfl⟩:=items_int s;have c:ns.length<=n:=by
  unfold OpenLaw.pre at j;have e:(WTm.not (.lt (.lit (.int (n:Int))) (.len (.arg 0)))).holds [] { args:=[.list (ns.map .int)] } = KM:=by
   have e:=(holds_andW j).1;rw[k] at e;exact e
  have f:=condW_of e (w_not (w_lt w_lit (w_len_list (w_arg rfl))));rw[ax] at f;refine Nat.le_of_not_lt λq=>?_;have t:(n:Int)<((ns.length:Nat):Int):=by lia
  first
   |(rw[decide_eq_true t] at f;exact absurd f 'u')
   |(simp at f;lia)
 cases m with
 | cons w1 w2=>
  cases w2;cases w1 with
  |list ho sh=>exact⟨_,_,ns,rfl,rfl,ho,z5v ns _ sh,c⟩
def zdm(l:lX)(args:List WData):l.row.toRowW.claim.post args (.bool KM) args=KM:=
 postW_of (r:=l.row.toRowW) (X:=(KM==KM))
  (show WShape.has [] (.bool KM) .bool=KM by first|rfl|decide|simp[WShape.has,WShape.arms,WShape.armsAll])
  (show(WTm.eq .res (.lit (.bool KM))).value [] { args:=args,res:=KB (.bool KM),after:=args } = KB (.bool (KM==KM)) from w_eq_bool (w_res rfl) w_lit) rfl
theorem Sk:∀ns:List Int,lF (ns.map PyData.int)=ns.map nK
 |[]=>by simp[lF]
 |n::ns=>by simp only[bH,lF,lY];rw[Sk ns]
def attach_call{l:lX}{n:Nat}{q:aN}{loose:List Str}{XP:(Str->Option ab)->aX->Prop}{p:aY->aX->Prop}{d:DefRec}{α:Type}{Yf:ag->α}{Ya:aY->α}
  (C:l.most=KB n) (D:d.params.defaults=[]) (E:∀w s,Yf s=Ya w->p w s.heap) (F:∀w h h',p w h->(∀b o,h.get? b=KB o->h'.get? b=KB o)->p w h')
  (j:∀(w:aY)(c e:ag)(mg v:Str->Option ab)(k:ae)(o:Obj)(x t g:ab)(a:ae)(vs:List ab)(ns:List Int),
   Ground q loose [] XP w c mg v e.heap->p w e.heap->
   e.heap.get? k=KB o->o.data=.func (docDef d.name d.params d.body d.scope x t g)->e.heap.CodeRec t d.name->mg d.name=KB (.ref k)->
   e.heap.get? a=KB { cls:=.type "list",data:=.seq vs.toArray }->kO vs ns->ns.length<=n->e.gens = #[]->0<e.toks->
   codeAny (av l.prog w) callerA (.call (.ref k) ⟨[.ref a],[]⟩) (λr u=>r=.ok (.ret (.bool KM))/\OldK e.heap u.heap/\u.os=e.os/\h9 u.gens) e):
  WalkX q loose XP (λs=>(Yf s,decide (0<s.toks))) (λw=>(Ya w,KM)) l.row.toRowW d [] (λf vs=>PySem.call f vs):=by
 intro w c e mg v G Y k o x t g H I J K M y N O z A P L Q B R S BD;obtain rfl:H=.none:=Dflts.none y D;obtain rfl:I=.none:=Dflts.noKw y;have T:Yf c=Ya w:=congrArg Prod.fst Y;have U:0<c.toks:=of_decide_eq_true (congrArg Prod.snd Y);obtain⟨a,vs,ns,rfl,rfl,V,i,m⟩:=zd3 C Q S;have Z:Laid l.row.toRowW.records w c e [lY (fq (ns.map PyData.int))] [.ref a] P:=by
  rw[lY,Sk];exact L
 have qp:0<e.toks:=bb U (PySem.W.X.script_toks Z rfl);refine enter_call (gq (j w c e mg v k o x t g a vs ns G (F _ _ _ (E w c T) L.keeps) J (fd_plain K) M N V i m O qp) λr u hq=>?_);obtain⟨rfl,h2,h3,h4⟩:=hq;exact⟨.inl ⟨.bool KM,.bool KM,[],rfl,λ_=>rfl,.bool KM,zdm l _,λ_=>⟨eS,λ_ hm=>(nomatch hm)⟩⟩,h2,h3,h4⟩
section
end
end Att
namespace L2
open PySem PySem.Spec PyProof.Rows
theorem RP:∀{vs:List ab}{ns:List Int},kO vs ns->oa (ns.map V.int) vs
 |_,_,.nil=>.nil
 |_,_,.cons n t h=>.cons ⟨t,rfl⟩ (RP h)
noncomputable def xp(s:eJ):iI:=match s with
 |.FunctionDef _ a _ _ _ _ _ _ _ _=>a
 |_=>{ posonlyargs:=[],args:=[],vararg:=KF,kwonlyargs:=[],kw_defaults:=[],kwarg:=KF,defaults:=[] }
def uK(s:eJ):List eJ:=match s with
 |.FunctionDef _ _ b _ _ _ _ _ _ _=>b
 |_=>[]
def pJ(s:eJ):c8:=match s with
 |.FunctionDef _ _ _ _ _ _ sc _ _ _=>sc
 |_=>{ kind:=.function,names:=[],isGenerator:=K7,isCoroutine:=K7 }
abbrev w6:wF:=λ_ _ _ _ _ _=>False
abbrev E0:XK:=λ_ _ _=>False
def NC:Gz w6 X E0:=λ_ _ _ _ _ _ _ h=>h.elim
structure Fun(K:ai)(x qual:Str)(st:eJ)(f:ae)(fd:eD):Prop where
 ex:∃(oc:ab)(od:Option ae)(kV doc pm:ab)(an:Option ae)(o_ ct:ab)(ui:Array (Option ab)),
  fd=cF x qual (xp st) (uK st) (pJ st) .none kV doc pm an o_ ct/\K.lookup f=KB ⟨oc,od,.func fd,ui⟩/\fh K o_ qual=KM
 kp:cZ K (.ref f)=KM
section
variable{P:aN}{w:aY}{K:ai}{mg:Str->Option ab}{base:aX}
def Fun.ok{x b:Str}{st:eJ}{f:ae}{i:eD}{N d:List Str}{k:Nat}{e:Sp}(F:Fun K x b st f i)(S:pV N d (pJ st))(g:∀vs H Q E,e vs H Q E->vs.length=d.length)
  (j:∀(c:ab)(A:ba)(a:List Env)(s:ag)(H:Hp)(vs:List V)(Q:VK)(E:XK),om k (A.deeper (envOfC b (pJ st) s.heap.objs.size f c))->e vs H Q E->
   ∃t,sJ (AL w6 P w K mg base N b (pJ st) f c A a s H E).nox (uK st) t/\t { nx:=λ_ H'=>Q .non H',rt:=Q } (start N vs) H):oB P w K mg base w6 (k+1) f i d e:=by obtain⟨r,u,v,l,y,z,c,B,C,rfl,m,n⟩:=F.ex;refine pP m n S g λA a s H vs Q E o p=>?_;obtain⟨t,h,q⟩:=j c A a s H vs Q E o p;exact⟨t,h.nox,q⟩
def Fun.binds{x a:Str}{st:eJ}{f:ae}{l:eD}{c:List Str}(F:Fun K x a st f l)
  (h:∀(d b e:ab)(g:Option ae)(i j:ab)(k:List ab),k.length=c.length->bindArgs (cF x a (xp st) (uK st) (pJ st) .none d b e g i j) ⟨k,[]⟩=pure (c.zip k)):Binds K l c []:=by obtain⟨m,n,d,b,e,g,i,j,o,rfl,p,q⟩:=F.ex;exact .all (h d b e g i j)
def Jt{x a:Str}{st:eJ}{f:ae}{j:ab}{m e:Option ae}{n:Array (Option ab)}{g b h d i:ab}(l:K.lookup f=KB ⟨j,m,.func (cF x a (xp st) (uK st) (pJ st) .none g b h e d i),n⟩)
  (c:fh K d a=KM) (k:cZ K (.ref f)=KM):Fun K x a st f (cF x a (xp st) (uK st) (pJ st) .none g b h e d i):=⟨⟨j,m,g,b,h,e,d,i,n,rfl,l,c⟩,k⟩
end
def oj(H H':Hp):Prop:=∀b o,H b=KB o->H' b=KB o
def oj.refl(H:Hp):oj H H:=λ_ _ h=>h
def oj.trans(a:oj H H1)(b:oj H1 H2):oj H H2:=λc o h=>b c o (a c o h)
def oj.free{H H':Hp}(e:oj H H'){l:ae}(h:H' l=jh):H l=jh:=by
 cases q:H l with
 |none=>rfl
 | some o=>
  rw[e l o q] at h;cases h
def oj.seq{K:ai}{H H':Hp}{a:ae}{xs:List V}(e:oj H H')(h:qz K H a xs):qz K H' a xs:=by
 rcases h with(h|⟨o,h⟩)|h
 ·exact .inl (.inl (e _ _ h))
 ·exact .inl (.inr ⟨o,e _ _ h⟩)
 ·exact .inr h
section
variable{κ:Type}[DecidableEq κ]
def tT(k_:List (κ×V))(k:κ):Option V:=(k_.find? λkv=>decide (kv.1=k)).map (·.2)
noncomputable def vo(k_:List (κ×V))(k:κ)(v:V):List (κ×V):=
 if (k_.any λkv=>decide (kv.1=k))=KM then k_.map (λkv=>if kv.1=k then (kv.1,v) else kv) else k_++[(k,v)]
def yL(k_:List (κ×V))(k:κ):List (κ×V):=k_.filter λkv=>decide (kv.1≠k)
def A9{p:κ×V}{r:List (κ×V)}{k:κ}(e:p.1=k):tT (p::r) k=KB p.2:=by simp[tT,eN,e]
def Ad{p:κ×V}{r:List (κ×V)}{k:κ}(e:¬ p.1=k):tT (p::r) k=tT r k:=by simp[tT,eN,e]
theorem QV(k:κ):∀a:List (κ×V),(a.any λkv=>decide (kv.1=k))=(tT a k).isSome
 |[]=>rfl
 | p::r=>by
  rw[gL];by_cases e:p.1=k
  ·simp only[A9 e,decide_eq_true e,Bool.true_or,lZ]
  ·rw[Ad e,decide_eq_false e,lG];exact QV k r
def SI(a:List (κ×V))(k:κ)(v:V):(vo a k v).length<=a.length+1:=by
 unfold vo;split
 ·rw[ax];lia
 ·rw[aE,aS,cP];lia
def Kb{a:List (κ×V)}{k:κ}(v:V)(h:tT a k=KF):vo a k v=a++[(k,v)]:=by unfold vo;rw[QV,h];exact qq 'u'
def oO.isSome_eq(r:oO o u):o.isSome=u.isSome:=by
 cases o with
 | none=>cases u with
  |none=>rfl
  |some _=>exact(show False from r).elim
 | some _=>cases u with
  |none=>exact(show False from r).elim
  |some _=>rfl
def oO.getD(r:oO o u)(a:RelV d d'):RelV (o.getD d) (u.getD d'):=by
 cases o with
 | none=>cases u with
  |none=>exact a
  |some _=>exact(show False from r).elim
 | some _=>cases u with
  |none=>exact(show False from r).elim
  |some _=>exact r
def KV.val{c:List (κ×V)}{vs:List (κ×ab)}(r:KV c vs)(k:κ):oO (tT c k) (valueAt vs k):=by
 unfold KV at r
 induction r with
 |nil=>exact ft
 | @cons p q ps qs h t ih=>
  obtain⟨d,f⟩:=h;by_cases e:p.1=k
  ·have a:q.1=k:=d.symm.trans e;have b:valueAt (q::qs) k=KB q.2:=by simp[valueAt,eN,a]
   rw[A9 e,b];exact f
  ·have a:¬ q.1=k:=λz=>e (d.trans z);have b:valueAt (q::qs) k=valueAt qs k:=by simp[valueAt,eN,a]
   rw[Ad e,b];exact ih
def KV.any{a:List (κ×V)}{vs:List (κ×ab)}(r:KV a vs)(k:κ):(a.any λkv=>decide (kv.1=k))=vs.any λkv=>decide (kv.1=k):=by
 unfold KV at r
 induction r with
 |nil=>rfl
 |cons h t ih=>rw[gL,gL,ih,h.1]
def KV.repl(r:KV k_ vs)(k:κ)(b:RelV y u):
  KV (k_.map λkv=>if kv.1=k then (kv.1,y) else kv) (vs.map λkv=>if kv.1=k then (kv.1,u) else kv):=by
 unfold KV at r ⊢
 induction r with
 |nil=>exact .nil
 | @cons p q ps qs h t ih=>
  rw[bH,bH];refine .cons ?_ ih;obtain⟨a,c⟩:=h;by_cases e:p.1=k
  ·rw[qb e,qb (a.symm.trans e)];exact⟨a,b⟩
  ·rw[qq e,qq (λz=>e (a.trans z))];exact⟨a,c⟩
def KV.put(r:KV k_ vs)(k:κ)(a:RelV y u):KV (vo k_ k y) (stored vs k u):=by
 unfold vo stored;rw[r.any k];by_cases e:(vs.any λb=>decide (b.1=k))=KM
 ·rw[qb e,qb e];exact r.repl k a
 ·rw[qq e,qq e];exact Paired.snoc r ⟨rfl,a⟩
def KV.drop(r:KV k_ vs)(k:κ):KV (yL k_ k) (without vs k):=by
 unfold KV at r ⊢;unfold yL without
 induction r with
 |nil=>exact .nil
 | @cons p q ps qs h t ih=>
  obtain⟨c,d⟩:=h;rw[gF,gF];by_cases e:p.1=k
  ·have a:¬ decide (p.1≠k)=KM:=by simp[e]
   have b:¬ decide (q.1≠k)=KM:=by simp[c.symm.trans e]
   rw[qq a,qq b];exact ih
  ·have f:¬ q.1=k:=λz=>e (c.trans z);have a:decide (p.1≠k)=KM:=by simp[e]
   have b:decide (q.1≠k)=KM:=by simp[f]
   rw[qb a,qb b];exact .cons ⟨c,d⟩ ih
def KV.length(r:KV k_ vs):k_.length=vs.length:=lD r
def zgs(a:List (κ×V))(k:κ):(yL a k).length<=a.length:=bu _ _
end
def Gh(r:RelV (kV k) u):(vE P w).is k u=KM:=by
 cases k with
 |inl i=>obtain⟨t,e⟩:=(show ∃t,u=lR i t from r);subst e;exact z9L P w i t
 |inr x=>obtain⟨t,e⟩:=(show ∃t,u=lS x t from r);subst e;exact zaI P w x t
abbrev KT(H:Hp):List (List Key×V)->List (List Key×ae×ab)->Prop:=ck λp q=>p.1=q.1/\H q.2.1=KB (.tup (p.1.map kV))/\RelV p.2 q.2.2
def KT.val{H:Hp}{c:List (List Key×V)}{xs:List (List Key×ae×ab)}(r:KT H c xs)(k:List Key):oO (tT c k) ((atKey xs k).map (·.2)):=by
 induction r with
 |nil=>exact ft
 | @cons p q ps qs h t ih=>
  obtain⟨d,_,f⟩:=h;by_cases e:p.1=k
  ·have a:q.1=k:=d.symm.trans e;have b:atKey (q::qs) k=KB q.2:=by simp[atKey,eN,a]
   rw[A9 e,b];exact f
  ·have a:¬ q.1=k:=λz=>e (d.trans z);have b:atKey (q::qs) k=atKey qs k:=by simp[atKey,eN,a]
   rw[Ad e,b];exact ih
section
variable{P:aN}{w:aY}{H:Hp}{h:aX}{a:ae}
def Vo(ok:HOk P w H h)(e:Rd H a u):oy P w H h a u:=e.ok ok
def Gm(ok:HOk P w H h)(e:Rd H a (.dK k_)):k_.length<=qN/\(a==sysModules)=K7/\∃vs,KV k_ vs/\h.DictOf (vE P w) a vs:=
 show oy P w H h a (.dK k_) from Vo ok e
def Gd(ok:HOk P w H h)(e:H a=KB (.dK k_)):k_.length<=qN/\(a==sysModules)=K7/\∃vs,KV k_ vs/\h.DictOf (vE P w) a vs:=Gm ok (.inl e)
end
section
variable{X:Cx}{Y1:List (ae×Obj)}{σ:St}{H:Hp}{s:ag}{a:ae}
def Inv.big(I:Inv X Y1 σ H s):sysModules<s.heap.objs.size:=by have h:bI<s.heap.objs.size:=(I.mod.glob.keeps I.bk).lt;exact Nat.lt_trans 'u' h
def JM(I:Inv X Y1 σ H s)(d:FV (H a))(f:cS a s.heap h')(g:∃q,h'.get? a=KB q)(c:oy X.prog X.w (upd H a ob) h' a ob)(i:0<t':=by first|exact cR _|exact Inv.tk ‹_›|assumption|lia):
  Inv X Y1 σ (upd H a ob) { s with heap:=h',toks:=t' }:=
 I.write (x:=a) (e:=a) d (.inl rfl) (λb q h z=>(f.2 b h).trans z) g c
def Gv(z:k_.length<=qN)(c:(a==sysModules)=K7)(b:KV k_ vs)(d:h'.DictOf (vE P w) a vs):
  oy P w H' h' a (.dK k_):=⟨z,c,vs,b,d⟩
end
section
variable{X:Cx}{Y1:List (ae×Obj)}{σ:St}{H:Hp}{s:ag}{a:ae}{k_:List (Key×V)}{k:Key}{u:ab}{A:ba}{E:ab->ag->Prop}
def ze4(I:Inv X Y1 σ H s)(e:H a=KB (.dK k_))(g:RelV (kV k) u)(l:(tT k_ k).isSome=KM)(h:∀d,Inv X Y1 σ (upd H a (.dK (yL k_ k))) d->Q () d):
  am (av X.prog X.w) A (delItem (.ref a) u) Q E s:=by
 obtain⟨z,i,j,b,c⟩:=Gd I.hok e;refine wpAny_delItem_slot c.typeIs 'u' jM
  (call_meetsIn jM c.typeIs PySem.F.entry_dict_delitem (PySem.F.args_dict_delitem_2 _ _) (meets_dict_delitem_pairs (vE X.prog X.w) a (Gh g)) ⟨j,c,by rw[<- b.length];exact z,by rw[<- (b.val k).isSome_eq];exact l,λm f n=>h _ ?_⟩)
 have o:∃q,m.get? a=KB q:=let ⟨q,_,_,hq,_⟩:=f;⟨q,hq⟩;exact JM I (by rw[e];exact ft) n o (Gv (aM (zgs k_ k) z) i (b.drop k) f)
end
def Dg(i:aT):Prop:=∀ov iv,subscripted i K7 ov iv=operate [ov,iv] (getItem ov iv)
def Pm{prog:aN}{w:aY}{A:ba}{E:ab->ag->Prop}{s:ag}{env:Env}{b a:aT}{pos:Pos}{T id:String}{Q:ab->ag->Prop}
  (k:typeLookup (.type T) "__getitem__" = pure (KB (.builtin id))) (l:Dg a)
  (h:am (av prog w) A (eval b env) (λo f=>am (av prog w) A (eval a env) (λi d=>d.TypeIs o T/\am (av prog w) A (getItem o i) Q E d) E f) E s):
  am (av prog w) A (eval (.Subscript b a pos) env) Q E s:=by
 refine Subscript_ (cG h (λo f m=>cG m (λi d e=>?_) λ_ _ x=>x) λ_ _ x=>x);obtain⟨g,e⟩:=e;unfold subscriptTail;refine aa ?_;rw[getitemInPython_of_ne g.not_modules];refine aa (wpAny_specialOf g k ?_);have c:am (av prog w) A (subscripted a K7 o i) (λr j=>am (av prog w) A (letTemporaryGo b o r >>= λ_=>pure r) Q E j) E d:=by
  rw[l o i];exact wpAny_operating (cG e (λr j n=>aa (wpAny_letTemporaryGo (ah n))) λ_ _ x=>x)
 first
  |exact ah (aa c)
  |exact aa (ah (aa c))
  |exact aa c
def VA(td ty:TE):TS:=λD σ H=>td σ H λx H1=>ty σ H1 λy H2=>∃a k_ k,x=.ref a/\H2 a=KB (.dK k_)/\y=kV k/\(tT k_ k).isSome=KM/\D.nx σ (upd H2 a (.dK (yL k_ k)))
section
variable{X:Cx}{o i e:aT}{pos K5:Pos}{td ty:TE}
def YM(d:PE X o td)(f:PE X i ty):PS X (.Delete [.Subscript o i K5] pos) (VA td ty):=by intro b s c H D I h;refine wpAny_Delete (wpAny_deleteEach_cons (wpAny_delete_Subscript (pG (d b s c H _ I h) λu g ⟨x,j,m,n,p⟩=>pG (f b g c j _ m p) λA B ⟨y,C,q,r,a,E,k,t,e,v,l,w⟩=>?_)));subst t v;obtain rfl:u=fx a:=n;exact ze4 q e r l λF z=>wpAny_deleteEach_nil ⟨c,_,z,w⟩
end
def zg8(h:aX)(a:sysModules<h.objs.size):oy P w H (h.push { cls:=.type "dict",data:=.dict #[] }) h.objs.size (.dK []):=
 ⟨cn _,beq_eq_false_iff_ne.mpr (bB (bh a)),[],.nil,Heap.DictOf.new h⟩
noncomputable def Jr:List (TE×TE)->St->Hp->(List (V×V)->Hp->Prop)->Prop
 |[],_,H,Q=>Q [] H
 |(tk,tv)::r,σ,H,Q=>tk σ H λx H1=>tv σ H1 λy H2=>Jr r σ H2 λps H3=>Q ((x,y)::ps) H3
abbrev VV:List (V×V)->List (ab×ab)->Prop:=ck λp q=>RelV p.1 q.1/\RelV p.2 q.2
def Iy(X:Cx)(pos:Pos)(keys:List (Option aT))(values:List aT)(Be:List (TE×TE)):Prop:=
 ∀(Y1:List (ae×Obj))(s:ag)(σ:St)(H:Hp)(Q:List (V×V)->Hp->Prop),Inv X Y1 σ H s->Jr Be σ H Q->
  am (av X.prog X.w) X.A (evalPairs (pairTrees keys values X.env pos)) (λvs s'=>∃ps H',Inv X Y1 σ H' s'/\VV ps vs/\Q ps H') X.xe s
def YU:Iy X pos [] [] []:=λa s b H Q I h=>pairTrees_nil_walk ⟨[],H,I,.nil,h⟩
def Qn(d:PE X k tk)(e:PE X v tv)(f:Iy X pos ks vs Be):
  Iy X pos (KB k::ks) (v::vs) ((tk,tv)::Be):=λa s b H Q I h=>
 pairTrees_cons_walk (pG (d a s b H _ I h) λu g ⟨x,i,j,l,m⟩=>pG (e a g b i _ j m) λB n ⟨y,o,p,q,r⟩=>
  pG (f a n b o _ p r) λC D ⟨t,w,z,c,A⟩=>⟨(x,y)::t,w,z,.cons ⟨l,q⟩ c,A⟩)
def Ck(k_ more:List (Key×V)):List (Key×V):=more.foldl (λK4 kv=>vo K4 kv.1 kv.2) k_
def KV.merge:∀{a:List (Key×V)}{c:List (Key×ab)}{b:List (Key×V)}{vs:List (Key×ab)},KV a c->KV b vs->KV (Ck b a) (merged vs c):=by
 intro a c b vs r;unfold KV at r
 induction r generalizing b vs with
 |nil=>intro q;exact q
 | @cons p q ps qs h t ih=>
  intro d;have e:KV (vo b p.1 p.2) (stored vs q.1 q.2):=by
   have:=d.put p.1 h.2;rw[<- h.1];exact this
  exact ih e
theorem SS:∀(more k_:List (Key×V)),(Ck k_ more).length<=k_.length+more.length
 |[],k_=>by show k_.length<=k_.length+0;lia
 | p::r,k_=>by
  have a:=SS r (vo k_ p.1 p.2);have b:=SI k_ p.1 p.2;show(Ck (vo k_ p.1 p.2) r).length<=_;rw[aS];lia
theorem Sl:∀{k_:List (Key×V)}{ws:List (ab×ab)},VV (k_.map λkv=>(kV kv.1,kv.2)) ws->∃d,Carries (vE P w) ws d/\KV k_ d
 |[],_,r=>by rw[jU] at r;cases r;exact⟨[],ft,.nil⟩
 | p::k_,_,r=>by
  rw[bH] at r;cases r with
  | @cons a b as bs h t=>
   obtain⟨d,c,q⟩:=Sl (P:=P) (w:=w) t;obtain⟨f,e⟩:=b;exact⟨(p.1,e)::d,⟨Gh h.1,rfl,c⟩,.cons ⟨rfl,h.2⟩ q⟩
def VL(Be:List (TE×TE)):TE:=λσ H Q=>∀p,H p=KF->Jr Be σ (upd H p (.dK [])) λps H2=>H2 p=KB (.dK [])/\∃k_:List (Key×V),ps=k_.map (λkv=>(kV kv.1,kv.2))/\k_.length<=15/\Q (.ref p) (upd H2 p (.dK (Ck [] k_)))
def Zu(h:Iy X pos keys values Be)(k:keys.all (·.isSome)=KM)(l:keys.length=values.length)(m:keys≠[])
  (d:keys.length<=15):PE X (.Dict keys values pos) (VL Be):=by
 intro b s n H Q I q;have p:=I.hok.fresh (aF s.heap.objs.size);have r:=I.laid (a:=s.heap.objs.size) (o:=.dK []) (h':=s.heap.push { cls:=.type "dict",data:=.dict #[] }) (t':=s.toks) (λ_ _ q=>af _ q) (aF _) (zg8 s.heap I.big);refine wpAny_Dict_walk (knd:=vE X.prog X.w) k l m d (pG (h b _ n _ _ r (q _ p)) λJ K ⟨L,M,f,g,e,i,t,N,u⟩=>?_);subst t;obtain⟨v,c,x⟩:=Sl (P:=X.prog) (w:=X.w) g;obtain⟨z,y,A,B,C⟩:=Gd f.hok e;cases B;refine⟨v,c,C,λh' j D=>⟨.ref s.heap.objs.size,_,?_,rfl,u⟩⟩;have E:(Ck [] i).length<=qN:=by
  have F:=SS i [];rw[cP] at F;rw[kB];lia
 have G:∃q,h'.get? s.heap.objs.size=KB q:=let ⟨q,_,_,hq,_⟩:=j;⟨q,hq⟩;exact JM f (by rw[e];exact ft) D G (Gv E y (x.merge .nil) j) (Nat.add_pos_left f.tk _)
structure M1(X:Cx)(o:aT)(m:Str)(apos:Pos)(e:aT)(pK:Pos):Prop where
 base:attributeBase o m X.env (eval o X.env)=eval o X.env
 few:((backTo pK (aV [e] X.env)).all (λx=>!x.1)&&(backToKw pK (keywordEach [] X.env)).all (λx=>x.1.isSome)
  && decide (([e]:List aT).length+([]:List fY).length+(if ([]:List fY).isEmpty then 0 else 1)<30))=KM
 line:(apos.endLine==pK.line)=KM
 trees:backTo pK (aV [e] X.env)=[(K7,eval e X.env)]
structure M2(X:Cx)(o:aT)(m:Str)(apos:Pos)(e f:aT)(pK:Pos):Prop where
 base:attributeBase o m X.env (eval o X.env)=eval o X.env
 few:((backTo pK (aV [e,f] X.env)).all (λx=>!x.1)&&(backToKw pK (keywordEach [] X.env)).all (λx=>x.1.isSome)
  && decide (([e,f]:List aT).length+([]:List fY).length+(if ([]:List fY).isEmpty then 0 else 1)<30))=KM
 line:(apos.endLine==pK.line)=KM
 trees:backTo pK (aV [e,f] X.env)=[(K7,eval e X.env),(K7,eval f X.env)]
section
end
section
end
end L2
namespace DL
open PySem L2
def wT{X:Cx}{b:List (ae×Obj)}{d:St}{H:Hp}{s:ag}{α:Type}{M:iP}{A:ba}{m:Sem α}{Q:α->ag->Prop}{E:ab->ag->Prop}(I:L2.Inv X b d H s)(h:am M A m (λa c=>0<c.toks->Q a c) (λe c=>0<c.toks->E e c) s):am M A m Q E s:=ge I.tk h
structure Iv(K:ai)(C:ae):Prop where
 ga:fg K (.ref C) "__getattribute__" = KB (KB (.builtin "BaseException.__getattribute__"))
 nh:fg K (.ref C) "__getattr__" = KB KF
 cl:∃cd,PySem.W.clsIn K C=KB cd
 at_:fg K (.ref C) "__class__" = KB (KB (.builtin "object.__class__"))
 gt:jH K (.builtin "object.__class__") "__get__" = KB (KB (.builtin "getset_descriptor.__get__"))
 tk:ng K (.builtin "object.__class__")=KB KM
 ob:lE K C (.type "object")=KB KM
 bx:lE K C (.type "BaseException")=KB KM
 kit:∀c∈(["int", "bool", "str", "list", "tuple", "dict"]:List String),kQ K (.ref C) (.type c)=KB K7
section
open PySem.W
variable{prog:aN}{w:aY}{A:ba}{E:ab->ag->Prop}{s:ag}{K:ai}{x C:ae}{ox:Obj}
def ZY(X:K.In s.heap)(k:Iv K C)(I:i9 s.heap x ox C KF)(a:Q () s):am M A (checkBuiltinCall "BaseException.__getattribute__" ⟨[.ref x,ER],[]⟩) Q E s:=by
 have b:builtinKind "BaseException.__getattribute__" = KB .slot:=by decide +kernel
 have c:splitId "BaseException.__getattribute__" = KB ("BaseException", "__getattribute__"):=by decide +kernel
 have g:=F.args_bexc_ga (.ref x) ER;have d:=I.type (M:=M);have e:=looks_mroIn (M:=M) X k.bx;have f:Looks M s.heap (isInstance (.ref x) (.type "BaseException")) KM:=d.andThen e;simp only[checkBuiltinCall,b,c];refine aa (f.at ?_)
 repeat (first|wp_step|exact a)
def X0(X:K.In s.heap)(k:Iv K C)(I:i9 s.heap x ox C KF)(h:Q (KB (.ref C)) { s with toks:=s.toks+1 }):am (av prog w) A (getAttr? (.ref x) "__class__") Q E s:=by
 obtain⟨i,c⟩:=k.cl;have d:findObj K C KF "__class__" = KB (.bind (.builtin "getset_descriptor.__get__") (.builtin "object.__class__")):=by
  unfold findObj;rw[c,k.at_];simp only[Option.bind_some,k.gt,k.tk]
 have b:=I.type (M:=av prog w);have e:=looks_findIn (M:=av prog w) X k.ga;have f:=looks_findIn (M:=av prog w) X k.nh;have g:=looks_find (M:=av prog w) X I d;unfold getAttr? getAttrBy? getAttrBy;refine aa (wpAny_mkText (aa (fJ (bz (aa (b.at (aa (e.at ?_))))))));have a:(onTheHeap (fx C)&&gM "BaseException.__getattribute__" == gM "object.__getattribute__")=K7:=by
  rw[show(gM "BaseException.__getattribute__" == gM "object.__getattribute__")=K7 from by decide +kernel];rfl
 show am _ _ (if (onTheHeap (fx C)&&gM "BaseException.__getattribute__" == gM "object.__getattribute__")=KM then _ else _) _ _ _;rw[qq (by rw[a];decide)];unfold getAttrByItsOwn hookBefore;rw[qb (by rfl)];refine aa (f.at (aa (fJ (bz ?_))));unfold callGetattribute boundAndCalled;rw[qq 'u'];rw[ms.ga.bind (.ref x)];refine aa (ah (lp ?_));refine codeAny_call_builtin ms.ga.plain F.entry_bexc_ga (ZY (s:={ s with toks:=s.toks+1 }) X k I ?_);unfold dH.«object.__getattribute__»;refine aa (ah (aa (ah (aa (b.at (aa (g.at ?_)))))));show am _ _ (jN _ _ _ _) _ _ _;unfold jN;refine aa (bz (lp (class_get (s:={ s with toks:=s.toks+1 }) X I k.ob ?_)));exact ah (ah (ah h))
def W5(k:Iv K C):KitX K (.ref x) (.ref C) (λh=>∃ox,i9 h x ox C KF) where
 ty:=λ_ _ _ ⟨ox,I⟩=>I.type
 it:=λ_ _ X _=>by
  obtain⟨f,a⟩:=k.cl;unfold clsIn at a;split at a
  ·rename_i g i b j c;intro o p r t l q;unfold isType loadHead;exact aa (wpAny_loadPart (l _ _ (X _ _ c)) (ah q))
  ·cases a
 ne:=λh m u v n y X d=>by
  obtain⟨f,a⟩:=k.cl;refine Bool.eq_false_iff.mpr λq=>?_;have e:C=m:=Value.ref.inj (beq_iff_eq.mp q);subst e;unfold clsIn at a;split at a
  ·rename_i g i b j c;have z:=(X _ _ c).symm.trans d;cases z
  ·cases a
 ca:=λX ⟨ox,I⟩ q=>X0 X k I q
end
end DL
namespace DL
open PySem L2
inductive D where
 |non
 |bl (b:Bool)
 |int (i:Int)
 |str (cs:List Nat)
 |lst (xs:List D)
 |tup (xs:List D)
 |own (k:Nat)
 |dct
 |exn (C:Nat)
 |tab (P:Nat)
 |map (ks:List (Sum Int (List Nat))) (ds:List D)
 |adr (a:Nat)
 deriving Inhabited
abbrev Ow:=List (List D)
inductive R(α:Type) where
 |ok (a:α) (O:Ow)
 |exc (c:Nat) (O:Ow)
 |bad
 deriving Inhabited
def R.bnd{α β:Type}(r:R α)(k:α->Ow->R β):R β:=match r with
 |.ok a O=>k a O
 |.exc c O=>.exc c O
 |.bad=>.bad
abbrev Sg:=List (Option D)
abbrev DE:=Sg->Ow->R D
abbrev DT:=Sg->Ow->R Bool
abbrev DA:=Sg->Ow->R (List D)
section
variable(K:ai)(H:Hp)(XV μ:List ae)
def Ve(K:ai)(a:ae)(xs:List V):Prop:=∃(o:Obj)(h_:Array ab)(n:Nat),K.lookup a=KB o/\o.cls=.type "list"/\o.dict=KF/\o.data=.seq h_ n/\h_.size<=qN/\oa xs h_.toList
def U8(K:ai)(a:ae)(xs:List V):Prop:=∃(o:Obj)(h_:Array ab)(n:Nat),K.lookup a=KB o/\o.cls=.type "tuple"/\o.data=.seq h_ n/\h_.size<=qN/\oa xs h_.toList
def LstAt(a:ae)(vs:List V):Prop:=(Rd H a (.lst vs)/\a∉XV/\a∉μ)\/Ve K a vs
def TupAt(a:ae)(vs:List V):Prop:=(Rd H a (.tup vs)/\a∉XV/\a∉μ)\/U8 K a vs/\∃o,K.lookup a=KB o/\o.dict=KF
end
def kD:Sum Int (List Nat)->Key
 |.inl i=>.inl i
 |.inr cs=>.inr ⟨cs.toArray⟩
def oz(H:Hp)(P:ae):Prop:=∃ps,H P=KB (.tbl ps)/\TriplesOk ps.toList/\∀pos cv,codeAmong pos ps.toList=KB cv->∃c φ,cv=.ref c/\H c=KB (.ext φ)/\∀h:aX,φ h->∃q,h.CodeRec (.ref c) q
def Ci(o:HO):Prop:=∀ps,o ≠ .tbl ps
section
variable(K:ai)(H:Hp)(XV μ:List ae)
mutual
def Y2:D->V->Prop
 |.non,v=>v=.non
 |.bl b,v=>v=.bl b
 |.int i,v=>v=.int i
 |.str cs,v=>v=.str ⟨cs.toArray⟩
 |.lst ds,v=>∃a vs,v=.ref a/\LstAt K H XV μ a vs/\n8 ds vs
 |.tup ds,v=>∃a vs,v=.ref a/\TupAt K H XV μ a vs/\n8 ds vs
 |.own k,v=>∃a,v=.ref a/\μ[k]?=KB a
 |.dct,v=>∃a,v=.ref a/\Rd H a (.dK [])/\a∉XV/\a∉μ
 |.exn C,v=>∃a φ,v=.ref a/\(Iv K C/\∀h:aX,φ h->∃ox,i9 h a ox C KF)/\Rd H a (.ext φ)/\a∉XV/\a∉μ
 |.tab P,v=>v=.bl K7/\oz H P
 |.map ks ds,v=>∃a vs,v=.ref a/\(∃o,H a=KB (.frz o (.dK ((ks.map kD).zip vs))))/\a∉XV/\a∉μ/\ks.length=vs.length/\n8 ds vs
 |.adr a,v=>v=.ref a
def n8:List D->List V->Prop
 |[],vs=>vs=[]
 |d::ds,vs=>∃v r,vs=v::r/\Y2 d v/\n8 ds r
end
structure n6(O:Ow):Prop where
 len:μ.length=O.length
 nd:μ.Nodup
 nh:∀a∈μ,a∉XV
 ht:∀a∈XV,H a≠KF
 at_:∀(k:Nat)a,μ[k]?=KB a->∃ds vs,O[k]?=KB ds/\H a=KB (.lst vs)/\n8 K H XV μ ds vs
structure n9(σ:Sg)(c_:St):Prop where
 len:σ.length=c_.length
 at_:∀(i:Nat)d,σ[i]?=KB (KB d)->∃v,c_[i]?=KB (KB v)/\Y2 K H XV μ d v
end
structure Ext(H:Hp)(μ:List ae)(H':Hp)(e_:List ae):Prop where
 pre:∃ν,e_=μ++ν
 kept:∀b o,H b=KB o->b∉μ->Ci o->H' b=KB o
 fresh:∀b∈e_,b∈μ\/H b=KF
 there:∀b,H b≠KF->H' b≠KF
 tab:∀P,oz H P->oz H' P
structure Mv(H:Hp)(XV μ:List ae)(H':Hp)(hid' e_:List ae):Prop where
 pre:∃ν,e_=μ++ν
 kept:∀b o,H b=KB o->b∉μ->b∉XV->Ci o->H' b=KB o
 fresh:∀b∈e_,b∈μ\/H b=KF
 hids:∀b∈hid',b∈XV\/H b=KF
 there:∀b,H b≠KF->H' b≠KF
 tab:∀P,oz H P->oz H' P
section
variable{K:ai}{H H' H1 H2:Hp}{XV hid' wx Fq μ e_ g_ pF:List ae}
def Ext.keep(e:Ext H μ H' e_)(b:ae)(o:HO)(h:H b=KB o)(n:b∉μ)(a:Ci o:=by intro c z;cases z):H' b=KB o:=e.kept b o h n a
def oz.upd(t:oz H P)(f:H p=KF \/ ∃vs,H p=KB (.lst vs)):oz (L2.upd H p o) P:=by
 obtain⟨g,a,h,i⟩:=t;have j:P≠p:=by
  rintro rfl;rcases f with z|⟨vs,z⟩<;>(rw[z] at a;cases a)
 refine⟨g,by rw[pI j];exact a,h,λb k e=>?_⟩;obtain⟨c,l,rfl,d,m⟩:=i b k e;have n:c≠p:=by
  rintro rfl;rcases f with z|⟨vs,z⟩<;>(rw[z] at d;cases d)
 exact⟨c,l,rfl,by rw[pI n];exact d,m⟩
def Ext.refl:Ext H μ H μ:=⟨⟨[],by simp⟩,λ_ _ h _ _=>h,λ_ h=>.inl h,λ_ h=>h,λ_ t=>t⟩
def Ext.trans(a:Ext H μ H1 g_)(b:Ext H1 g_ H2 pF):Ext H μ H2 pF:=by
 refine⟨?_,λc o h n d=>?_,λc h=>?_,λc h=>b.there c (a.there c h),λP t=>b.tab P (a.tab P t)⟩
 ·obtain⟨x,rfl⟩:=a.pre;obtain⟨y,rfl⟩:=b.pre;exact⟨x++y,by simp⟩
 ·refine b.kept c o (a.kept c o h n d) (λm=>?_) d;rcases a.fresh c m with z|z
  ·exact n z
  ·rw[z] at h;cases h
 ·rcases b.fresh c h with z|z
  ·exact a.fresh c z
  ·by_cases f:c∈μ
   ·exact .inl f
   ·cases e:H c with
    |none=>exact .inr rfl
    |some o=>exact absurd z (a.there c (by rw[e];simp))
def Ext.mv(a:Ext H μ H' e_):Mv H XV μ H' XV e_:=⟨a.pre,λb o h n _ c=>a.kept b o h n c,a.fresh,λ_ h=>.inl h,a.there,a.tab⟩
def Mv.refl:Mv H XV μ H XV μ:=Ext.refl.mv
def Mv.trans(a:Mv H XV μ H1 wx g_)(b:Mv H1 wx g_ H2 Fq pF):Mv H XV μ H2 Fq pF:=by
 have d:∀c,H1 c=KF->H c=KF:=λc h=>by
  cases e:H c with
  |none=>rfl
  |some o=>exact absurd h (a.there c (by rw[e];simp))
 refine⟨?_,λc o h f g i=>?_,λc h=>?_,λc h=>?_,λc h=>b.there c (a.there c h),λP t=>b.tab P (a.tab P t)⟩
 ·obtain⟨x,rfl⟩:=a.pre;obtain⟨y,rfl⟩:=b.pre;exact⟨x++y,by simp⟩
 ·refine b.kept c o (a.kept c o h f g i) (λm=>?_) (λm=>?_) i
  ·rcases a.fresh c m with z|z
   ·exact f z
   ·rw[z] at h;cases h
  ·rcases a.hids c m with z|z
   ·exact g z
   ·rw[z] at h;cases h
 ·rcases b.fresh c h with z|z
  ·exact a.fresh c z
  ·exact .inr (d c z)
 ·rcases b.hids c h with z|z
  ·exact a.hids c z
  ·exact .inr (d c z)
def Mv.hide(h:H b=KF):Mv H XV μ H (b::XV) μ:=⟨⟨[],by simp⟩,λ_ _ h _ _ _=>h,λ_ m=>.inl m,λc m=>(aq.mp m).elim (λe=>.inr (by rw[e];exact h)) .inl,λ_ h=>h,λ_ t=>t⟩
def Mv.unhide:Mv H (b::XV) μ H XV μ:=⟨⟨[],by simp⟩,λ_ _ h _ _ _=>h,λ_ m=>.inl m,λ_ m=>.inl (al _ m),λ_ h=>h,λ_ t=>t⟩
def Rd.mv(r:Rd H a u)(e:Mv H XV μ H' hid' e_)(c:a∉XV)(d:a∉μ)(f:Ci u:=by intro g z;cases z):Rd H' a u/\a∉hid'/\a∉e_:=by
 have b:∀o,H a=KB o->a∉hid'/\a∉e_:=by
  intro o h;constructor
  ·intro m;rcases e.hids a m with z|z
   ·exact c z
   ·rw[z] at h;cases h
  ·intro m;rcases e.fresh a m with z|z
   ·exact d z
   ·rw[z] at h;cases h
 rcases r with r|⟨o,r⟩
 ·exact⟨.inl (e.kept _ _ r d c f),b _ r⟩
 ·exact⟨.inr ⟨o,e.kept _ _ r d c (by intro g z;cases z)⟩,b _ r⟩
def LstAt.mv(h:LstAt K H XV μ a vs)(e:Mv H XV μ H' hid' e_):LstAt K H' hid' e_ a vs:=
 h.imp (λz=>Rd.mv z.1 e z.2.1 z.2.2) id
def TupAt.mv(h:TupAt K H XV μ a vs)(e:Mv H XV μ H' hid' e_):TupAt K H' hid' e_ a vs:=
 h.imp (λz=>Rd.mv z.1 e z.2.1 z.2.2) id
def LstAt.sq(h:LstAt K H XV μ a vs):qz K H a vs:=h.elim (λz=>.inl z.1) .inr
def TupAt.sq(h:TupAt K H XV μ a vs):qT K H a vs:=h.elim (λz=>.inl z.1) λz=>.inr z.1
mutual
theorem Y2.mv(e:Mv H XV μ H' hid' e_):∀{d:D}{v:V},Y2 K H XV μ d v->Y2 K H' hid' e_ d v
 |.non,_,h=>h
 |.bl _,_,h=>h
 |.int _,_,h=>h
 |.str _,_,h=>h
 | .lst ds,v,h=>by
  unfold Y2 at h ⊢;obtain⟨a,f,r,l,q⟩:=h;exact⟨a,f,r,l.mv e,n8.mv e q⟩
 | .tup ds,v,h=>by
  unfold Y2 at h ⊢;obtain⟨a,f,r,l,q⟩:=h;exact⟨a,f,r,l.mv e,n8.mv e q⟩
 | .own k,v,h=>by
  unfold Y2 at h ⊢;obtain⟨a,r,q⟩:=h;obtain⟨x,rfl⟩:=e.pre;exact⟨a,r,by rw[aJ (ar.mp q).1];exact q⟩
 | .dct,v,h=>by
  unfold Y2 at h ⊢;obtain⟨a,r,q,b,c⟩:=h;exact⟨a,r,Rd.mv q e b c⟩
 | .exn C,v,h=>by
  unfold Y2 at h ⊢;obtain⟨a,i,r,g,q,b,c⟩:=h;exact⟨a,i,r,g,Rd.mv q e b c⟩
 | .tab P,v,h=>by
  unfold Y2 at h ⊢;exact⟨h.1,e.tab _ h.2⟩
 | .map ks ds,v,h=>by
  unfold Y2 at h ⊢;obtain⟨a,f,r,⟨o,q⟩,b,c,j,d⟩:=h;obtain⟨_,m,n⟩:=Rd.mv (.inr ⟨o,q⟩) e b c;exact⟨a,f,r,⟨o,e.kept a _ q c b (by intro p z;cases z)⟩,m,n,j,n8.mv e d⟩
 |.adr _,_,h=>h
theorem n8.mv(e:Mv H XV μ H' hid' e_):∀{ds:List D}{vs:List V},n8 K H XV μ ds vs->n8 K H' hid' e_ ds vs
 |[],_,h=>h
 | d::ds,vs,h=>by
  unfold n8 at h ⊢;obtain⟨v,r,a,b,c⟩:=h;exact⟨v,r,a,Y2.mv e b,n8.mv e c⟩
end
def Y2.ext(e:Ext H μ H' e_)(h:Y2 K H XV μ d v):Y2 K H' XV e_ d v:=h.mv e.mv
def n8.ext(e:Ext H μ H' e_)(h:n8 K H XV μ ds vs):n8 K H' XV e_ ds vs:=h.mv e.mv
def n9.mv(h:n9 K H XV μ σ c_)(e:Mv H XV μ H' hid' e_):n9 K H' hid' e_ σ c_:=
 ⟨h.len,λi d q=>let ⟨v,a,b⟩:=h.at_ i d q;⟨v,a,b.mv e⟩⟩
def n9.ext(h:n9 K H XV μ σ c_)(e:Ext H μ H' e_):n9 K H' XV e_ σ c_:=h.mv e.mv
def n9.set(h:n9 K H XV μ σ c_)(q:Y2 K H XV μ d v)(i:Nat):n9 K H XV μ (σ.set i (KB d)) (c_.set i (KB v)):=by
 refine⟨by simp[h.len],λj x e=>?_⟩;by_cases c:i=j
 ·subst c;have f:i<σ.length:=by have:=(ar.mp e).1;simpa using this
  rw[bw f] at e;cases e;exact⟨v,by rw[bw (by rw[<- h.len];exact f)],q⟩
 ·rw[bq c] at e;obtain⟨w,a,b⟩:=h.at_ j x e;exact⟨w,by rw[bq c];exact a,b⟩
theorem n8.length:∀{ds:List D}{vs:List V},n8 K H XV μ ds vs->ds.length=vs.length
 |[],_,h=>by unfold n8 at h;subst h;rfl
 | d::ds,vs,h=>by
  unfold n8 at h;obtain⟨v,r,rfl,_,a⟩:=h;simp[n8.length a]
def n8.nil:n8 K H XV μ [] []:=by unfold n8;rfl
def n8.cons(h:Y2 K H XV μ d v)(t:n8 K H XV μ ds vs):n8 K H XV μ (d::ds) (v::vs):=by unfold n8;exact⟨v,vs,rfl,h,t⟩
theorem n8.append:∀{ds a:List D}{vs b:List V},n8 K H XV μ ds vs->n8 K H XV μ a b->n8 K H XV μ (ds++a) (vs++b)
 |[],_,_,_,h,t=>by unfold n8 at h;subst h;exact t
 | d::ds,a,vs,b,h,t=>by
  unfold n8 at h;obtain⟨v,r,rfl,c,e⟩:=h;exact .cons c (n8.append e t)
theorem n8.get:∀{ds:List D}{vs:List V}{i:Nat}{d:D},n8 K H XV μ ds vs->ds[i]?=KB d->∃v,vs[i]?=KB v/\Y2 K H XV μ d v
 |[],_,_,_,_,e=>by simp at e
 | d::ds,vs,0,x,h,e=>by
  unfold n8 at h;obtain⟨v,r,rfl,c,f⟩:=h;simp at e;subst e;exact⟨v,by simp,c⟩
 | d::ds,vs,i+1,x,h,e=>by
  unfold n8 at h;obtain⟨v,r,rfl,c,f⟩:=h;obtain⟨z,a,b⟩:=n8.get (i:=i) f (by simpa using e);exact⟨z,by simpa using a,b⟩
theorem n8.take:∀{ds:List D}{vs:List V}(n:Nat),n8 K H XV μ ds vs->n8 K H XV μ (ds.take n) (vs.take n)
 |_,_,0,_=>by simpa using n8.nil
 |[],_,n+1,h=>by unfold n8 at h;subst h;simpa using n8.nil
 | d::ds,vs,n+1,h=>by
  unfold n8 at h;obtain⟨v,r,rfl,a,b⟩:=h;simpa using n8.cons a (n8.take n b)
theorem n8.drop:∀{ds:List D}{vs:List V}(n:Nat),n8 K H XV μ ds vs->n8 K H XV μ (ds.drop n) (vs.drop n)
 |_,_,0,h=>by simpa using h
 |[],_,n+1,h=>by unfold n8 at h;subst h;simpa using n8.nil
 | d::ds,vs,n+1,h=>by
  unfold n8 at h;obtain⟨v,r,rfl,b,a⟩:=h;simpa using n8.drop n a
theorem n8.set(q:Y2 K H XV μ d v):∀{ds:List D}{vs:List V}(i:Nat),n8 K H XV μ ds vs->n8 K H XV μ (ds.set i d) (vs.set i v)
 |[],_,i,h=>by unfold n8 at h;subst h;simpa using n8.nil
 | x::ds,vs,0,h=>by
  unfold n8 at h;obtain⟨w,r,rfl,b,a⟩:=h;simpa using n8.cons q a
 | x::ds,vs,i+1,h=>by
  unfold n8 at h;obtain⟨w,r,rfl,b,a⟩:=h;simpa using n8.cons b (n8.set q i a)
theorem n8.rev:∀{ds:List D}{vs:List V},n8 K H XV μ ds vs->n8 K H XV μ ds.reverse vs.reverse
 |[],_,h=>by unfold n8 at h;subst h;simpa using n8.nil
 | d::ds,vs,h=>by
  unfold n8 at h;obtain⟨v,r,rfl,a,b⟩:=h;simpa using n8.append (n8.rev b) (.cons a .nil)
def wR(b:ae)(h:H b≠KF):upd H p o b≠KF:=by
 by_cases e:b=p
 ·subst e;rw[qP];simp
 ·rw[pI e];exact h
def Ext.laid(h:H p=KF):Ext H μ (upd H p o) μ:=
 ⟨⟨[],by simp⟩,λb u e _ _=>by rw[pI (rm e h)];exact e,λ_ m=>.inl m,wR,λ_ t=>t.upd (.inl h)⟩
def n6.laid(c:n6 K H XV μ O)(h:H p=KF):n6 K (upd H p o) XV μ O:=by
 refine⟨c.len,c.nd,c.nh,λa m=>?_,λk a e=>?_⟩
 ·by_cases q:a=p
  ·subst q;rw[qP];simp
  ·rw[pI q];exact c.ht a m
 ·obtain⟨d,f,g,b,i⟩:=c.at_ k a e;exact⟨d,f,g,by rw[pI (rm b h)];exact b,i.ext (.laid h)⟩
def n6.not_in(c:n6 K H XV μ O)(h:H p=KF):p∉XV/\p∉μ:=by refine⟨λm=>c.ht p m h,λm=>?_⟩;obtain⟨k,b,e⟩:=dM.mp m;obtain⟨d,f,_,a,_⟩:=c.at_ k p (by rw[ar];exact⟨b,e⟩);rw[h] at a;cases a
def Y2.newL(c:n6 K H XV μ O)(h:H p=KF)(q:n8 K H XV μ ds vs):Y2 K (upd H p (.lst vs)) XV μ (.lst ds) (.ref p):=by unfold Y2;exact⟨p,vs,rfl,.inl ⟨.inl qP,c.not_in h⟩,q.ext (.laid h)⟩
def Y2.newT(c:n6 K H XV μ O)(h:H p=KF)(q:n8 K H XV μ ds vs):Y2 K (upd H p (.tup vs)) XV μ (.tup ds) (.ref p):=by unfold Y2;exact⟨p,vs,rfl,.inl ⟨.inl qP,c.not_in h⟩,q.ext (.laid h)⟩
def Ext.cell(h:H p=KF):Ext H μ (upd H p o) (μ++[p]):=
 ⟨⟨[p],rfl⟩,λb u e _ _=>by rw[pI (rm e h)];exact e,λb m=>by
  rcases aP.mp m with m|m
  ·exact .inl m
  ·have:b=p:=by simpa using m
   subst this;exact .inr h,wR,λ_ t=>t.upd (.inl h)⟩
def n6.cell(c:n6 K H XV μ O)(h:H p=KF)(q:n8 K H XV μ ds vs):n6 K (upd H p (.lst vs)) XV (μ++[p]) (O++[ds]):=by
 have d:=c.not_in h;refine⟨by simp[c.len],?_,λa m=>?_,λa m=>?_,λk a e=>?_⟩
 ·rw[fN];refine⟨c.nd,by simp,λa i b j=>?_⟩;have:b=p:=by simpa using j
  subst this;rintro rfl;exact d.2 i
 ·rcases aP.mp m with m|m
  ·exact c.nh a m
  ·have:a=p:=by simpa using m
   subst this;exact d.1
 ·by_cases q:a=p
  ·subst q;rw[qP];simp
  ·rw[pI q];exact c.ht a m
 ·by_cases f:k<μ.length
  ·rw[aJ f] at e;obtain⟨l,n,o,g,r⟩:=c.at_ k a e;exact⟨l,n,by rw[aJ (by rw[<- c.len];exact f)];exact o,by rw[pI (rm g h)];exact g,r.ext (.cell h)⟩
  ·rw[bo 'd'] at e;have s:k-μ.length=0:=by
    have:=(ar.mp e).1;simp at this;lia
   rw[s] at e;simp at e;subst e;refine⟨ds,vs,?_,qP,q.ext (.cell h)⟩;have:k=O.length:=by have:=c.len;lia
   subst this;simp
def Ext.put(h:p∈μ)(a:∃vs,H p=KB (.lst vs)):Ext H μ (upd H p o) μ:=
 ⟨⟨[],by simp⟩,λb u e n _=>by rw[pI (by rintro rfl;exact n h)];exact e,λ_ m=>.inl m,wR,λ_ t=>t.upd (.inr a)⟩
def n6.put(c:n6 K H XV μ O)(b:μ[k]?=KB p)(q:n8 K H XV μ ds vs):n6 K (upd H p (.lst vs)) XV μ (O.set k ds):=by
 have g:p∈μ:=aL b;have h:∃vs,H p=KB (.lst vs):=let ⟨_,vs,_,d,_⟩:=c.at_ k p b;⟨vs,d⟩;refine⟨by simp[c.len],c.nd,c.nh,λa m=>?_,λj a e=>?_⟩
 ·by_cases q:a=p
  ·subst q;rw[qP];simp
  ·rw[pI q];exact c.ht a m
 ·by_cases f:j=k
  ·subst f;rw[b] at e;cases e;refine⟨ds,vs,?_,qP,q.ext (.put g h)⟩;rw[bw (by rw[<- c.len];exact(ar.mp b).1)]
  ·have l:a≠p:=by
    rintro rfl;obtain⟨i,n⟩:=ar.mp e;obtain⟨d,o⟩:=ar.mp b;exact f ((jS c.nd).mp (n.trans o.symm))
   obtain⟨r,s,i,d,t⟩:=c.at_ j a e;exact⟨r,s,by rw[bq (bB f)];exact i,by rw[pI l];exact d,t.ext (.put g h)⟩
end
section
variable(Ex:Nat->Hp->Prop)(K:ai)
def post{α β:Type}(rel:Hp->List ae->α->β->Prop)(H:Hp)(XV μ:List ae)(r:R α)(Q:β->Hp->Prop):Prop:=match r with
 |.ok d O'=>∀v H' e_,Ext H μ H' e_->n6 K H' XV e_ O'->rel H' e_ d v->Q v H'
 |.exc c O'=>∀H' e_,Ext H μ H' e_->n6 K H' XV e_ O'->Ex c H'
 |.bad=>False
abbrev qy(H:Hp)(XV μ:List ae)(r:R D)(Q:VK):Prop:=post Ex K (λH' e_ d v=>Y2 K H' XV e_ d v) H XV μ r Q
abbrev wO(H:Hp)(XV μ:List ae)(r:R Bool)(Q:Bool->Hp->Prop):Prop:=post Ex K (λ_ _ d v=>d=v) H XV μ r Q
abbrev NU(H:Hp)(XV μ:List ae)(r:R (List D))(Q:List V->Hp->Prop):Prop:=post Ex K (λH' e_ d v=>n8 K H' XV e_ d v) H XV μ r Q
def rd(t:DE):TE:=λc_ H Q=>∃XV μ σ O,n9 K H XV μ σ c_/\n6 K H XV μ O/\qy Ex K H XV μ (t σ O) Q
def wc(t:DT):TT:=λc_ H Q=>∃XV μ σ O,n9 K H XV μ σ c_/\n6 K H XV μ O/\wO Ex K H XV μ (t σ O) Q
def uh(t:DA):TA:=λc_ H Q=>∃XV μ σ O,n9 K H XV μ σ c_/\n6 K H XV μ O/\NU Ex K H XV μ (t σ O) Q
end
section
variable{Ex:Nat->Hp->Prop}{K:ai}{H H1:Hp}{XV μ g_:List ae}
def post.ext{α i:Type}{a:Hp->List ae->α->i->Prop}{r:R α}{Q:i->Hp->Prop}(h:post Ex K a H XV μ r Q)(e:Ext H μ H1 g_):post Ex K a H1 XV g_ r Q:=by
 cases r with
 |ok d O'=>exact λv b f g c q=>h v b f (e.trans g) c q
 |exc c O'=>exact λb f g c=>h b f (e.trans g) c
 |bad=>exact h
def post.bnd{α f g i:Type}{a:Hp->List ae->α->f->Prop}{b:Hp->List ae->g->i->Prop}{r:R α}{k:α->Ow->R g}{Q:i->Hp->Prop}{Q1:f->Hp->Prop}
  (h:post Ex K b H XV μ (r.bnd k) Q)
  (j:∀d O1 v H1 g_,Ext H μ H1 g_->n6 K H1 XV g_ O1->a H1 g_ d v->post Ex K b H1 XV g_ (k d O1) Q->Q1 v H1):post Ex K a H XV μ r Q1:=by
 cases r with
 |ok d O'=>exact λv l m e c q=>j d O' v l m e c q (post.ext (show post Ex K b H XV μ (k d O') Q from h) e)
 |exc c O'=>exact h
 |bad=>exact h
def post.ok{α f:Type}{a:Hp->List ae->α->f->Prop}{d:α}{O:Ow}{Q:f->Hp->Prop}{v:f}(h:post Ex K a H XV μ (.ok d O) Q){H':Hp}{b:List ae}(e:Ext H μ H' b)(c:n6 K H' XV b O)(q:a H' b d v):Q v H':=h v H' b e c q
def post.here{α b:Type}{a:Hp->List ae->α->b->Prop}{d:α}{O:Ow}{Q:b->Hp->Prop}{v:b}(h:post Ex K a H XV μ (.ok d O) Q)(c:n6 K H XV μ O)(q:a H μ d v):Q v H:=h v H μ .refl c q
end
structure PD(X:Cx)(Ex:Nat->Hp->Prop)(e:aT)(t:DE):Prop where
 out:PE X e (rd Ex X.K t)
structure qF(X:Cx)(Ex:Nat->Hp->Prop)(e:aT)(t:DT):Prop where
 out:PT X e (wc Ex X.K t)
structure tJ(X:Cx)(Ex:Nat->Hp->Prop)(es:List aT)(t:DA):Prop where
 out:PA X es (uh Ex X.K t)
def PE.imp(h:PE X e t)(f:∀σ H Q,t' σ H Q->t σ H Q):PE X e t':=λa s σ H Q I q=>h a s σ H Q I (f σ H Q q)
def PT.imp(h:PT X e t)(f:∀σ H Q,t' σ H Q->t σ H Q):PT X e t':=λa s σ H Q I q=>h a s σ H Q I (f σ H Q q)
def PA.imp(h:PA X e t)(f:∀σ H Q,t' σ H Q->t σ H Q):PA X e t':=λb a s σ H Q I q=>h b a s σ H Q I (f σ H Q q)
def PW.imp(h:PW X e t)(f:∀σ H Q,t' σ H Q->t σ H Q):PW X e t':=λw a s σ H Q I q=>h w a s σ H Q I (f σ H Q q)
end DL
namespace DL
open PySem L2
def a_(i:Nat):DE:=λσ O=>match σ[i]? with
 |some (KB d)=>.ok d O
 |_=>.bad
def dC(d:D):DE:=λ_ O=>.ok d O
section
variable{X:Cx}{Ex:Nat->Hp->Prop}{pos:Pos}{a b c:aT}{ta tb tc:DE}
def q9{e:aT}{t:TE}{t':DE}(h:PE X e t)(f:∀XV μ σ O d H Q,n9 X.K H XV μ σ d->n6 X.K H XV μ O->qy Ex X.K H XV μ (t' σ O) Q->t d H Q):PD X Ex e t':=
 ⟨PE.imp h λd H Q ⟨XV,μ,σ,O,g,i,q⟩=>f XV μ σ O d H Q g i q⟩
def Gn{e:aT}{t:TT}{t':DT}(h:PT X e t)(f:∀XV μ σ O d H Q,n9 X.K H XV μ σ d->n6 X.K H XV μ O->wO Ex X.K H XV μ (t' σ O) Q->t d H Q):qF X Ex e t':=
 ⟨PT.imp h λd H Q ⟨XV,μ,σ,O,g,i,q⟩=>f XV μ σ O d H Q g i q⟩
def N6(h:PA X e t)(f:∀XV μ σ O d H Q,n9 X.K H XV μ σ d->n6 X.K H XV μ O->NU Ex X.K H XV μ (t' σ O) Q->t d H Q):tJ X Ex e t':=
 ⟨PA.imp h λd H Q ⟨XV,μ,σ,O,g,i,q⟩=>f XV μ σ O d H Q g i q⟩
def rd.go{i j:Type}{l:Hp->List ae->i->j->Prop}{t:DE}{XV μ:List ae}{σ:Sg}{O:Ow}{h:St}{H:Hp}{Q1:VK}{k:D->Ow->R i}{Q:j->Hp->Prop}(m:n9 X.K H XV μ σ h)(n:n6 X.K H XV μ O)
  (q:post Ex X.K l H XV μ ((t σ O).bnd k) Q)
  (f:∀d O1 v e g,n9 X.K e XV g σ h->Ext H μ e g->n6 X.K e XV g O1->Y2 X.K e XV g d v->post Ex X.K l e XV g (k d O1) Q->Q1 v e):rd Ex X.K t h H Q1:=
 ⟨XV,μ,σ,O,m,n,post.bnd q λd O1 v e g x c r p=>f d O1 v e g (m.ext x) x c r p⟩
def wc.go{i j:Type}{l:Hp->List ae->i->j->Prop}{t:DT}{XV μ:List ae}{σ:Sg}{O:Ow}{h:St}{H:Hp}{Q1:Bool->Hp->Prop}{k:Bool->Ow->R i}{Q:j->Hp->Prop}(m:n9 X.K H XV μ σ h)(n:n6 X.K H XV μ O)
  (q:post Ex X.K l H XV μ ((t σ O).bnd k) Q)
  (f:∀v O1 e g,n9 X.K e XV g σ h->Ext H μ e g->n6 X.K e XV g O1->post Ex X.K l e XV g (k v O1) Q->Q1 v e):wc Ex X.K t h H Q1:=
 ⟨XV,μ,σ,O,m,n,post.bnd q λd O1 v e g x c r p=>by
  have r:d=v:=r;subst r;exact f d O1 e g (m.ext x) x c p⟩
def uh.go{i j:Type}{l:Hp->List ae->i->j->Prop}{t:DA}{XV μ:List ae}{σ:Sg}{O:Ow}{h:St}{H:Hp}{Q1:List V->Hp->Prop}{k:List D->Ow->R i}{Q:j->Hp->Prop}(m:n9 X.K H XV μ σ h)(n:n6 X.K H XV μ O)
  (q:post Ex X.K l H XV μ ((t σ O).bnd k) Q)
  (f:∀d O1 v e g,n9 X.K e XV g σ h->Ext H μ e g->n6 X.K e XV g O1->n8 X.K e XV g d v->post Ex X.K l e XV g (k d O1) Q->Q1 v e):uh Ex X.K t h H Q1:=
 ⟨XV,μ,σ,O,m,n,post.bnd q λd O1 v e g x c r p=>f d O1 v e g (m.ext x) x c r p⟩
def XR(f:X.N[i]?=KB x)(g:uE X.env.scope x)(e:(x==("__debug__":Str))=K7:=by decide)(h:(x==("__classdict__":Str))=K7:=by decide):PD X Ex (.Name x pos) (a_ i):=
 q9 (Jh f g e h) λj o p O r H Q k l q=>by
  unfold a_ at q;split at q
  ·rename_i d e;obtain⟨v,m,n⟩:=k.at_ i d e;exact⟨v,m,post.here q l n⟩
  ·exact aj q
def Xl:PD X Ex (.Constant (.int i) j pos) (dC (.int i)):=q9 V8 λd f g O h H Q k e q=>post.here q e (by unfold Y2;rfl)
def Vl:PD X Ex (.Constant (.bool i) j pos) (dC (.bl i)):=q9 VB λd f g O h H Q k e q=>post.here q e (by unfold Y2;rfl)
def Xd:PD X Ex (.Constant .none j pos) (dC .non):=q9 XO λd f g O h H Q i e q=>post.here q e (by unfold Y2;rfl)
def WJ(cs:List Nat)(h:x=⟨cs.toArray⟩):PD X Ex (.Constant (.str x) j pos) (dC (.str cs)):=q9 Jp λd f g O i H Q k e q=>post.here q e (by unfold Y2;rw[h])
def zh2(cs:List Nat)(d:Gl X x)(e:X.mg x=KB (.str y t))(h:y=⟨cs.toArray⟩)(f:(x==("__debug__":Str))=K7:=by decide):PD X Ex (.Name x pos) (dC (.str cs)):=
 q9 (GA (v:=.str y) d e ⟨t,rfl⟩ f) λg j k O l H Q m i q=>post.here q i (by unfold Y2;rw[h])
def f_(f:Ow->D->D->R D)(ta tb:DE):DE:=λσ O=>(ta σ O).bnd λx O1=>(tb σ O1).bnd λy O2=>f O2 x y
def rD(X:Cx)(Ex:Nat->Hp->Prop)(r:R2)(f:Ow->D->D->R D):Prop:=∀(H:Hp)(XV μ:List ae)(O:Ow)(x y:D)(v w:V)(Q:VK),n6 X.K H XV μ O->Y2 X.K H XV μ x v->Y2 X.K H XV μ y w->qy Ex X.K H XV μ (f O x y) Q->r v w H Q
def Gu{r:R2}{f:Ow->D->D->R D}(h:rD X Ex r f)(XV μ:List ae)(σ:Sg)(O:Ow)(d:St)(H:Hp)(Q:VK)(e:n9 X.K H XV μ σ d)(g:n6 X.K H XV μ O)(q:qy Ex X.K H XV μ (f_ f ta tb σ O) Q):
  EC r (rd Ex X.K ta) (rd Ex X.K tb) d H Q:=
 rd.go e g q λx z v A B i C j k l=>rd.go i j l λy m w n o E p s t u=>h n XV o m x y v w Q s (k.ext p) t u
def zV(d:qm X (eM op) r)(h:rD X Ex r f)(e:PD X Ex a ta)(g:PD X Ex b tb):PD X Ex (.BinOp a op b pos) (f_ f ta tb):=
 q9 (Vm d e.out g.out) (Gu h)
def xn(d:qm X (cm op) r)(h:rD X Ex r f)(e:PD X Ex a ta)(g:PD X Ex b tb)(i:behindInMarks op b=K7):PD X Ex (.Compare a [op] [b] pos) (f_ f ta tb):=
 q9 (Zw d e.out g.out i) (Gu h)
def pA(t:DE):DT:=λσ O=>(t σ O).bnd λx O1=>match x with
 |.bl k=>.ok k O1
 |_=>.bad
def Q9(f:∀XV μ σ O e H Q,n9 X.K H XV μ σ e->n6 X.K H XV μ O->qy Ex X.K H XV μ (td σ O) Q->t e H Q)(XV μ:List ae)(σ:Sg)(O:Ow)(e:St)(H:Hp)(Q:Bool->Hp->Prop)
  (g:n9 X.K H XV μ σ e) (h:n6 X.K H XV μ O) (q:wO Ex X.K H XV μ (pA td σ O) Q):Nw t e H Q:=by
 refine f XV μ σ O e H _ g h ?_;refine post.bnd q λd i v j l x c r p=>?_;cases d with
 | bl k=>
  have r:v=.bl k:=by unfold Y2 at r;exact r
  exact⟨k,r,post.here p c rfl⟩
 |_=>exact aj p
def yk(d:qm X (cm op) r)(h:rD X Ex r f)(e:PD X Ex a ta)(g:PD X Ex b tb)(i:behindInMarks op b=K7):qF X Ex (.Compare a [op] [b] pos) (pA (f_ f ta tb)):=
 Gn (ZP d e.out g.out i) (Q9 (Gu h))
noncomputable def x8(O:Ow):D->R Bool
 |.non=>.ok K7 O
 |.bl b=>.ok b O
 |.int i=>.ok (i !=0) O
 |.str cs=>if cs.length<=4000000 then .ok (!cs.isEmpty) O else .bad
 |.lst ds=>.ok (!ds.isEmpty) O
 |.tup ds=>.ok (!ds.isEmpty) O
 | .own k=>match O[k]? with
  |some ds=>.ok (!ds.isEmpty) O
  |none=>.bad
 |.dct=>.bad
 |.exn _=>.bad
 |.tab _=>.bad
 |.map _ _=>.bad
 |.adr _=>.bad
def qo(t:DE):DT:=λσ O=>(t σ O).bnd λx O1=>x8 O1 x
def xv{n:Nat}(h:n<=4000000):n<=qN:=aM h 'u'
def KU{K:ai}{H:Hp}{XV μ:List ae}{ds:List D}{vs:List V}(h:n8 K H XV μ ds vs):(!ds.isEmpty) = !vs.isEmpty:=by have e:=h.length;cases ds<;>cases vs<;>simp_all
def YD(u:PD X Ex a ta)(w:∀f,isTrue a X.env f=(do let v <- f;standAt a.pos;holding [v] (truthy v))):qF X Ex a (qo ta):=
 Gn (zh4 u.out w) λg E F O G H Q y z q=>rd.go y z q λd i v j m I x c r p=>by
  cases d with
  |non=>unfold Y2 at r;subst r;exact⟨_,rfl,post.here p c rfl⟩
  |bl b=>unfold Y2 at r;subst r;exact⟨_,rfl,post.here p c rfl⟩
  |int b=>unfold Y2 at r;subst r;exact⟨_,rfl,post.here p c rfl⟩
  | str cs=>
   unfold Y2 at r;subst r;by_cases s:cs.length<=4000000
   ·have t:wO Ex X.K j g m (.ok (!cs.isEmpty) i) Q:=by
     have h:wO Ex X.K j g m (if cs.length<=4000000 then .ok (!cs.isEmpty) i else .bad) Q:=p;rw[qb s] at h;exact h
    refine⟨_,⟨?_,rfl⟩,?_⟩
    ·show cs.toArray.size<=_;rw[aH];exact xv s
    ·have e:(((⟨cs.toArray⟩:Str).length:Int) !=0) = !cs.isEmpty:=by
      show((cs.toArray.size:Int) !=0)=_;rw[aH];cases cs<;>simp[bne];lia
     rw[e];exact post.here t c rfl
   ·have h:wO Ex X.K j g m (if cs.length<=4000000 then .ok (!cs.isEmpty) i else .bad) Q:=p;rw[qq s] at h;exact aj h
  | lst n=>
   unfold Y2 at r;obtain⟨a,o,rfl,l,q⟩:=r;exact⟨_,.inl ⟨o,l.sq,rfl⟩,by rw[<- KU q];exact post.here p c rfl⟩
  | tup n=>
   unfold Y2 at r;obtain⟨a,o,rfl,l,q⟩:=r;exact⟨_,.inr (.inl ⟨o,l.sq,rfl⟩),by rw[<- KU q];exact post.here p c rfl⟩
  | own k=>
   unfold Y2 at r;obtain⟨a,rfl,A⟩:=r;obtain⟨n,o,B,C,D⟩:=c.at_ k a A;have t:wO Ex X.K j g m (.ok (!n.isEmpty) i) Q:=by
    have h:wO Ex X.K j g m (match i[k]? with|some n=>.ok (!n.isEmpty) i|none=>.bad) Q:=p;rw[B] at h;exact h
   exact⟨_,.inl ⟨o,.of C,rfl⟩,by rw[<- KU D];exact post.here t c rfl⟩
  |dct=>exact aj p
  |exn _=>exact aj p
  |tab _=>exact aj p
  |map _ _=>exact aj p
  |adr _=>exact aj p
noncomputable def fI(g:Int->Int->Option D):Ow->D->D->R D:=λO x y=>match x,y with
 | .int i,.int j=>match g i j with
  |some d=>.ok d O
  |none=>.bad
 |_,_=>.bad
def DU(h:∀i j d,g i j=KB d->C i j/\∀K H XV μ,Y2 K H XV μ d (gv i j)):rD X Ex (rI C gv) (fI g):=by
 intro H XV μ O x y v w Q c e f q;unfold fI at q;split at q
 ·rename_i i j;unfold Y2 at e f;subst e;subst f;split at q
  ·rename_i d k;obtain⟨l,m⟩:=h i j d k;exact⟨i,j,rfl,rfl,l,post.here q c (m _ _ _ _)⟩
  ·exact aj q
 ·exact aj q
def GO(h:∀i j d,g i j=KB d->∀K H XV μ,Y2 K H XV μ d (gv i j)):rD X Ex (vF gv) (fI g):=by
 intro H XV μ O x y v w Q c e f q;unfold fI at q;split at q
 ·rename_i i j;unfold Y2 at e f;subst e;subst f;split at q
  ·rename_i d k;exact⟨i,j,rfl,rfl,post.here q c (h i j d k _ _ _ _)⟩
  ·exact aj q
 ·exact aj q
def sN:Y2 K H XV μ (.int i) (.int i):=by unfold Y2;rfl
def tN{K H XV μ}{i:Bool}:Y2 K H XV μ (.bl i) (.bl i):=by unfold Y2;rfl
def GK:Y2 K H XV μ .non .non:=by unfold Y2;rfl
def JJ:Y2 K H XV μ (.str cs) (.str ⟨cs.toArray⟩):=by unfold Y2;rfl
def gB(p:Int->Int->Bool):Int->Int->Option D:=λi j=>KB (.bl (p i j))
def gI(p:Int->Int->Int):Int->Int->Option D:=λi j=>KB (.int (p i j))
def wJ:Int->Int->Option D:=gI λi j=>i-j
noncomputable def tS:Int->Int->Option D:=λi j=>if (-1000000000000000<i/\i<1000000000000000)\/(-1000000000000000<j/\j<1000000000000000) then KB (.int (i*j)) else KF
def wL:Int->Int->Option D:=λi j=>if 0<j/\j<1073741824 then KB (.int (i/j)) else KF
def tK:Int->Int->Option D:=λi j=>if 0<j then KB (.int (i%j)) else KF
def xf:Int->Int->Option D:=λi j=>if 0<=j/\j<=1000000/\i.natAbs<2 ^ 64 then KB (.int (i ^ j.toNat)) else KF
def B3:Int->Int->Option D:=λi j=>if 0<=j/\j<=1000000/\i.natAbs<2 ^ 64 then KB (.int (i*2 ^ j.toNat)) else KF
def YN:rD X Ex (vF λi j=>.int (i-j)) (fI wJ):=GO λi j d h _ _ _ _=>by cases h;exact sN
def Yo:rD X Ex (rI o7 λi j=>.int (i*j)) (fI tS):=DU λi j d h=>by
 unfold tS at h;split at h
 ·rename_i e;cases h;exact⟨e.imp (λz=>⟨by lia,by lia⟩) λz=>⟨by lia,by lia⟩,λ_ _ _ _=>sN⟩
 ·cases h
def X_:rD X Ex (rI M9 λi j=>.int (i/j)) (fI wL):=DU λi j d h=>by
 unfold wL at h;split at h
 ·rename_i e;cases h;exact⟨e,λ_ _ _ _=>sN⟩
 ·cases h
def X9:rD X Ex (rI (λ_ j=>0<j) λi j=>.int (i%j)) (fI tK):=DU λi j d h=>by
 unfold tK at h;split at h
 ·rename_i e;cases h;exact⟨e,λ_ _ _ _=>sN⟩
 ·cases h
def XZ:rD X Ex (rI F4 λi j=>.int (i ^ j.toNat)) (fI xf):=DU λi j d h=>by
 unfold xf at h;split at h
 ·rename_i e;cases h;exact⟨e,λ_ _ _ _=>sN⟩
 ·cases h
def Zs:rD X Ex (rI F4 λi j=>.int (i*2 ^ j.toNat)) (fI B3):=DU λi j d h=>by
 unfold B3 at h;split at h
 ·rename_i e;cases h;exact⟨e,λ_ _ _ _=>sN⟩
 ·cases h
def wZ:Ow->D->D->R D:=fI (gB λi j=>decide (i<j))
def FJ:Ow->D->D->R D:=fI (gB λi j=>decide (i<=j))
def BR:Ow->D->D->R D:=fI (gB λi j=>decide (j<=i))
def Jw:rD X Ex (vF λi j=>.bl (decide (i<j))) wZ:=GO λi j d h _ _ _ _=>by cases h;exact tN
def OJ:rD X Ex (vF λi j=>.bl (decide (i<=j))) FJ:=GO λi j d h _ _ _ _=>by cases h;exact tN
def OK:rD X Ex (vF λi j=>.bl (decide (j<=i))) BR:=GO λi j d h _ _ _ _=>by cases h;exact tN
noncomputable def AS:D->Bool
 |.non=>KM
 |_=>K7
def De:Ow->D->D->R D:=λO x y=>match y with
 |.non=>.ok (.bl (AS x)) O
 |_=>.bad
def yJ:Ow->D->D->R D:=λO x y=>match y with
 |.non=>.ok (.bl (!AS x)) O
 |_=>.bad
def PH(h:Y2 K H XV μ x v):decide (v=.non)=AS x:=by
 cases x with
 |non=>unfold Y2 at h;subst h;rfl
 |bl _=>unfold Y2 at h;subst h;rfl
 |int _=>unfold Y2 at h;subst h;rfl
 |str _=>unfold Y2 at h;subst h;rfl
 |lst _=>unfold Y2 at h;obtain⟨_,_,rfl,_⟩:=h;rfl
 |tup _=>unfold Y2 at h;obtain⟨_,_,rfl,_⟩:=h;rfl
 |own _=>unfold Y2 at h;obtain⟨_,rfl,_⟩:=h;rfl
 |dct=>unfold Y2 at h;obtain⟨_,rfl,_⟩:=h;rfl
 |exn _=>unfold Y2 at h;obtain⟨_,_,rfl,_⟩:=h;rfl
 |tab _=>unfold Y2 at h;obtain⟨rfl,_⟩:=h;rfl
 |map _ _=>unfold Y2 at h;obtain⟨_,_,rfl,_⟩:=h;rfl
 |adr _=>unfold Y2 at h;subst h;rfl
def Py:rD X Ex (λx y H Q=>y=.non/\Q (.bl (decide (x=.non))) H) De:=by
 intro H d f O x y v w Q c g e q;cases y with
 | non=>
  unfold Y2 at e;subst e;refine⟨rfl,?_⟩;rw[PH g];exact post.here (show qy Ex X.K H d f (.ok (.bl (AS x)) O) Q from q) c tN
 |_=>exact aj q
def Q8:rD X Ex (λx y H Q=>y=.non/\Q (.bl (!decide (x=.non))) H) yJ:=by
 intro H d f O x y v w Q c g e q;cases y with
 | non=>
  unfold Y2 at e;subst e;refine⟨rfl,?_⟩;rw[PH g];exact post.here (show qy Ex X.K H d f (.ok (.bl (!AS x)) O) Q from q) c tN
 |_=>exact aj q
def w9(t u:DE):DE:=λσ O=>(t σ O).bnd λx O1=>match x with
 |.bl KM=>u σ O1
 |.bl K7=>.ok (.bl K7) O1
 |_=>.bad
def C8(t u:DE):DE:=λσ O=>(t σ O).bnd λx O1=>match x with
 |.bl KM=>.ok (.bl KM) O1
 |.bl K7=>u σ O1
 |_=>.bad
def Dk(t:DE):DE:=λσ O=>(t σ O).bnd λx O1=>match x with
 |.bl b=>.ok (.bl (!b)) O1
 |_=>.bad
def tw(t u:DT):DT:=λσ O=>(t σ O).bnd λx O1=>if x=KM then u σ O1 else .ok K7 O1
def uG(t u:DT):DT:=λσ O=>(t σ O).bnd λx O1=>if x=KM then .ok KM O1 else u σ O1
def qQ(t:DT):DT:=λσ O=>(t σ O).bnd λx O1=>.ok (!x) O1
def zB(t:DT)(u v:DE):DE:=λσ O=>(t σ O).bnd λx O1=>if x=KM then u σ O1 else v σ O1
def VW(d:PD X Ex a ta):PD X Ex (.BoolOp op [a] pos) ta:=⟨V_ d.out⟩
def W6{e:List aT}(g:PD X Ex a ta)(h:PD X Ex (.BoolOp .And (b::e) pos) tb):PD X Ex (.BoolOp .And (a::b::e) pos) (w9 ta tb):=
 q9 (XN g.out h.out) λf s i O t H Q j l q=>rd.go j l q λd m v u n o x c r p=>by
  cases d with
  | bl k=>
   unfold Y2 at r;subst r;refine⟨k,rfl,?_⟩;cases k with
   |true=>rw[qb rfl];exact⟨f,n,i,m,o,c,p⟩
   |false=>rw[qq cf];exact post.here p c tN
  |_=>exact aj p
def VD{e:List aT}(g:PD X Ex a ta)(h:PD X Ex (.BoolOp .Or (b::e) pos) tb):PD X Ex (.BoolOp .Or (a::b::e) pos) (C8 ta tb):=
 q9 (Wg g.out h.out) λf s i O t H Q j l q=>rd.go j l q λd m v u n o x c r p=>by
  cases d with
  | bl k=>
   unfold Y2 at r;subst r;refine⟨k,rfl,?_⟩;cases k with
   |true=>rw[qb rfl];exact post.here p c tN
   |false=>rw[qq cf];exact⟨f,n,i,m,o,c,p⟩
  |_=>exact aj p
def Wn(e:PD X Ex a ta):PD X Ex (.UnaryOp .Not a pos) (Dk ta):=
 q9 (Wu e.out) λf i j O l H Q g h q=>rd.go g h q λd m v n o s x c r p=>by
  cases d with
  |bl k=>unfold Y2 at r;subst r;exact⟨k,rfl,post.here p c tN⟩
  |_=>exact aj p
structure vL(X:Cx)(Ex:Nat->Hp->Prop)(e:aT)(t:DT):Prop where
 out:PW X e (wc Ex X.K t)
def vL.pt(h:vL X Ex e t):qF X Ex e t:=⟨L2.PW.pt h.out⟩
def Ou{e:aT}{t:TT}{t':DT}(h:PW X e t)(f:∀XV μ σ O d H Q,n9 X.K H XV μ σ d->n6 X.K H XV μ O->wO Ex X.K H XV μ (t' σ O) Q->t d H Q):vL X Ex e t':=
 ⟨PW.imp h λd H Q ⟨XV,μ,σ,O,g,i,q⟩=>f XV μ σ O d H Q g i q⟩
def Zq{d:List aT}{tA f:DT}(g:qF X Ex a tA)(h:vL X Ex (.BoolOp .And (b::d) pos) f):vL X Ex (.BoolOp .And (a::b::d) pos) (tw tA f):=
 Ou (VR g.out h.out) λe r i O s H Q j l q=>wc.go j l q λk m t n o x c p=>by
  cases k with
  |true=>rw[qb rfl];exact⟨e,n,i,m,o,c,p⟩
  |false=>rw[qq cf];exact post.here p c rfl
def Ws{d:List aT}{tA f:DT}(g:qF X Ex a tA)(h:vL X Ex (.BoolOp .Or (b::d) pos) f):vL X Ex (.BoolOp .Or (a::b::d) pos) (uG tA f):=
 Ou (Vp g.out h.out) λe r i O s H Q j l q=>wc.go j l q λk m t n o x c p=>by
  cases k with
  |true=>rw[qb rfl];exact post.here p c rfl
  |false=>rw[qq cf];exact⟨e,n,i,m,o,c,p⟩
def zhe(d:qF X Ex a tA):vL X Ex (.BoolOp .And [a] pos) tA:=⟨ZD d.out⟩
def Yr(d:qF X Ex a tA):vL X Ex (.BoolOp .Or [a] pos) tA:=⟨Wp d.out⟩
def ZX{tA:DT}(d:qF X Ex a tA):qF X Ex (.UnaryOp .Not a pos) (qQ tA):=
 Gn (Wo d.out) λe h i O j H Q f g q=>wc.go f g q λk l m n o x c p=>post.here p c rfl
def zhy{tA:DT}(i:qF X Ex c tA)(j:PD X Ex a ta)(l:PD X Ex b tb):PD X Ex (.IfExp c a b pos) (zB tA ta tb):=
 q9 (zgg i.out j.out l.out) λd o e O r H Q m n q=>wc.go m n q λk f s g h x c p=>by
  cases k with
  |true=>rw[qb rfl];exact⟨d,g,e,f,h,c,p⟩
  |false=>rw[qq cf];exact⟨d,g,e,f,h,c,p⟩
noncomputable def JA(f g:Ow->D->D->R D)(ta tb tc:DE):DE:=λσ O=>(ta σ O).bnd λx O1=>(tb σ O1).bnd λy O2=>(f O2 x y).bnd λz O3=>match z with
 |.bl KM=>(tc σ O3).bnd λw O4=>g O4 y w
 |.bl K7=>.ok (.bl K7) O3
 |_=>.bad
def zgX{op e:CmpOp}{r i:R2}{f g:Ow->D->D->R D}(o:qm X (cm op) r)(h:rD X Ex r f)(s:qm X (cm e) i)(h':rD X Ex i g)(t:PD X Ex a ta)(A:PD X Ex b tb)(B:PD X Ex c tc)
  (C:lastMarks [op,e] [b,c]=K7:=by with_unfolding_all rfl):PD X Ex (.Compare a [op,e] [b,c] pos) (JA f g ta tb tc):=
 q9 (zha o s t.out A.out B.out C) λd μ σ O c_ H Q E F q=>rd.go E F q λx O1 v H1 g_ G x2 I J K=>rd.go G I K λy L w M N P S T j U=>
  h M d N L x y v w _ T (J.ext S) j (post.bnd U λz O3 u H3 zE l m n p=>by
   cases z with
   | bl k=>
    unfold Y2 at n;subst n;refine⟨k,rfl,?_⟩;cases k with
    |true=>rw[qb rfl];exact rd.go (P.ext l) m p λV W Y Z F0 e5 x5 c5 d5 q5=>h' Z d F0 W y V w Y Q c5 ((j.ext l).ext x5) d5 q5
    |false=>rw[qq cf];exact post.here p m tN
   |_=>exact aj p)
def d_:DA:=λ_ O=>.ok [] O
def b_(t:DE)(u:DA):DA:=λσ O=>(t σ O).bnd λx O1=>(u σ O1).bnd λxs O2=>.ok (x::xs) O2
def Yg:tJ X Ex [] d_:=N6 Gw λd f g O h H Q i e q=>post.here q e .nil
def zg2{d:List aT}{t:DA}(e:PD X Ex a ta)(f:tJ X Ex d t)(g:aV (a::d) X.env=(K7,eval a X.env)::aV d X.env:=by rfl):tJ X Ex (a::d) (b_ ta t):=
 N6 (DP e.out f.out g) λh u z O A H Q i j q=>rd.go i j q λx B v C D k E l m n=>uh.go k l n λy F w G I J o p r s=>post.here s p (.cons (m.ext o) r)
def tL(t:DA):DE:=λσ O=>(t σ O).bnd λxs O1=>if xs.length<=4000000 then .ok (.tup xs) O1 else .bad
def w_(t:DA):DE:=λσ O=>(t σ O).bnd λxs O1=>if xs.length<=4000000 then .ok (.lst xs) O1 else .bad
def wM(t:DA):DE:=λσ O=>(t σ O).bnd λxs O1=>if xs.length<=4000000 then .ok (.own O1.length) (O1++[xs]) else .bad
def post.iteN{α e:Type}{K:ai}{H:Hp}{XV μ:List ae}{d:Hp->List ae->α->e->Prop}{Q:e->Hp->Prop}{b:Bool}{r:R α}(h:post Ex K d H XV μ (if b=KM then .bad else r) Q):b=K7/\post Ex K d H XV μ r Q:=by
 cases b with
 |true=>exact aj h
 |false=>exact⟨rfl,h⟩
def post.ite{α f:Type}{K:ai}{H:Hp}{XV μ:List ae}{d:Hp->List ae->α->f->Prop}{Q:f->Hp->Prop}{c:Prop}[Decidable c]{r:R α}(h:post Ex K d H XV μ (if c then r else .bad) Q):c/\post Ex K d H XV μ r Q:=by
 by_cases e:c
 ·rw[qb e] at h;exact⟨e,h⟩
 ·rw[qq e] at h;exact aj h
def Wy(h:tJ X Ex es t):PD X Ex (.Tuple es x1 pos) (tL t):=
 q9 (Wt h.out) λi m n O o H Q j k q=>uh.go j k q λr s u v w x y f g d=>by
  obtain⟨l,d⟩:=post.ite d;exact⟨by rw[<- g.length];exact xv l,λp e=>post.ok d (.laid e) (f.laid e) (Y2.newT f e g)⟩
def Xj(h:tJ X Ex es t):PD X Ex (.List es pos) (w_ t):=
 q9 (Ob h.out) λi m n O o H Q j k q=>uh.go j k q λr s u v w x y f g d=>by
  obtain⟨l,d⟩:=post.ite d;exact⟨by rw[<- g.length];exact xv l,λp e=>post.ok d (.laid e) (f.laid e) (Y2.newL f e g)⟩
def Hu(h:μ.length=n):Y2 K H XV (μ++[p]) (.own n) (.ref p):=by unfold Y2;exact⟨p,rfl,by rw[<- h];simp⟩
def YX(h:tJ X Ex es t):PD X Ex (.List es pos) (wM t):=
 q9 (Ob h.out) λi m n O o H Q j k q=>uh.go j k q λr s u v w x y e f d=>by
  obtain⟨l,d⟩:=post.ite d;exact⟨by rw[<- f.length];exact xv l,λp g=>post.ok d (.cell g) (e.cell g f) (Hu e.len)⟩
end
inductive Src where
 |val (ds:List D)
 |own (k:Nat)
 |zip (a b:Src)
 deriving Inhabited
noncomputable def Src.get:Src->Ow->Nat->Option D
 |.val ds,_,i=>ds[i]?
 | .own k,O,i=>match O[k]? with
  |some ds=>ds[i]?
  |none=>KF
 | .zip a b,O,i=>match a.get O i,b.get O i with
  |some x,KB y=>KB (.tup [x,y])
  |_,_=>KF
noncomputable def Src.size:Src->Ow->Nat
 |.val ds,_=>ds.length
 | .own k,O=>match O[k]? with
  |some ds=>ds.length
  |none=>0
 |.zip a b,O=>min (a.size O) (b.size O)
abbrev DI:=Sg->Ow->R Src
def oi(K:ai)(J:It)(src:Src)(H:Hp)(XV μ:List ae):Prop:=∀hid' H' e_ O',Mv H XV μ H' hid' e_->n6 K H' hid' e_ O'->∀i,
 match src.get O' i with
 |some d=>J.go i H'/\∀x sU,J.yld i H' x sU->Ext H' e_ sU e_/\n6 K sU hid' e_ O'/\Y2 K sU hid' e_ d x
 |none=>J.stop i H'
noncomputable def rdI(Ex:Nat->Hp->Prop)(K:ai)(t:DI):TI:=λc_ H Rr=>∃XV μ σ O,n9 K H XV μ σ c_/\n6 K H XV μ O/\post Ex K (λH' e_ s J=>oi K J s H' XV e_) H XV μ (t σ O) Rr
structure sC(X:Cx)(Ex:Nat->Hp->Prop)(tg iter:aT)(t:DI):Prop where
 out:PI X tg iter (rdI Ex X.K t)
def oi.mv(h:oi K J src H XV μ)(e:Mv H XV μ H1 wx g_):oi K J src H1 wx g_:=
 λa b d f m c=>h a b d f (e.trans m) c
def oi.val(l:LstAt K H XV μ a vs)(q:n8 K H XV μ ds vs):oi K (IG K a) (.val ds) H XV μ:=by
 intro f k n o m c i;have b:=(l.mv m).sq;have h:=q.mv m;show match ds[i]? with|some d=>_|none=>_
 cases e:ds[i]? with
 | some d=>
  obtain⟨v,g,j⟩:=h.get e;refine⟨⟨vs,v,b,g⟩,λx p y=>?_⟩;obtain⟨rfl,y⟩:=y;have:=y vs b;rw[g] at this;cases this;exact⟨.refl,c,j⟩
 | none=>
  refine⟨vs,b,?_⟩;have:=aQ.mp e;rw[<- q.length];exact this
def oi.tup(l:TupAt K H XV μ a vs)(q:n8 K H XV μ ds vs):oi K (MR K a) (.val ds) H XV μ:=by
 intro f k n o m c i;have b:=(l.mv m).sq;have h:=q.mv m;show match ds[i]? with|some d=>_|none=>_
 cases e:ds[i]? with
 | some d=>
  obtain⟨v,g,j⟩:=h.get e;refine⟨⟨vs,v,b,g⟩,λx p y=>?_⟩;obtain⟨rfl,y⟩:=y;have:=y vs b;rw[g] at this;cases this;exact⟨.refl,c,j⟩
 | none=>
  refine⟨vs,b,?_⟩;have:=aQ.mp e;rw[<- q.length];exact this
def oi.own(h:μ[k]?=KB a):oi K (IG K a) (.own k) H XV μ:=by
 intro j o w p m c i;obtain⟨q,rfl⟩:=m.pre;have r:(μ++q)[k]?=KB a:=by rw[aJ (ar.mp h).1];exact h
 obtain⟨b,f,s,t,l⟩:=c.at_ k a r;have g:qz K o a f:=.of t;show match (match p[k]? with|some b=>b[i]?|none=>KF) with|some d=>_|none=>_
 rw[s];show match b[i]? with|some d=>_|none=>_
 cases e:b[i]? with
 | some d=>
  obtain⟨v,n,u⟩:=l.get e;refine⟨⟨f,v,g,n⟩,λx z y=>?_⟩;obtain⟨rfl,y⟩:=y;have:=y f g;rw[n] at this;cases this;exact⟨.refl,c,u⟩
 | none=>
  refine⟨f,g,?_⟩;have:=aQ.mp e;rw[<- l.length];exact this
def IE(x:Str):It:=⟨λi _=>i<x.cps.size,λi H v H'=>H'=H/\∃c,x.cps[i]?=KB c/\v=.str ⟨#[c]⟩,λi _=>x.cps.size<=i⟩
def oi.str{K:ai}{H:Hp}{XV μ:List ae}{cs:List Nat}:oi K (IE ⟨cs.toArray⟩) (.val (cs.map λc=>.str [c])) H XV μ:=by
 intro a h j k m c i;show match (cs.map λc=>D.str [c])[i]? with|some d=>_|none=>_
 rw[a8];cases e:cs[i]? with
 | some d=>
  have f:=(ar.mp e).1;refine⟨by show i<cs.toArray.size;simpa using f,λx l y=>?_⟩;obtain⟨rfl,z,g,rfl⟩:=y;have b:cs.toArray[i]?=KB z:=g;rw[kR,e] at b;cases b;refine⟨.refl,c,?_⟩;unfold Y2;rfl
 | none=>
  have:=aQ.mp e;show cs.toArray.size<=i;simpa using this
def oi.rng:oi K (IF lo n) (.val ((aA n).map λi=>.int (lo+(i:Nat)))) H XV μ:=by
 intro b e f g m c i;show match ((aA n).map λi=>D.int (lo+(i:Nat)))[i]? with|some d=>_|none=>_
 rw[a8];by_cases a:i<n
 ·rw[gc a];refine⟨a,λx h y=>?_⟩;obtain⟨rfl,rfl⟩:=y;exact⟨.refl,c,sN⟩
 ·rw[aQ.mpr (by simpa using a)];exact Nat.not_lt.mp a
def zgZ(x:Str)(t:Tok)(it:ae):wK P w K tg (IE x) [it] it (λi h=>h.IsStrIter it (strIterType x) x t i) where
 mem:=by simp
 obj:=λi h a b j=>by
  have e:b=it:=by simpa using j
  subst e;obtain⟨o,e,c,d⟩:=a;exact⟨o,e,λv z=>by rw[d] at z;cases z⟩
 keep:=λi h f a k=>by
  obtain⟨o,e,c,d⟩:=a;exact⟨o,k it 'k' o e,c,d⟩
 item:=by
  intro X G J L M i g s N H E I p a O;subst G J L;obtain⟨q,r,W,B,C,D⟩:=p it 'k';obtain⟨U,l⟩:∃c,x.cps[i]?=KB c:=⟨_,aU (show i<x.cps.size from O)⟩;have Q:∀(F:String),(["enumerate", "zip", "dict_itemiterator", "dict_reverseitemiterator", "odict_iterator", "itertools.zip_longest", "itertools.pairwise"].contains F=K7)->strIterType x=F->∀f,f.IsStrIter it F x t (i+1)->cS it s.heap f->
    ∃u,KB (lS ⟨#[U]⟩ s.toks)=KB u/\am (av X.prog X.w) X.A (letOwnedTupleGo tg (.ref it) u) (λ_ V=>∃y R,Inv X g N R V/\RelV y u/\(IE x).yld i H y R/\V.heap.IsStrIter it (strIterType x) x t (i+1)/\∀b∈[it],R b=KF) E { s with heap:=f,toks:=s.toks+1 }:=by
   intro F Y Z f m n;have I1:Inv X g N H { s with heap:=f,toks:=s.toks+1 }:=I.turned (t':=s.toks+1) (λb o j e=>(n.2 b j).trans e) q r B C D;obtain⟨o,e,c,d⟩:=id m;refine⟨_,rfl,Dq (s:={ s with heap:=f,toks:=s.toks+1 }) e c d Y ⟨.str ⟨#[U]⟩,H,I1,⟨_,rfl⟩,⟨rfl,_,l,rfl⟩,?_,λb j=>(p b j).1⟩⟩;rw[Z];exact m
  unfold strIterType at a Q ⊢;split at a
  ·rename_i S;exact wpAny_pyNext_ascii_item a l λf m n=>Q "str_ascii_iterator" 'u' (by rw[qb S]) f m n
  ·rename_i S;exact wpAny_pyNext_wide_item a l λf m n=>Q "str_iterator" 'u' (by rw[qq S]) f m n
 done:=by
  intro X G J L M i g s N H E I p a O;subst G J L;obtain⟨q,r,W,B,C,D⟩:=p it 'k';have l:x.cps[i]?=KF:=by
   have:x.cps.size<=i:=O;simp[this]
  unfold strIterType at a;split at a
  ·exact wpAny_pyNext_ascii_end (I.ok.hd M) a l λf T=>⟨rfl,I.turned (t':=s.toks) (λb o j e=>T b o j e) q r B C D⟩
  ·exact wpAny_pyNext_wide_end (I.ok.hd M) a l λf T=>⟨rfl,I.turned (t':=s.toks) (λb o j e=>T b o j e) q r B C D⟩
 self:=λ_ _ s _ _ a h=>by
  unfold strIterType at a;split at a
  ·exact wpAny_pyIter_striter_ascii a h
  ·exact wpAny_pyIter_striter_wide a h
section
variable{X:Cx}{Ex:Nat->Hp->Prop}{pos:Pos}{a b c tg:aT}{ta:DE}
noncomputable def NM(O:Ow):D->R Src
 |.lst ds=>.ok (.val ds) O
 |.tup ds=>.ok (.val ds) O
 |.str cs=>.ok (.val (cs.map λc=>.str [c])) O
 |.own k=>.ok (.own k) O
 |_=>.bad
def qg(t:DE):DI:=λσ O=>(t σ O).bnd λx O1=>NM O1 x
def Y8(G:PD X Ex a ta):sC X Ex tg a (qg ta):=by
 refine⟨?_⟩;rintro m s L H M I ⟨f,U,V,O,N,P,q⟩;refine pG (G.out m s L H _ I (rd.go N P q (Q1:=λv h=>∃f n w d,n6 X.K h f n w/\Y2 X.K h f n d v/\post Ex X.K (λQ R s J=>oi X.K J s Q f R) h f n (NM w d) M)
  λd w v h n W x c r p=>⟨f,n,w,d,c,r,p⟩)) λu g ⟨v,h,i,z,f,n,w,d,c,r,p⟩=>?_
 have j:∀(b:ae),b∈[g.heap.objs.size]->rE X m h b:=λb S=>by
  have e:b=g.heap.objs.size:=by simpa using S
  subst e;exact i.fpOk (aF _) (i.hok.fresh (aF _))
 cases d with
 | lst B=>
  unfold Y2 at r;obtain⟨a,C,rfl,l,q⟩:=r;cases z;obtain⟨A,D,y,E⟩:=i.list l.sq;refine fO y.isList ?_;exact⟨g.heap.objs.size,[g.heap.objs.size],_,_,h,rfl,i.kept (t':=g.toks) λb o e=>af _ e,Rw a _,⟨_,aC _ rfl,rfl,rfl⟩,j,post.here p c (.val l q)⟩
 | tup B=>
  unfold Y2 at r;obtain⟨a,C,rfl,l,q⟩:=r;cases z;obtain⟨A,D,y,E⟩:=i.tuple l.sq;refine jm (show g.heap.IsTuple a A.toArray from y) ?_;exact⟨g.heap.objs.size,[g.heap.objs.size],_,_,h,rfl,i.kept (t':=g.toks) λb o e=>af _ e,zcj a _,⟨_,aC _ rfl,rfl,rfl⟩,j,post.here p c (.tup l q)⟩
 | str cs=>
  unfold Y2 at r;subst r;obtain⟨t,rfl⟩:=z;refine wpAny_pyIter_strU ?_;exact⟨g.heap.objs.size,[g.heap.objs.size],_,_,h,rfl,i.kept (t':=g.toks) λb o e=>af _ e,zgZ ⟨cs.toArray⟩ t _,⟨_,aC _ rfl,rfl,rfl⟩,j,post.here p c .str⟩
 | own k=>
  unfold Y2 at r;obtain⟨a,rfl,F⟩:=r;cases z;obtain⟨B,C,Y,T,Z⟩:=c.at_ k a F;obtain⟨A,D,y,E⟩:=i.list (.of T);refine fO y.isList ?_;exact⟨g.heap.objs.size,[g.heap.objs.size],_,_,h,rfl,i.kept (t':=g.toks) λb o e=>af _ e,Rw a _,⟨_,aC _ rfl,rfl,rfl⟩,j,post.here p c (.own F)⟩
 |_=>exact aj p
noncomputable def OA(lo hi:Int):Src:=.val ((aA (hi-lo).toNat).map λi=>.int (lo+(i:Nat)))
def vp(t:DA):DI:=λσ O=>(t σ O).bnd λxs O1=>match xs with
 |[.int j]=>if -1000000<=j/\j<=1000000 then .ok (OA 0 j) O1 else .bad
 |_=>.bad
def PI.imp(h:PI X tg iter t)(f:∀σ H Q,t' σ H Q->t σ H Q):PI X tg iter t':=λd s σ H Q I q=>h d s σ H Q I (f σ H Q q)
def uf(h:n8 K H XV μ [d] vs):∃v,vs=[v]/\Y2 K H XV μ d v:=by unfold n8 at h;obtain⟨v,r,rfl,f,e⟩:=h;unfold n8 at e;subst e;exact⟨v,rfl,f⟩
def zU(h:n8 K H XV μ [d,e] vs):∃v w,vs=[v,w]/\Y2 K H XV μ d v/\Y2 K H XV μ e w:=by unfold n8 at h;obtain⟨v,r,rfl,f,g⟩:=h;obtain⟨w,rfl,i⟩:=uf g;exact⟨v,w,rfl,f,i⟩
def zcF(f:Gl X "range")(g:X.mg "range" = KF)(h:tJ X Ex [a] t)(i:aV [a] X.env=[(K7,eval a X.env)]:=by rfl):sC X Ex tg (.Call (.Name "range" p) [a] [] pos) (vp t):=
 sC.mk <| PI.imp (ze0 f g h.out i) λo H Q ⟨k,s,u,O,l,m,q⟩=>uh.go l m q λd w y z A B x c r p=>by
  split at p
  ·rename_i j;obtain⟨⟨C,D⟩,p⟩:=post.ite p;obtain⟨v,rfl,e⟩:=uf r;unfold Y2 at e;subst e;refine⟨j,rfl,by lia,by lia,?_⟩;have:=post.here p c (oi.rng (lo:=0) (n:=(j-0).toNat));simpa using this
  ·exact aj p
end
inductive RS where
 |nx (σ:Sg) (O:Ow)
 |rt (d:D) (O:Ow)
 |bk (σ:Sg) (O:Ow)
 |ct (σ:Sg) (O:Ow)
 |exc (c:Nat) (O:Ow)
 |bad
 deriving Inhabited
abbrev DS:=Sg->Ow->RS
def R.bnS{α:Type}(r:R α)(k:α->Ow->RS):RS:=match r with
 |.ok a O=>k a O
 |.exc c O=>.exc c O
 |.bad=>.bad
section
variable(Ex:Nat->Hp->Prop)(K:ai)
def og(H:Hp)(XV μ:List ae)(r:RS)(E:xZ):Prop:=match r with
 |.nx σ O=>∀c_ H' e_,Ext H μ H' e_->n9 K H' XV e_ σ c_->n6 K H' XV e_ O->E.nx c_ H'
 |.rt d O=>∀v H' e_,Ext H μ H' e_->n6 K H' XV e_ O->Y2 K H' XV e_ d v->E.rt v H'
 |.bk σ O=>∀c_ H' e_,Ext H μ H' e_->n9 K H' XV e_ σ c_->n6 K H' XV e_ O->E.bk c_ H'
 |.ct σ O=>∀c_ H' e_,Ext H μ H' e_->n9 K H' XV e_ σ c_->n6 K H' XV e_ O->E.ct c_ H'
 |.exc c O=>∀H' e_,Ext H μ H' e_->n6 K H' XV e_ O->Ex c H'
 |.bad=>False
def Lb(t:DS):TS:=λE c_ H=>∃XV μ σ O,n9 K H XV μ σ c_/\n6 K H XV μ O/\og Ex K H XV μ (t σ O) E
end
structure rK(X:Cx)(Ex:Nat->Hp->Prop)(st:eJ)(t:DS):Prop where
 out:PS X st (Lb Ex X.K t)
structure sV(X:Cx)(Ex:Nat->Hp->Prop)(st:List eJ)(t:DS):Prop where
 out:sJ X st (Lb Ex X.K t)
def PS.imp(h:PS X st t)(f:∀E σ H,t' E σ H->t E σ H):PS X st t':=λa s σ H D I q=>h a s σ H D I (f D σ H q)
def sJ.imp(h:sJ X st t)(f:∀E σ H,t' E σ H->t E σ H):sJ X st t':=λa s σ H D I q=>h a s σ H D I (f D σ H q)
section
variable{Ex:Nat->Hp->Prop}{K:ai}{H H1:Hp}{XV μ g_:List ae}
def og.ext{r:RS}{E:xZ}(h:og Ex K H XV μ r E)(e:Ext H μ H1 g_):og Ex K H1 XV g_ r E:=by
 cases r with
 |nx σ O=>exact λj f g i a b=>h j f g (e.trans i) a b
 |bk σ O=>exact λj f g i a b=>h j f g (e.trans i) a b
 |ct σ O=>exact λj f g i a b=>h j f g (e.trans i) a b
 |rt d O=>exact λv f g i a b=>h v f g (e.trans i) a b
 |exc c O=>exact λf g i a=>h f g (e.trans i) a
 |bad=>exact h
def og.bnS{α b:Type}{a:Hp->List ae->α->b->Prop}{r:R α}{k:α->Ow->RS}{E:xZ}{Q1:b->Hp->Prop}(h:og Ex K H XV μ (r.bnS k) E)
  (f:∀d O1 v H1 g_,Ext H μ H1 g_->n6 K H1 XV g_ O1->a H1 g_ d v->og Ex K H1 XV g_ (k d O1) E->Q1 v H1):post Ex K a H XV μ r Q1:=by
 cases r with
 |ok d O'=>exact λv g i e c q=>f d O' v g i e c q (og.ext (show og Ex K H XV μ (k d O') E from h) e)
 |exc c O'=>exact h
 |bad=>exact h
end
section
variable{X:Cx}{Ex:Nat->Hp->Prop}{pos:Pos}{a b c e tg:aT}{tb tc te:DE}
def xl{st:eJ}{t:TS}{t':DS}(h:PS X st t)(f:∀XV μ σ O E d H,n9 X.K H XV μ σ d->n6 X.K H XV μ O->og Ex X.K H XV μ (t' σ O) E->t E d H):rK X Ex st t':=
 ⟨PS.imp h λE d H ⟨XV,μ,σ,O,g,i,q⟩=>f XV μ σ O E d H g i q⟩
def JY(h:sJ X st t)(f:∀XV μ σ O E d H,n9 X.K H XV μ σ d->n6 X.K H XV μ O->og Ex X.K H XV μ (t' σ O) E->t E d H):sV X Ex st t':=
 ⟨sJ.imp h λE d H ⟨XV,μ,σ,O,g,i,q⟩=>f XV μ σ O E d H g i q⟩
def rd.goS{t:DE}{XV μ:List ae}{σ:Sg}{O:Ow}{i:St}{H:Hp}{Q1:VK}{k:D->Ow->RS}{E:xZ}(j:n9 X.K H XV μ σ i)(l:n6 X.K H XV μ O)
  (q:og Ex X.K H XV μ ((t σ O).bnS k) E)
  (f:∀d O1 v g h,n9 X.K g XV h σ i->Ext H μ g h->n6 X.K g XV h O1->Y2 X.K g XV h d v->og Ex X.K g XV h (k d O1) E->Q1 v g):rd Ex X.K t i H Q1:=
 ⟨XV,μ,σ,O,j,l,og.bnS q λd O1 v g h x c r p=>f d O1 v g h (j.ext x) x c r p⟩
def wc.goS{t:DT}{XV μ:List ae}{σ:Sg}{O:Ow}{i:St}{H:Hp}{Q1:Bool->Hp->Prop}{k:Bool->Ow->RS}{E:xZ}(j:n9 X.K H XV μ σ i)(l:n6 X.K H XV μ O)
  (q:og Ex X.K H XV μ ((t σ O).bnS k) E)
  (f:∀v O1 g h,n9 X.K g XV h σ i->Ext H μ g h->n6 X.K g XV h O1->og Ex X.K g XV h (k v O1) E->Q1 v g):wc Ex X.K t i H Q1:=
 ⟨XV,μ,σ,O,j,l,og.bnS q λd O1 v g h x c r p=>by
  have r:d=v:=r;subst r;exact f d O1 g h (j.ext x) x c p⟩
def pU:DS:=λσ O=>.nx σ O
def n_(t u:DS):DS:=λσ O=>match t σ O with
 |.nx σ' O'=>u σ' O'
 |r=>r
def zgv:sV X Ex [] pU:=JY ZW λd f j O E g H h i q=>q g H f .refl h i
def qJ{st:eJ}{f:List eJ}{t u:DS}(j:rK X Ex st t)(k:sV X Ex f u):sV X Ex (st::f) (n_ t u):=
 JY (D3 j.out k.out) λh l i O E r H m n q=>by
  refine⟨h,l,i,O,m,n,?_⟩;unfold n_ at q;cases g:t i O with
  | nx σ' O'=>
   rw[g] at q;exact λs v o p a b=>⟨h,o,σ',O',a,b,q.ext p⟩
  |rt d O'=>rw[g] at q;exact q
  |bk σ' O'=>rw[g] at q;exact q
  |ct σ' O'=>rw[g] at q;exact q
  |exc c O'=>rw[g] at q;exact q
  |bad=>rw[g] at q;exact q
def qk(d:rK X Ex st t):sV X Ex [st] t:=⟨P5 d.out⟩
def l_(t:DE):DS:=λσ O=>(t σ O).bnS λd O1=>.rt d O1
def YF(f:PD X Ex e te):rK X Ex (.Return (KB e) pos) (l_ te):=
 xl (WO f.out) λg l m O E n H h i q=>rd.goS h i q λd o v j k s x c r p=>p v j k .refl c r
def pS(c:DT)(t u:DS):DS:=λσ O=>(c σ O).bnS λb O1=>if b=KM then t σ O1 else u σ O1
def Xc{c:aT}{x y:List eJ}{tc:DT}{t u:DS}(j:qF X Ex c tc)(l:sV X Ex x t)(m:sV X Ex y u):rK X Ex (.If c x y pos) (pS tc t u):=
 xl (Vv j.out l.out m.out) λd r f O E s H n o q=>wc.goS n o q λk g v h i x c p=>by
  cases k with
  |true=>rw[qb rfl];exact⟨d,h,f,g,i,c,p⟩
  |false=>rw[qq cf];exact⟨d,h,f,g,i,c,p⟩
def B_:DS:=λ_ _=>.bad
def QB:sV X Ex st B_:=JY zfH λd f g O E h H i j q=>q
def rG(t:DE):DS:=λσ O=>(t σ O).bnS λ_ O1=>.nx σ O1
def zh6(f:PD X Ex e te)(g:swapsWith e KF pos.line X.env=pure K7:=by rfl):rK X Ex (.Expr e pos) (rG te):=
 xl (Pz f.out g) λh o s O E i H j k q=>rd.goS j k q λd t v l m n x c r p=>p i l m .refl n c
def pY(i:Nat)(t:DE):DS:=λσ O=>(t σ O).bnS λd O1=>.nx (σ.set i (KB d)) O1
def PN(f:X.N.Nodup)(g:X.N[i]?=KB x)(h:Loc X.env.scope x)(j:PD X Ex e te)(k:swapsWith e (KB (.Name x pos')) pos.line X.env=pure K7:=by rfl)
  (l:X.fn x=KM\/X.env.scope.names.lookup x=KB .local:=by first|exact .inl rfl|exact .inr rfl):rK X Ex (.Assign [.Name x pos'] e pos) (pY i te):=
 xl (Of f g h j.out k l) λm y z O E n H o s q=>rd.goS o s q λd A v t u w x c r p=>p (n.set i (KB v)) t u .refl (w.set r i) c
def Di(i j:Nat)(t:DA):DS:=λσ O=>(t σ O).bnS λds O1=>match ds with
 |[x,y]=>.nx ((σ.set i (KB x)).set j (KB y)) O1
 |_=>.bad
inductive Tg where
 |one (i:Nat)
 |two (i j:Nat)
noncomputable def Tg.put:Tg->D->Sg->Option Sg
 |.one i,d,σ=>KB (σ.set i (KB d))
 | .two i j,d,σ=>match d with
  |.tup [x,y]=>KB ((σ.set i (KB x)).set j (KB y))
  |_=>KF
def Tg.rd(K:ai):Tg->TG
 |.one i=>yf i
 |.two i j=>Nb K 2 (Ja (yf i) (Ja (yf j) Nh))
def Tg.slots:Tg->List Nat
 |.one i=>[i]
 |.two i j=>[i,j]
def Tg.ok2(g:Tg)(n:n9 K H XV μ σ c_)(q:Y2 K H XV μ d v)(h:g.put d σ=KB σ')
  (k:∀f,n9 K H XV μ σ' f->(∀i,i∉g.slots->f[i]?=c_[i]?)->Q f H):g.rd K v c_ H Q:=by
 cases g with
 | one i=>
  cases h;exact k _ (n.set q i) λj p=>bq (λe=>p (by simp[Tg.slots,e]))
 | two i j=>
  unfold Tg.put at h;dsimp only at h;split at h
  ·rename_i x y;cases h;unfold Y2 at q;obtain⟨a,t,rfl,l,q⟩:=q;obtain⟨u,w,rfl,r,s⟩:=zU q;refine⟨a,[u,w],rfl,l.sq,rfl,u,[w],rfl,w,[],rfl,rfl,k _ ((n.set r i).set s j) λm o=>?_⟩;rw[bq (λe=>o (by simp[Tg.slots,e])),bq (λe=>o (by simp[Tg.slots,e]))]
  ·cases h
def Tg.ok{K:ai}{H:Hp}{XV μ:List ae}{σ σ':Sg}{f:St}{d:D}{v:V}{Q:St->Hp->Prop}(g:Tg)(m:n9 K H XV μ σ f)(q:Y2 K H XV μ d v)(h:g.put d σ=KB σ')(k:∀n,n9 K H XV μ σ' n->Q n H):g.rd K v f H Q:=by
 cases g with
 |one i=>cases h;exact k _ (m.set q i)
 | two i j=>
  unfold Tg.put at h;dsimp only at h;split at h
  ·rename_i x y;cases h;unfold Y2 at q;obtain⟨a,r,rfl,l,q⟩:=q;obtain⟨u,w,rfl,o,p⟩:=zU q;exact⟨a,[u,w],rfl,l.sq,rfl,u,[w],rfl,w,[],rfl,rfl,k _ ((m.set o i).set p j)⟩
  ·cases h
def V5(d:X.N.Nodup)(f:X.N[i]?=KB x)(g:Loc X.env.scope x)(h:X.fn x=KM\/X.env.scope.names.lookup x=KB .local:=by first|exact .inl rfl|exact .inr rfl|assumption):PG X (.Name x pos) ((Tg.one i).rd X.K):=JN d f g h
noncomputable def qU(src:Src)(step:D->Sg->Ow->RS):Nat->Nat->Sg->Ow->RS
 | 0,i,σ,O=>match src.get O i with
  |none=>.nx σ O
  |some _=>.bad
 | f+1,i,σ,O=>match src.get O i with
  |none=>.nx σ O
  | some d=>match step d σ O with
   |.nx σ' O'=>qU src step f (i+1) σ' O'
   |.ct σ' O'=>qU src step f (i+1) σ' O'
   |.bk σ' O'=>.nx σ' O'
   |r=>r
def vU(it:DI)(g:Tg)(body:DS):DS:=λσ O=>(it σ O).bnS λsrc O1=>qU src (λd σ O=>match g.put d σ with|some σ'=>body σ' O|none=>.bad) (src.size O1) 0 σ O1
def Z0{u:aT}{body:List eJ}{it:DI}{g:Tg}{tb:DS}(hp:km (av X.prog X.w) X.A X.env X.xe)(hc:X.calm=KM)(hi:sC X Ex tg u it)(hg:PG X tg (g.rd X.K))(hb:sV X Ex body tb)
  (hs:∀x,bK u X.env x=pure x:=by intro _;rfl):rK X Ex (.For tg u body [] pos) (vU it g tb):=
 xl (Ox hp hc hi.out hg hb.out hs) λk μ Q O E c_ H Y c1 q=>by
  refine⟨k,μ,Q,O,Y,c1,og.bnS q λo O1 J Z S x1 c2 sa p=>?_⟩;generalize s9:(λ(d:D)(Q:Sg)(O:Ow)=>match g.put d Q with|some j=>tb j O|none=>RS.bad)=n at p;refine⟨λi m L t=>∃s j z,Ext Z S t s/\n9 X.K t k s j L/\n6 X.K t k s z/\og Ex X.K t k s (qU o n m i j z) E,⟨_,S,Q,O1,.refl,Y.ext x1,c2,p⟩,?_⟩;rintro i m vM M ⟨F,N,B,x2,T,U,C⟩;have R:=sa k M F B x2.mv U i;cases G:o.get B i with
  | none=>
   rw[G] at R;refine .inl ⟨R,?_⟩;cases m with
   | zero=>
    have l:og Ex X.K M k F (match o.get B i with|none=>.nx N B|some _=>.bad) E:=C;rw[G] at l;exact l vM M F .refl T U
   | succ f=>
    unfold qU at C;rw[G] at C;exact C vM M F .refl T U
  | some d=>
   rw[G] at R;obtain⟨go,yl⟩:=R;cases m with
   | zero=>
    have l:og Ex X.K M k F (match o.get B i with|none=>.nx N B|some _=>.bad) E:=C;rw[G] at l;exact aj l
   | succ f=>
    refine .inr ⟨go,λL t=>∃s j z,Ext Z S t s/\n9 X.K t k s j L/\n6 X.K t k s z/\og Ex X.K t k s (qU o n f (i+1) j z) E,λj t h=>⟨f,cC f,h⟩,λv H3 y=>?_⟩;obtain⟨V,c4,r⟩:=yl v H3 y;unfold qU at C;rw[G] at C;have l:og Ex X.K H3 k F (match n d N B with
     |.nx j z=>qU o n f (i+1) j z
     |.ct j z=>qU o n f (i+1) j z
     |.bk j z=>.nx j z
     |r=>r) E:=og.ext C V
    cases W:g.put d N with
    | none=>
     rw[<- s9] at l;simp only[W] at l;exact aj l
    | some rP=>
     refine Tg.ok g (T.ext V) r W λUO e3=>⟨k,F,rP,B,e3,c4,?_⟩;have H9:n d N B=tb rP B:=by rw[<- s9];simp only[W]
     rw[H9] at l;have x4:=x2.trans V;cases I:tb rP B with
     |nx FY O4=>rw[I] at l;exact λL t s P a b=>⟨s,FY,O4,x4.trans P,a,b,l.ext P⟩
     |ct FY O4=>rw[I] at l;exact λL t s P a b=>⟨s,FY,O4,x4.trans P,a,b,l.ext P⟩
     |bk FY O4=>rw[I] at l;exact l
     |rt d4 O4=>rw[I] at l;exact l
     |exc c4 O4=>rw[I] at l;exact l
     |bad=>rw[I] at l;exact l
end
structure Cl where
 it:DI
 g:Tg
 ifs:List DT
def pX:List Cl->List Nat
 |[]=>[]
 |c::cs=>c.g.slots++pX cs
def pO{α:Type}(σ:List (Option α)):List Nat->List (Option α)
 |[]=>σ
 |i::r=>pO (σ.set i KF) r
def sW:List DT->DT
 |[]=>λ_ O=>.ok KM O
 |c::cs=>λσ O=>(c σ O).bnd λb O1=>if b=KM then sW cs σ O1 else .ok K7 O1
noncomputable def qh(src:Src)(step:D->Ow->List D->R (List D)):Nat->Nat->Ow->List D->R (List D)
 | 0,i,O,K4=>match src.get O i with
  |none=>.ok K4 O
  |some _=>.bad
 | f+1,i,O,K4=>match src.get O i with
  |none=>.ok K4 O
  |some d=>(step d O K4).bnd λqE O'=>qh src step f (i+1) O' qE
def tW:List Cl->DE->Sg->Ow->List D->R (List D)
 |[],elt,σ,O,K4=>(elt σ O).bnd λv O1=>if K4.length<4000000 then .ok (K4++[v]) O1 else .bad
 | c::cs,elt,σ,O,K4=>(c.it σ O).bnd λsrc O1=>qh src (λd O2 K4=>match c.g.put d (pO σ (pX (c::cs))) with
   |some qA=>(sW c.ifs qA O2).bnd λb O3=>if b=KM then tW cs elt qA O3 K4 else .ok K4 O3
   |none=>.bad) (src.size O1) 0 O1 K4
def yc(c:Cl)(cs:List Cl)(elt:DE)(σ:Sg):D->Ow->List D->R (List D):=λd O2 K4=>match c.g.put d (pO σ (pX (c::cs))) with
   |some qA=>(sW c.ifs qA O2).bnd λb O3=>if b=KM then tW cs elt qA O3 K4 else .ok K4 O3
   |none=>.bad
abbrev Em:=Sg->Ow->List D->R (List D)
def zy(te:DE):Em:=λσ O K4=>(te σ O).bnd λv O1=>if K4.length<4000000 then .ok (K4++[v]) O1 else .bad
def sY:List Cl->Em->Sg->Ow->List D->R (List D)
 |[],em,σ,O,K4=>em σ O K4
 | c::cs,em,σ,O,K4=>(c.it σ O).bnd λsrc O1=>qh src (λd O2 K4=>match c.g.put d (pO σ (pX (c::cs))) with
   |some qA=>(sW c.ifs qA O2).bnd λb O3=>if b=KM then sY cs em qA O3 K4 else .ok K4 O3
   |none=>.bad) (src.size O1) 0 O1 K4
def tU(c:Cl)(cs:List Cl)(em:Em)(σ:Sg):D->Ow->List D->R (List D):=λd O2 K4=>match c.g.put d (pO σ (pX (c::cs))) with
   |some qA=>(sW c.ifs qA O2).bnd λb O3=>if b=KM then sY cs em qA O3 K4 else .ok K4 O3
   |none=>.bad
theorem P4(te:DE):∀a:List Cl,sY a (zy te)=tW a te
 |[]=>by funext σ O K4;unfold sY tW zy;rfl
 |c::cs=>by funext σ O K4;unfold sY tW;rw[P4 te cs]
def YG(c:Cl)(cs:List Cl)(te:DE):tU c cs (zy te)=yc c cs te:=by funext σ d O K4;unfold tU yc;rw[P4 te cs]
theorem DX{α:Type}:∀(l:List Nat)(σ:List (Option α)),(pO σ l).length=σ.length
 |[],_=>rfl
 |i::r,σ=>by unfold pO;rw[DX r];simp
theorem JU{α:Type}:∀(l:List Nat)(σ:List (Option α))(i:Nat),i∉l->(pO σ l)[i]?=σ[i]?
 |[],σ,i,h=>rfl
 | j::r,σ,i,h=>by
  unfold pO;rw[JU r _ i λz=>h (al _ z),bq λz=>h (by simp[z])]
theorem GG{α:Type}:∀(l:List Nat)(σ:List (Option α))(i:Nat)(d:α),(pO σ l)[i]?=KB (KB d)->σ[i]?=KB (KB d)/\i∉l
 |[],σ,i,d,h=>⟨h,by simp⟩
 | j::r,σ,i,d,h=>by
  unfold pO at h;obtain⟨a,b⟩:=GG r _ i d h;by_cases e:j=i
  ·subst e;by_cases c:j<σ.length
   ·rw[bw c] at a;cases a
   ·rw[aQ.mpr (by simp;lia)] at a;cases a
  ·rw[bq e] at a;exact⟨a,by simp[b];exact λz=>e z.symm⟩
structure Ea(A:ae)(H:Hp)(μ:List ae)(H':Hp)(e_:List ae):Prop where
 pre:∃ν,e_=μ++ν
 kept:∀b o,H b=KB o->b∉μ->b≠A->Ci o->H' b=KB o
 fresh:∀b∈e_,b∈μ\/H b=KF
 there:∀b,H b≠KF->H' b≠KF
 tab:∀P,oz H P->oz H' P
section
variable{K:ai}{A:ae}{H H' H1 H2:Hp}{XV μ e_ g_ pF:List ae}
def Ext.ea(e:Ext H μ H' e_):Ea A H μ H' e_:=⟨e.pre,λb o h n _ a=>e.kept b o h n a,e.fresh,e.there,e.tab⟩
def Ea.refl:Ea A H μ H μ:=Ext.refl.ea
def Ea.trans(a:Ea A H μ H1 g_)(b:Ea A H1 g_ H2 pF):Ea A H μ H2 pF:=by
 have i:∀c,H1 c=KF->H c=KF:=λc h=>by
  cases e:H c with
  |none=>rfl
  |some o=>exact absurd h (a.there c (by rw[e];simp))
 refine⟨?_,λc o h d f g=>?_,λc h=>?_,λc h=>b.there c (a.there c h),λP t=>b.tab P (a.tab P t)⟩
 ·obtain⟨x,rfl⟩:=a.pre;obtain⟨y,rfl⟩:=b.pre;exact⟨x++y,by simp⟩
 ·refine b.kept c o (a.kept c o h d f g) (λm=>?_) f g;rcases a.fresh c m with z|z
  ·exact d z
  ·rw[z] at h;cases h
 ·rcases b.fresh c h with z|z
  ·exact a.fresh c z
  ·exact .inr (i c z)
def Ea.mv(e:Ea A H μ H' e_):Mv H (A::XV) μ H' (A::XV) e_:=⟨e.pre,λb o h a c d=>e.kept b o h a (λz=>c (by simp[z])) d,e.fresh,λ_ m=>.inl m,e.there,e.tab⟩
def Ea.putX(a:∀P,oz H P->oz (upd H A o) P):Ea A H μ (upd H A o) μ:=⟨⟨[],by simp⟩,λb u h _ n _=>by rw[pI n];exact h,λ_ m=>.inl m,wR,a⟩
def n6.putX(c:n6 K H (A::XV) μ O)(b:∀P,oz H P->oz (upd H A o) P):n6 K (upd H A o) (A::XV) μ O:=by refine⟨c.len,c.nd,c.nh,λa m=>wR a (c.ht a m),λk a e=>?_⟩;obtain⟨d,f,g,h,i⟩:=c.at_ k a e;have j:a≠A:=λz=>c.nh a (aL e) (by simp[z]);exact⟨d,f,g,by rw[pI j];exact h,i.mv (Ea.putX (A:=A) b).mv⟩
def Ea.put{o:HO}(a:∃vs,H A=KB (.lst vs)):Ea A H μ (upd H A o) μ:=.putX λ_ t=>t.upd (.inr a)
def n6.putA{o:HO}{O:Ow}(c:n6 K H (A::XV) μ O)(a:∃vs,H A=KB (.lst vs)):n6 K (upd H A o) (A::XV) μ O:=c.putX λ_ t=>t.upd (.inr a)
def n6.unhide(c:n6 K H (A::XV) μ O):n6 K H XV μ O:=
 ⟨c.len,c.nd,λa m z=>c.nh a m (al _ z),λa m=>c.ht a (al _ m),λk a e=>
  let ⟨ds,vs,h1,h2,h3⟩:=c.at_ k a e
  ⟨ds,vs,h1,h2,h3.mv .unhide⟩⟩
end
abbrev qc:Nat->Hp->Prop:=λ_ _=>False
inductive oC(X:Cx):List bP->List Cl->Prop where
 |nil:oC X [] []
 | cons {tg iter:aT} {ifs:List aT} {gs:List bP} {c:Cl} {cs:List Cl} (hi:sC X qc tg iter c.it) (hs:∀x,bK iter X.env x=pure x) (hg:PG X tg (c.g.rd X.K))
   (hf:ck (λe t=>qF X qc e t) ifs c.ifs) (r:oC X gs cs):oC X (⟨tg,iter,ifs,0⟩::gs) (c::cs)
section
variable{X:Cx}
def yR{α:Type}{M:iP}{A:ba}{t:Sem α}{Q c:α->ag->Prop}{E:ab->ag->Prop}{s:ag}(d:X.xe=λ_ _=>False)(h:am M A t Q X.xe s)(k:∀a b,Q a b->c a b):am M A t c E s:=
 cG h k λe b z=>by rw[d] at z;exact z.elim
theorem SH{env:Env}{M:iP}{A:ba}{E:ab->ag->Prop}{s:ag}{Q:Bool->ag->Prop}(h:Q K7 s):∀(a:List aT),am M A (forIn a K7 λc r=>if r=KM then do let ok <- isTrue c env (eval c env);pure (gf ok) else pure (gf r)) Q E s
 |[]=>ah h
 | c::cs=>by
  simp only[gg,bi,if_false];exact aa (ah (SH h cs))
theorem Rg{E:ab->ag->Prop}{XV:List ae}(j:X.xe=λ_ _=>False):∀{a:List aT}{ts:List DT},ck (λe t=>qF X qc e t) a ts->∀(Y1:List (ae×Obj))(s:ag)(c_:St)(H:Hp)(μ:List ae)(σ:Sg)(O:Ow)(Q:Bool->ag->Prop),
  L2.Inv X Y1 c_ H s->n9 X.K H XV μ σ c_->n6 X.K H XV μ O->
  wO qc X.K H XV μ (sW ts σ O) (λb H'=>∀h,L2.Inv X Y1 c_ H' h->Q b h)->
  am (av X.prog X.w) X.A (forIn a KM λc r=>if r=KM then do let ok <- isTrue c X.env (eval c X.env);pure (gf ok) else pure (gf r)) Q E s
 |_,_,.nil,Y1,s,c_,H,μ,σ,O,Q,I,e1,c1,q=>ah (post.here (v:=KM) q c1 rfl s I)
 | _::a,_::ts,.cons hc hr,Y1,s,c_,H,μ,σ,O,Q,I,e1,c1,q=>by
  simp only[gg,if_true];refine aa (aa (yR j (hc.out Y1 s c_ H _ I (wc.go e1 c1 q (Q1:=λb g=>∃d f,n9 X.K g XV d σ c_/\n6 X.K g XV d f/\wO qc X.K g XV d (if b=KM then sW ts σ f else .ok K7 f) (λb H'=>∀h,L2.Inv X Y1 c_ H' h->Q b h))
   λb f g d i x c p=>⟨d,f,i,c,p⟩)) λb k ⟨g,l,d,f,i,m,p⟩=>ah ?_))
  show am _ _ (forIn a b _) _ _ _;cases b with
  |true=>rw[qb rfl] at p;exact Rg j hr Y1 k c_ g d σ f Q l i m p
  |false=>rw[qq cf] at p;exact SH (post.here (v:=K7) p m rfl k l) a
structure uS where
 ex:List bP->c8->Pos->aT
 emit:ab->Env->Sem Unit
 new:Sem ab
 ho:aN->aY->ae->HO
 G:ai->aN->aY->ae->List ae->Hp->List ae->List D->Prop
structure Bs(X:Cx)(C:uS)(A:ae)(XV:List ae)(Y1:List (ae×Obj))(s:ag)(c_:St)(H:Hp)(μ:List ae)(σ:Sg)(O:Ow)(K4:List D):Prop where
 inv:L2.Inv X Y1 c_ H s
 env:n9 X.K H (A::XV) μ σ c_
 cells:n6 X.K H (A::XV) μ O
 grown:C.G X.K X.prog X.w A XV H μ K4
def NQ(X:Cx)(C:uS)(A:ae)(XV:List ae)(Y1:List (ae×Obj))(c_:St)(H:Hp)(μ:List ae)(sl:List Nat)(K4:List D)(O:Ow)(Q:ag->Prop):Prop:=
 ∀s' pH H' e_,L2.Inv X Y1 pH H' s'->Ea A H μ H' e_->n6 X.K H' (A::XV) e_ O->C.G X.K X.prog X.w A XV H' e_ K4->pH.length=c_.length->(∀i,i∉sl->pH[i]?=c_[i]?)->Q s'
def xo(X:Cx)(C:uS)(A:ae)(XV:List ae)(Y1:List (ae×Obj))(c_:St)(H:Hp)(μ:List ae)(sl:List Nat)(r:R (List D))(Q:ag->Prop):Prop:=match r with
 |.ok K4 O=>NQ X C A XV Y1 c_ H μ sl K4 O Q
 |_=>False
noncomputable def yK(e:aT)(em:ab->Env->Sem Unit)(gens:List bP)(k:Nat)(K4:ab)(env:Env):Sem Unit:=match gens[k]? with
 | some g'=>do
  let x <- eval g'.iter env
  standAt g'.iter.pos
  let x <- if g'.is_async !=0 then foldedIterable g'.iter x else bK g'.iter env x
  let _ <- runOwn (.compStart e k (<- holding [x] (if g'.is_async !=0 then asyncIter x else pyIter x)) K4 env) env
 |none=>em K4 env
def XI(C:uS):Prop:=∀(gens:List bP)(scope:c8)(pos:Pos)(k:Nat)(it K4:ab)(env:Env){tg iter:aT}{ifs:List aT},gens[k]?=KB ⟨tg,iter,ifs,0⟩->
  (gens[k+1]?=KF \/ ∃Ap rS uy,gens[k+1]?=KB ⟨Ap,rS,uy,0⟩)->
  compTurn (C.ex gens scope pos) k it K4 env=(do
   standAt iter.pos
   match <- pyNext it with
   |none=>pure (.done .next)
   | some v=>
    letOwnedTupleGo tg it v
    assign tg env v
    let mut ok:=KM
    for c in ifs do
     if ok then ok <- isTrue c env (eval c env)
    if ok then yK (C.ex gens scope pos) C.emit gens (k+1) K4 env
    again (.compLoop (C.ex gens scope pos) k it K4 env))
structure zZ(C:uS):Prop where
 cl:∀gens scope pos,clausesOf (C.ex gens scope pos)=gens
 turn:XI C
 keep:∀{K P w A XV H μ K4 H' e_},C.G K P w A XV H μ K4->A∉μ->Ext H μ H' e_->C.G K P w A XV H' e_ K4
 new:∀{P:aN}{w:aY}{A:ba}{E:ab->ag->Prop}{Q:ab->ag->Prop}{s:ag},(∀o:Obj,o.isFreed=K7->(∀(H:Hp)(h:aX)(a:ae),sysModules<a->h.get? a=KB o->oy P w (upd H a (C.ho P w a)) h a (C.ho P w a))->Q (.ref s.heap.objs.size) { s with heap:=s.heap.push o })->am (av P w) A C.new Q E s
 g0:∀{K P w a XV H μ},C.G K P w a XV (upd H a (C.ho P w a)) μ []
 q1:∀gens scope pos k it K4 env,(lH (C.ex gens scope pos) k it K4 env).quiet=KM
 u1:∀(A:ba)gens scope pos k it K4 env,A.under (lH (C.ex gens scope pos) k it K4 env)=A
 d1:∀P w gens scope pos k it K4 env,(av P w).den (lH (C.ex gens scope pos) k it K4 env)=(compTurn (C.ex gens scope pos) k it K4 env).onRaise (λx=>do noteFrame x env;theTreesLotGoes x)
 u2:∀(A:ba)gens scope pos k it K4 env,A.under (ny (C.ex gens scope pos) k it K4 env)=A
 d2:∀P w gens scope pos k it K4 env,(av P w).den (ny (C.ex gens scope pos) k it K4 env)=(compStart (C.ex gens scope pos) k it K4 env).onRaise (λx=>do noteFrame x env;standAt theWindowsPlace)
def AR(elt:aT):uS where
 ex:=λgens scope pos=>.ListComp elt gens scope pos
 emit:=λK4 env=>do let _ <- call (.builtin "list.append") [K4,<- eval elt env]
 new:=newList []
 ho:=λ_ _ _=>.lst []
 G:=λK _ _ A XV H μ K4=>∃vs,H A=KB (.lst vs)/\n8 K H (A::XV) μ K4 vs
def Ki(c:aT):zZ (AR c) where
 cl:=λ_ _ _=>rfl
 turn:=λd b g k n i j t l o m f=>by
  show compTurn (.ListComp c d b g) k n i j=_;unfold compTurn yK;rcases f with f|⟨u,v,w,f⟩
  ·simp only[m,f];rfl
  ·simp only[m,f,bne_self_eq_false,bi,if_false,bind_assoc,pure_bind]
   first|rfl|congr 1
 keep:=λ⟨p,q,r⟩ s x=>⟨p,x.keep _ _ q s,r.ext x⟩
 new:=λh=>b9 (h _ rfl λH h a _ e=>⟨cn _,[],0,.nil,e⟩)
 g0:=⟨[],qP,.nil⟩
 q1:=λ_ _ _ _ _ _ _=>rfl
 u1:=λ_ _ _ _ _ _ _ _=>rfl
 d1:=λ_ _ _ _ _ _ _ _ _=>rfl
 u2:=λ_ _ _ _ _ _ _ _=>rfl
 d2:=λ_ _ _ _ _ _ _ _ _=>rfl
noncomputable def Tn(Z:St->Hp->List ae->Prop)(K:ai)(XV:List ae)(t:DE):TE:=λc_ H Q=>∃μ σ O,Z c_ H μ/\n9 K H XV μ σ c_/\n6 K H XV μ O/\qy qc K H XV μ (t σ O) Q
def PD.z{X:Cx}{Z:St->Hp->List ae->Prop}{XV:List ae}{e:aT}{t:DE}(h:PD X qc e t):PE X e (Tn Z X.K XV t):=λa s b H Q I ⟨c,d,O,_,f,g,q⟩=>h.out a s b H Q I ⟨XV,c,d,O,f,g,q⟩
section
variable{C:uS}{Z:St->Hp->List ae->Prop}{A:ae}{XV:List ae}{elt:aT}{gens:List bP}{scope:c8}{pos:Pos}{te:DE}{em:Em}
def yh(X:Cx)(Z:St->Hp->List ae->Prop)(C:uS)(A:ae)(XV:List ae)(e:aT)(gens:List bP)(em:Em)(k:Nat)(cls:List Cl):Prop:=∀(Y1:List (ae×Obj))(s:ag)(c_:St)(H:Hp)(μ:List ae)(σ:Sg)(O:Ow)(K4:List D)(Q:ag->Prop)(E:ab->ag->Prop),
 Z c_ H μ->Bs X C A XV Y1 s c_ H μ σ O K4->xo X C A XV Y1 c_ H μ (pX cls) (sY cls em σ O K4) Q->am (av X.prog X.w) X.A (yK e C.emit gens k (.ref A) X.env) (λ_ s'=>Q s') E s
def zhr{k:Nat}{e:aT}(t:X.xe=λ_ _=>False)(F:PE X elt (Tn Z X.K (A::XV) te))(G:gens[k]?=KF):yh X Z (AR elt) A XV e gens (zy te) k []:=by
 intro a s h H i w O b Q E z B q;unfold yK;rw[G];show am _ _ (do let _ <- call (.builtin "list.append") [.ref A,<- eval elt X.env]) _ _ s;obtain⟨o,I,J⟩:=B.grown;cases j:te w O with
 | ok d O1=>
  have l:xo X (AR elt) A XV a h H i (pX []) (if b.length<4000000 then .ok (b++[d]) O1 else .bad) Q:=by
   have:=q;unfold sY zy at this;rw[j] at this;exact this
  by_cases p:b.length<4000000
  ·rw[qb p] at l;refine aa (yR t (F a s h H (λv f=>∃g,Ext H i f g/\n6 X.K f (A::XV) g O1/\Y2 X.K f (A::XV) g d v) B.inv ⟨i,w,O,z,B.env,B.cells,by rw[j];exact λv V L x c r=>⟨L,x,c,r⟩⟩)
    λu M ⟨v,f,N,P,g,x,c,r⟩=>?_)
   have R:A∉i:=λm=>B.cells.nh A m 'k';have n:f A=KB (.lst o):=x.keep A _ I R;have y:=J.ext x;refine aa (yR t (RG a M h f (.ref A) [v] (.ref A) [u] (λ_ D=>D=upd f A (.lst (o++[v]))) N rfl (.cons P .nil)
    ⟨A,o,v,rfl,rfl,n,bb (by rw[<- y.length];exact p) 'u',rfl⟩) λW S ⟨Y,D,T,r2,U⟩=>?_)
   subst U;refine ah (l S h _ g T (x.ea.trans (.put ⟨_,n⟩)) (c.putA ⟨_,n⟩) ⟨_,qP,?_⟩ rfl λ_ _=>rfl);exact(y.append (.cons r .nil)).mv (Ea.put ⟨_,n⟩).mv
  ·rw[qq p] at l;exact l.elim
 | exc c O1=>
  unfold sY zy at q;rw[j] at q;exact q.elim
 | bad=>
  unfold sY zy at q;rw[j] at q;exact q.elim
def Qa(co:zZ C){k:Nat}{tg iter:aT}{ifs:List aT}{c:Cl}{cs:List Cl}(hx:X.xe=λ_ _=>False)(pv:X.calm=KM)(hk:gens[k]?=KB ⟨tg,iter,ifs,0⟩)(hg:PG X tg (c.g.rd X.K))(hf:ck (λe t=>qF X qc e t) ifs c.ifs)
  (hZ:∀(qA rV:St)U I H2 pF,Z qA U I->(∀j,j∉pX (c::cs)->rV[j]?=qA[j]?)->Ea A U I H2 pF->Z rV H2 pF) (y:yh X Z C A XV (C.ex gens scope pos) gens em (k+1) cs) (hn:gens[k+1]?=KF \/ ∃Ap rS uy,gens[k+1]?=KB ⟨Ap,rS,uy,0⟩) {it:ae} {fp:List ae} {tn:Nat->aX->Prop} {J:It} {src:Src} (T:wK X.prog X.w X.K tg J fp it tn)
  (a:List (ae×Obj)) (s:ag) (h:St) (H:Hp) (μ:List ae) (σ:Sg) (O:Ow) (K4:List D) (n:Nat) (Q:ag->Prop) (st:tn 0 s.heap) (xN:∀b∈fp,rE X a H b) (sa:oi X.K J src H (A::XV) μ)
  (z0:Z h H μ) (B:Bs X C A XV a s h H μ σ O K4) (q:xo X C A XV a h H μ (pX (c::cs)) (qh src (tU c cs em σ) n 0 O K4) Q):
  codeAny (av X.prog X.w) X.A (.compLoop (C.ex gens scope pos) k (.ref it) (.ref A) X.env) (λr V=>∃f,r=.ok f/\Q V) s:=by
 have u4:∀{l:Hp},(∀b∈fp,l b=KF)->∀b∈fp,rE X a l b:=λhn b y=>⟨hn b y,(xN b y).2⟩;let P:Nat->ag->Prop:=λm V=>∃i M l N p E,L2.Inv X a M l V/\tn i V.heap/\(∀b∈fp,l b=KF)/\Ea A H μ l N/\n6 X.K l (A::XV) N p/\C.G X.K X.prog X.w A XV l N E/\
  M.length=h.length/\(∀i,i∉pX (c::cs)->M[i]?=h[i]?)/\xo X C A XV a h H μ (pX (c::cs)) (qh src (tU c cs em σ) m i p E) Q
 refine codeAny_loop (co.q1 _ _ _ _ _ _ _) P (λm s1 hP=>?_) n ⟨0,h,H,μ,O,K4,B.inv,st,λb y=>(xN b y).1,.refl,B.cells,B.grown,rfl,λ_ _=>rfl,q⟩;rw[co.u1,co.d1];refine wpAny_noted ?_;rw[co.turn _ _ _ _ _ _ _ hk hn];obtain⟨i,vN,U,I,W,R,I1,qw,Ur,x1,c1,g1,l1,k1,L⟩:=hP;have HM:=sa (A::XV) U I W x1.mv c1 i
 -- the names that Tf
 have MH:n9 X.K U (A::XV) I (pO σ (pX (c::cs))) vN:=by
  refine⟨by rw[DX,B.env.len,l1],λj d hj=>?_⟩;obtain⟨h1,h2⟩:=GG _ _ _ _ hj;obtain⟨v,h3,h4⟩:=B.env.at_ j d h1;exact⟨v,by rw[k1 j h2];exact h3,h4.mv x1.mv⟩
 cases qH:src.get W i with
 | none=>
  rw[qH] at HM;have x:NQ X C A XV a h H μ (pX (c::cs)) R W Q:=by
   cases m with
   |zero=>unfold qh at L;rw[qH] at L;exact L
   |succ f=>unfold qh at L;rw[qH] at L;exact L
  refine aa (ez (aa (pG (T.done X rfl rfl rfl pv i a s1 vN U _ I1 (u4 Ur) qw HM) λr s2 ⟨hr,I2⟩=>?_)));subst hr;exact ah ⟨_,rfl,x s2 vN U I I2 x1 c1 g1 l1 k1⟩
 | some d=>
  rw[qH] at HM;obtain⟨go,yl⟩:=HM;cases m with
  | zero=>
   unfold qh at L;rw[qH] at L;exact L.elim
  | succ f=>
   have x:xo X C A XV a h H μ (pX (c::cs)) ((tU c cs em σ d W R).bnd λE p=>qh src (tU c cs em σ) f (i+1) p E) Q:=by
    have:=L;unfold qh at this;rw[qH] at this;exact this
   refine aa (ez (aa (pG (T.item X rfl rfl rfl pv i a s1 vN U _ I1 (u4 Ur) qw go) λr s2 ⟨u,hr,h2⟩=>?_)));subst hr;refine aa (pG h2 λ_ s3 ⟨v,H3,I3,r3,y3,pN,Ip⟩=>?_);obtain⟨x3,c3,d3⟩:=yl v H3 y3;have I3':=I3.pinned (u4 Ip) (T.obj _ _ pN);cases t7:c.g.put d (pO σ (pX (c::cs))) with
   | none=>
    unfold tU at x;rw[t7] at x;exact x.elim
   | some rP=>
    have E1:tU c cs em σ d W R=((sW c.ifs rP W).bnd λb O3=>if b=KM then sY cs em rP O3 R else .ok R O3):=by
     unfold tU;rw[t7]
    rw[E1] at x;refine aa (yR hx (hg _ s3 vN H3 v u (λY H4=>H4=H3/\n9 X.K H3 (A::XV) I rP Y/\∀j,j∉c.g.slots->Y[j]?=vN[j]?) I3' r3 (Tg.ok2 c.g (MH.ext x3) d3 t7 λY e4 k4=>⟨rfl,e4,k4⟩)) λ_ s4 ⟨Y,H4,I4,e4,FN,k4⟩=>?_);subst e4;have l4:Y.length=h.length:=by rw[I4.len,<- I3.len,l1]
    have Ls:∀j,j∉pX (c::cs)->Y[j]?=h[j]?:=λj hj=>by
     rw[k4 j λz=>hj (bV _ z)];exact k1 j hj
    have nA:A∉I:=λm=>c1.nh A m 'k';have x13:Ea A H μ H4 I:=x1.trans x3.ea;have g3:=co.keep g1 nA x3
    -- behind the step: the next turn
    have F:∀{V:ag}{M:St}{l:Hp}{N:List ae}{p:Ow}{E:List D},L2.Inv X (a++DH fp s3.heap) M l V->Ea A H μ l N->n6 X.K l (A::XV) N p->C.G X.K X.prog X.w A XV l N E->M.length=h.length->
      (∀i,i∉pX (c::cs)->M[i]?=h[i]?)->xo X C A XV a h H μ (pX (c::cs)) (qh src (tU c cs em σ) f (i+1) p E) Q->∃m,m<f+1/\P m V:=by
     intro V M l N p E I' x' c' g' l' k' p';refine⟨f,cC f,i+1,M,l,N,p,E,I'.unpinned,T.keep _ _ _ pN λb y o e=>(I'.pin (b,o) (ay _ (ay _ (G9 y e)))).1,λb y=>?_,x',c',g',l',k',p'⟩;obtain⟨o,e,d⟩:=T.obj _ _ pN b y;exact(I'.pin (b,o) (ay _ (ay _ (G9 y e)))).2.1
    cases sh:sW c.ifs rP W with
    |exc c' p=>rw[sh] at x;exact x.elim
    |bad=>rw[sh] at x;exact x.elim
    | ok b O3=>
     rw[sh] at x;have S:xo X C A XV a h H μ (pX (c::cs)) ((if b=KM then sY cs em rP O3 R else .ok R O3).bnd λE p=>qh src (tU c cs em σ) f (i+1) p E) Q:=x;refine aa (Rg (XV:=A::XV) hx hf _ s4 Y H4 I rP W _ I4 FN c3 ?_);rw[sh];intro b' H5 xW x5 c5 eb s5 I5;have eb:b=b':=eb;subst eb;have g5:=co.keep g3 nA x5;have K3:Ea A H μ H5 xW:=x13.trans x5.ea;cases b with
     | false=>
      rw[qq cf] at S;exact ah ⟨rfl,F I5 K3 c5 g5 l4 Ls S⟩
     | true=>
      rw[qb rfl] at S;refine aa (y _ s5 Y H5 xW rP O3 R _ _ (hZ _ _ _ _ _ _ z0 Ls K3) ⟨I5,FN.ext x5,c5,g5⟩ ?_);cases qK:sY cs em rP O3 R with
      |exc c' p=>rw[qK] at S;exact S.elim
      |bad=>rw[qK] at S;exact S.elim
      | ok acc6 O6=>
       rw[qK] at S;intro s6 UN H6 FZ I6 x6 c6 g6 l6 k6;refine ah ⟨rfl,F I6 (K3.trans x6) c6 g6 (l6.trans l4) (λj hj=>?_) S⟩;rw[k6 j λz=>hj (ay _ z)];exact Ls j hj
end
end
section
variable{X:Cx}{Z:St->Hp->List ae->Prop}{C:uS}{A:ae}{XV:List ae}{gens:List bP}{scope:c8}{pos:Pos}{em:Em}
def Qs(a:zZ C)(b:gens[k]?=KB ⟨tg,iter,ifs,0⟩)(T:wK X.prog X.w X.K tg J fp it tn)(i:Nat)(st:tn i s.heap)
  (h:codeAny (av X.prog X.w) X.A (.compLoop (C.ex gens scope pos) k (.ref it) K4 env) P s):
  codeAny (av X.prog X.w) X.A (.compStart (C.ex gens scope pos) k (.ref it) K4 env) P s:=by
 refine codeAny_of_tree ?_;rw[a.u2,a.d2];refine wpAny_notedAt ?_;unfold compStart;have c:clausesOf (C.ex gens scope pos)=gens:=a.cl _ _ _;simp only[c,b,Option.elim,bne_self_eq_false,bi,if_false];refine aa (fi (wpAny_ite ?_));split
 ·exact ah (fz (a.q1 _ _ _ _ _ _ _) h)
 ·refine aa (c9 ?_);exact aa (ez (aa (T.self _ i s _ _ st (ah (fz (a.q1 _ _ _ _ _ _ _) h)))))
def O7(w:zZ C)(y:X.xe=λ_ _=>False)(V:X.calm=KM){sl:List Nat}(M:∀(D F:St)d b o p,Z D d b->(∀j,j∉sl->F[j]?=D[j]?)->Ea A d b o p->Z F o p)(W:∀k,gens[k]?=KF->yh X Z C A XV (C.ex gens scope pos) gens em k []):∀{i:List bP}{l:List Cl},oC X i l->(∀j∈pX l,j∈sl)->∀k,gens.drop k=i->yh X Z C A XV (C.ex gens scope pos) gens em k l
 | _,_,.nil,_,k,hd=>W k (by
   have:=congrArg kC hd;simp at this;exact aQ.mpr 'd')
 | ⟨tg,iter,ifs,_⟩::gs,c::cs,.cons hi hs hg hf r,H8,k,hd=>by
  have N:gens[k]?=KB ⟨tg,iter,ifs,0⟩:=by
   have:(gens.drop k)[0]?=KB ⟨tg,iter,ifs,0⟩:=by rw[hd];rfl
   simpa using this
  have Y:gens.drop (k+1)=gs:=by
   have:=congrArg (List.drop 1) hd;simpa [eF,l5] using this
  have hb:=O7 w y V M W r (λj m=>H8 j (ay _ m)) (k+1) Y;have hn:gens[k+1]?=KF \/ ∃Ap rS uy,gens[k+1]?=KB ⟨Ap,rS,uy,0⟩:=by
   have e:gens[k+1]?=gs[0]?:=by rw[<- Y];simp
   cases r with
   |nil=>exact .inl (by rw[e];rfl)
   |cons _ _ _ _ _=>exact .inr ⟨_,_,_,by rw[e];rfl⟩
  intro a s P H G u O n Q E z B q;unfold yK;rw[N];simp only[bne_self_eq_false,bi,if_false];cases g:c.it u O with
  |exc R O'=>unfold sY at q;rw[g] at q;exact q.elim
  |bad=>unfold sY at q;rw[g] at q;exact q.elim
  | ok src O1=>
   have t:xo X C A XV a P H G (pX (c::cs)) (qh src (tU c cs em u) (src.size O1) 0 O1 n) Q:=by
    have:=q;unfold sY at this;rw[g] at this;exact this
   refine aa (yR y (hi.out a s P H (λJ d=>∃b,Ext H G d b/\n6 X.K d (A::XV) b O1/\oi X.K J src d (A::XV) b) B.inv ⟨A::XV,G,u,O,B.env,B.cells,by rw[g];exact λJ d b x c S=>⟨b,x,c,S⟩⟩) λv s1 h1=>?_);refine aa (ez ?_);refine aa (ji (hs v) ?_);refine aa (bz (yR y h1 λEZ s2 h2=>?_));obtain⟨it,fp,tn,J,o,e,I2,T,p9,f2,p,I,c2,S⟩:=h2;subst e;refine aa (wpAny_runOwn (h:=KF) ?_);show codeAny _ X.A _ _ _;have nA:A∉G:=λm=>B.cells.nh A m 'k';refine Qs w N T 0 p9 ?_;refine gq (Qa w (A:=A) (XV:=XV) (em:=em) (c:=c) (cs:=cs) y V N hg hf (λD F d b o p z1 k1 x1=>M D F d b o p z1 (λj hj=>k1 j λm=>hj (H8 j m)) x1) hb hn T a s2 P o p u O1 n (src.size O1) (λL=>Q L) p9 f2 S (M _ _ _ _ _ _ z (λ_ _=>rfl) I.ea) ⟨I2,B.env.ext I,c2,w.keep B.grown nA I⟩ ?_) λr L hr=>?_
   ·cases U:qh src (tU c cs em u) (src.size O1) 0 O1 n with
    |exc R O'=>rw[U] at t;exact t.elim
    |bad=>rw[U] at t;exact t.elim
    | ok qE O'=>
     rw[U] at t;exact λL pH H' e_ I' x' R g' l' k'=>t L pH H' e_ I' (I.ea.trans x') R g' l' k'
   ·obtain⟨f,rfl,hq⟩:=hr;exact ah hq
end
def p_(X:Cx)(N':List Str)(scope:c8)(cells:List (Str×ae))(C:ae)(s:ag)(H:Hp)(fp:List ae):Cx:=
 { X with
  N:=N',s₀:=s,H₀:=H
  env:={ scope:=relabel scope X.env,locals:=C,globals:=X.env.globals,cells:=cells,qual:=X.env.qual,func:=KF,code:=X.env.code,frame:=X.env.frame,builtins:=X.env.builtins }
  outer:=X.stack,ex:=fp,fn:=λx=>scope.names.lookup x==KB .cell,pn:=[],xe:=λ_ _=>False }
structure vf(sc scope:c8)(N':List Str)(sl:List Nat):Prop where
 kind:scope.kind=.function
 nd:(scope.names.map (·.1)).Nodup
 frees:∀y∈scope.names,y.2=.free->sc.names.lookup y.1=KB .cell\/sc.names.lookup y.1=KB .free
 own:∀(i:Nat)x,N'[i]?=KB x->(x,NameKind.local)∈scope.names\/(x,dP)∈scope.names->i∈sl
theorem yp{a:Type}:∀{l:List (Str×a)}{x:Str}{b:a},(l.map (·.1)).Nodup->(x,b)∈l->l.lookup x=KB b
 |[],_,_,_,h=>by cases h
 | (y,c)::r,x,b,nd,h=>by
  obtain⟨d,f⟩:=bG.mp nd;rcases aq.mp h with e|h
  ·cases e;simp[eE]
  ·have g:x≠y:=λe=>d (aB.mpr ⟨(x,b),h,e⟩);rw[eE];have:(x==y)=K7:=by simpa using g
   rw[this];exact yp f h
theorem KW(env:Env)(x:Str):∀(names:List (Str×dr)),(names.map λ(n,k)=>if (k==dk&&env.scope.kind == .function&&env.kindOf n==KB .cell) then (n,dP) else (n,k)).lookup x =
  (names.lookup x).map λk=>if (k==dk&&env.scope.kind == .function&&env.kindOf x==KB .cell) then dP else k
 |[]=>rfl
 | (n,k)::r=>by
  show List.lookup x ((if (k==dk&&env.scope.kind == .function&&env.kindOf n==KB .cell)=KM then (n,dP) else (n,k))::_)=_;cases a:x==n with
  | true=>
   have e:x=n:=by simpa using a
   subst e;simp only[eE,a,gX];split
   ·rename_i h;simp[eE,h]
   ·rename_i h;simp[eE,h]
  | false=>
   have b:=KW env x r;simp only[eE,a];rw[<- b];split<;>simp only[eE,a]
def SE(h:uE (relabel scope env) x):(x,NameKind.local)∈scope.names\/(x,dP)∈scope.names\/(x,dk)∈scope.names:=by
 unfold uE relabel at h;simp only[KW] at h;cases e:scope.names.lookup x with
 |none=>rw[e] at h;simp at h
 | some k=>
  have m:=bQ e;cases k with
  | «local»=>exact .inl m
  |cell=>exact .inr (.inl m)
  |free=>exact .inr (.inr m)
  |_=>rw[e] at h;simp at h
noncomputable def q_(cells:List (Str×ae)):List (Str×dr)->List (Str×ae)->List (Str×ae)
 |[],K4=>K4
 |(n,k)::r,K4=>if k == .free then q_ cells r ((n,(cells.lookup n).getD 0)::K4) else q_ cells r K4
def SX(h:∀y∈scope.names,y.2=.free->∃c,env.cells.lookup y.1=KB c):closureFor scope env=pure (q_ env.cells scope.names []):=by
 have f:∀(b:List (Str×dr))(d:List (Str×ae)),(∀y∈b,y.2=.free->∃c,env.cells.lookup y.1=KB c)->
   (forIn b d λ(x:Str×dr)(e:List (Str×ae))=>(if x.2 == .free then (do let a <- cellOf env x.1;pure (gf ((x.1,a)::e))) else pure (gf e):Sem _))=pure (q_ env.cells b d):=by
  intro b
  induction b with
  |nil=>intro d _;rfl
  | cons y r ih=>
   intro d g;obtain⟨n,k⟩:=y;rw[gg];unfold q_;by_cases i:(k==dk)=KM
   ·obtain⟨c,l⟩:=g (n,k) au (by simpa using i);have o:cellOf env n=pure c:=by unfold cellOf;rw[l]
    simp only[i,if_true,o,pure_bind,l,Option.getD_some];exact ih _ λy j=>g y (al _ j)
   ·simp only[i,if_false,pure_bind,bi];exact ih _ λy j=>g y (al _ j)
 have:=f scope.names [] h;unfold closureFor;refine Eq.trans ?_ (congrArg (λm=>m >>= λe=>pure e) this);congr 1
theorem G3:∀(names:List (Str×dr))(K4:List (Str×ae)),(x,c)∈q_ cells names K4->(x,c)∈K4\/((x,dk)∈names/\c=(cells.lookup x).getD 0)
 |[],K4,h=>.inl h
 | (n,k)::r,K4,h=>by
  unfold q_ at h;by_cases a:(k==dk)=KM
  ·rw[qb a] at h;rcases G3 r _ h with m|⟨m,e⟩
   ·rcases aq.mp m with m|m
    ·cases m;have:k=.free:=by simpa using a
     subst this;exact .inr ⟨au,rfl⟩
    ·exact .inl m
   ·exact .inr ⟨al _ m,e⟩
  ·rw[qq a] at h;rcases G3 r _ h with m|⟨m,e⟩
   ·exact .inl m
   ·exact .inr ⟨al _ m,e⟩
theorem KQ:∀(names:List (Str×dr))(K4:List (Str×ae)),p∈K4->p∈q_ cells names K4
 |[],K4,h=>h
 | (n,k)::r,K4,h=>by
  unfold q_;split
  ·exact KQ r _ (al _ h)
  ·exact KQ r _ h
theorem G6:∀(names:List (Str×dr))(K4:List (Str×ae)),(x,dk)∈names->(x,(cells.lookup x).getD 0)∈q_ cells names K4
 | (n,k)::r,K4,h=>by
  unfold q_;rcases aq.mp h with e|h
  ·cases e;rw[qb 'u'];exact KQ r _ au
  ·split
   ·exact G6 r _ h
   ·exact G6 r _ h
theorem Jy:∀(names:List (Str×dr))(n:Nat)(K4:List (Str×ae)),(x,c)∈cE n names K4->(x,c)∈K4\/((x,dP)∈names/\n<=c)
 |[],n,K4,h=>.inl h
 | (y,k)::r,n,K4,h=>by
  unfold cE at h;by_cases a:(k==dP)=KM
  ·rw[qb a] at h;rcases Jy r _ _ h with m|⟨m,e⟩
   ·rcases aq.mp m with m|m
    ·cases m;have:k=.cell:=by simpa using a
     subst this;exact .inr ⟨au,aF _⟩
    ·exact .inl m
   ·exact .inr ⟨al _ m,mw e⟩
  ·rw[qq a] at h;rcases Jy r _ _ h with m|⟨m,e⟩
   ·exact .inl m
   ·exact .inr ⟨al _ m,e⟩
theorem Jz:∀(names:List (Str×dr))(n:Nat)(K4:List (Str×ae)),p∈K4->p∈cE n names K4
 |[],_,_,h=>h
 | (y,k)::r,n,K4,h=>by
  unfold cE;split
  ·exact Jz r _ _ (al _ h)
  ·exact Jz r _ _ h
theorem J_:∀(names:List (Str×dr))(n:Nat)(K4:List (Str×ae)),(K4.Pairwise λx y=>x.2≠y.2)->(∀p∈K4,p.2<n)->(cE n names K4).Pairwise λx y=>x.2≠y.2
 |[],_,_,h,_=>h
 | (y,k)::r,n,K4,h,hl=>by
  unfold cE;split
  ·refine J_ r (n+1) _ (bT.mpr ⟨λp hp=>?_,h⟩) λp hp=>?_
   ·exact λe=>absurd (hl p hp) (by show ¬ p.2<n;rw[<- e];exact bN _)
   ·rcases aq.mp hp with rfl|hp
    ·exact cC _
    ·exact dR (hl p hp)
  ·exact J_ r n K4 h hl
theorem Ka:∀(names:List (Str×dr))(n:Nat)(K4:List (Str×ae)),((names.map (·.1)).Nodup)->(K4.map (·.1)).Nodup->(∀p∈K4,∀k,(p.1,k)∈names->k≠dP)->((cE n names K4).map (·.1)).Nodup
 |[],_,_,_,h,_=>h
 | (y,k)::r,n,K4,nd,h,hl=>by
  obtain⟨f,d⟩:=bG.mp nd;unfold cE;by_cases c:(k==dP)=KM
  ·rw[qb c];have g:k=.cell:=by simpa using c
   refine Ka r (n+1) _ d (bG.mpr ⟨λm=>?_,h⟩) λp hp a b=>?_
   ·obtain⟨p,hp,e⟩:=aB.mp m;exact hl p hp k (by rw[e];exact au) g
   ·rcases aq.mp hp with rfl|hp
    ·exact absurd (aB.mpr ⟨(y,a),b,rfl⟩) f
    ·exact hl p hp a (al _ b)
  ·rw[qq c];exact Ka r n K4 d h λp hp a b=>hl p hp a (al _ b)
theorem He:∀(names:List (Str×dr))(K4:List (Str×ae)),((names.map (·.1)).Nodup)->(K4.map (·.1)).Nodup->(∀p∈K4,p.1∉names.map (·.1))->((q_ cells names K4).map (·.1)).Nodup
 |[],_,_,h,_=>h
 | (y,k)::r,K4,nd,h,hl=>by
  obtain⟨b,a⟩:=bG.mp nd;unfold q_;split
  ·refine He r _ a (bG.mpr ⟨λm=>?_,h⟩) λp hp=>?_
   ·obtain⟨p,hp,e⟩:=aB.mp m;exact hl p hp (by rw[e];simp)
   ·rcases aq.mp hp with rfl|hp
    ·exact b
    ·exact λm=>hl p hp (al _ m)
  ·exact He r K4 a h λp hp m=>hl p hp (al _ m)
theorem JX:∀(names:List (Str×dr))(h:aX)(K4:List (Str×ae)),(x,c)∈cE h.objs.size names K4->(x,c)∈K4\/(l7 h names).IsCell c KF
 |[],_,_,m=>.inl m
 | (y,k)::r,h,K4,m=>by
  unfold cE at m;unfold l7;by_cases a:(k==dP)=KM
  ·rw[qb a] at m ⊢;have e:h.objs.size+1=(h.push { cls:=.type "cell",data:=.cell KF }).objs.size:=(cu ..).symm;rw[e] at m;rcases JX r _ _ m with m|m
   ·rcases aq.mp m with m|m
    ·cases m;exact .inr ⟨_,iU _ _ _ _ (aC _ rfl),rfl⟩
    ·exact .inl m
   ·exact .inr m
  ·rw[qq a] at m ⊢;exact JX r _ _ m
def z8s{l:List (Str×ae)}(d:(l.map (·.1)).Nodup)(inj:∀p∈l,∀q∈l,p.2=q.2->p.1=q.1):l.Pairwise λx y=>x.2≠y.2:=by
 induction l with
 |nil=>exact .nil
 | cons p r ih=>
  obtain⟨f,g⟩:=bG.mp d;refine bT.mpr ⟨λq c e=>f ?_,ih g λa h b i=>inj a (al _ h) b (al _ i)⟩;exact aB.mpr ⟨q,c,(inj p au q (al _ c) e).symm⟩
abbrev Dz:Obj:={ cls:=.type "dict",data:=.dict #[] }
section
variable{X:Cx}{Y1:List (ae×Obj)}{c_:St}{H:Hp}{s:ag}
abbrev Ge(ob:Obj)(h:aX)(names:List (Str×dr)):aX:=l7 ((h.push ob).push Dz) names
def SK(ob:Obj)(h:aX)(a:List (Str×dr))(b:ae)(o:Obj)(e:h.get? b=KB o):(Ge ob h a).get? b=KB o:=iU _ _ _ _ (af _ (af _ e))
def VO(ob:Obj)(h:aX):((h.push ob).push Dz).objs.size=h.objs.size+2:=by rw[cu,cu]
def zd7{scope:c8}{ext:List Str}{sl:List Nat}{E:List ae}(I:L2.Inv X Y1 c_ H s)(B:∀b∈E,rE X Y1 H b)(O:∀b∈E,b<s.heap.objs.size)(g:vf X.env.scope scope (X.N++ext) sl){ob:Obj}{u:HO}(Y:ob.isFreed=K7)(Z:∀h:aX,h.get? s.heap.objs.size=KB ob->oy X.prog X.w (upd H s.heap.objs.size u) h s.heap.objs.size u):
  L2.Inv (p_ X (X.N++ext) scope (cE (s.heap.objs.size+2) scope.names (q_ X.env.cells scope.names [])) (s.heap.objs.size+1) s H E) [] (pO (c_++aw ext.length KF) sl)
   (upd H s.heap.objs.size u) { s with heap:=Ge ob s.heap scope.names }:=by
 have P:∀x c,X.env.cells.lookup x=KB c->c<s.heap.objs.size:=λx c e=>by
  obtain⟨v,z⟩:=I.cell x c e;exact z.lt
 -- a free name of the block has h_ cell around
 have Q:∀x,(x,dk)∈scope.names->∃c,X.env.cells.lookup x=KB c:=λx f=>I.ok.has x (g.frees _ f rfl);have t:∀x c,(x,c)∈q_ X.env.cells scope.names []->(x,dk)∈scope.names/\X.env.cells.lookup x=KB c:=λx c hm=>by
  rcases G3 _ _ hm with m|⟨m,e⟩
  ·cases m
  ·obtain⟨c',R⟩:=Q x m;rw[R] at e;exact⟨m,by rw[e];exact R⟩
 have F:∀x,(x,dk)∈scope.names->∀c,X.env.cells.lookup x=KB c->(x,c)∈q_ X.env.cells scope.names []:=λx f c e=>by
  have:=G6 (cells:=X.env.cells) scope.names [] f;rw[e] at this;exact this
 have S:((q_ X.env.cells scope.names []).map (·.1)).Nodup:=He _ _ g.nd 'k' (by intro p l;cases l);have G:((cE (s.heap.objs.size+2) scope.names (q_ X.env.cells scope.names [])).map (·.1)).Nodup:=Ka _ _ _ g.nd S λp l k hk e=>by
  subst e;have j:=(t p.1 p.2 l).1;have:=yp g.nd j;rw[yp g.nd hk] at this;cases this
 have r:(cE (s.heap.objs.size+2) scope.names (q_ X.env.cells scope.names [])).Pairwise λx y=>x.2≠y.2:=by
  refine J_ _ _ _ (z8s S λp l q hq e=>?_) λp l=>bb (P _ _ (t p.1 p.2 l).2) (gG _ _);refine I.ok.inj p.1 q.1 p.2 (t p.1 p.2 l).2 ?_;rw[e];exact(t q.1 q.2 hq).2
 have J:∀x c,(cE (s.heap.objs.size+2) scope.names (q_ X.env.cells scope.names [])).lookup x=KB c->((x,dk)∈scope.names/\X.env.cells.lookup x=KB c)\/((x,dP)∈scope.names/\s.heap.objs.size+2<=c):=λx c e=>by
  rcases Jy _ _ _ (bQ e) with m|m
  ·exact .inl (t x c m)
  ·exact .inr m
 have d:∀a,s.heap.objs.size<=a->H a=KF:=λa ha=>I.hok.fresh ha;have C:=SK ob s.heap scope.names;have T:∀x,(x,dk)∈scope.names->∀c,X.env.cells.lookup x=KB c->(cE (s.heap.objs.size+2) scope.names (q_ X.env.cells scope.names [])).lookup x=KB c:=λx f c e=>
  yp G (Jz _ _ _ (F x f c e))
 refine⟨⟨I.ok.mod,g.kind,I.ok.glob,I.ok.blt,eL _,λx y c j K=>name_of_addr r (bQ j) (bQ K),λx f=>?_,λx c f h=>?_,I.ok.hd,I.ok.frames,.inl rfl,λb n=>⟨?_,λx c e=>?_⟩,I.bs,?_,λb o e n=>?_,λb n z=>?_,I.stack,I.stkFree⟩,
  rfl,I.bare,Un.laid C (aF _) (d _ (aF _)),?_,λx c e=>?_,?_,λx c e=>?_,λp l=>absurd (show p∈([]:List (ae×Obj)) from l) 'k',I.hok.laid C (aF _) ?_,?_,I.tk⟩
 ·-- has
  have f:uE (relabel scope X.env) x:=.inr f;rcases SE f with m|m|m
  ·exfalso;have e:=yp g.nd m;have U:(relabel scope X.env).names.lookup x=KB .local:=lookup_relabel_local e;rcases (show(relabel scope X.env).names.lookup x=KB .cell\/(relabel scope X.env).names.lookup x=KB .free by rename_i L;exact L) with q|q
   ·rw[U] at q;cases q
   ·rw[U] at q;cases q
  ·exact g8.mp (ir scope.names _ _ (.inl (yp g.nd m)))
  ·obtain⟨c,M⟩:=Q x m;exact⟨c,T x m c M⟩
 ·-- cab
  have f:(scope.names.lookup x==KB .cell)=KM:=f;rcases J x c h with⟨m,_⟩|⟨_,m⟩
  ·rw[yp g.nd m] at f;cases f
  ·exact aM (gG _ _) m
 ·exact bh (dR (O b n))
 ·rcases J x c e with⟨_,m⟩|⟨_,m⟩
  ·exact(B b n).2.2.2.2.1 x c m
  ·have L:b<s.heap.objs.size:=O b n;exact λz=>by
    rw[z] at m;exact absurd (bb L (aM (gG _ 2) m)) (bN _)
 ·exact aM I.ok.bsz I.sz
 ·rcases (B b n).2.2.2.1 with z|z
  ·exact I.ok.noex b o e z
  ·exact absurd (bb (aI e) (aM I.ok.bsz z)) (bN _)
 ·rcases aq.mp (I.stkSub b z) with q|q
  ·exact(B b n).2.1 q
  ·exact(B b n).2.2.1 q
 ·-- loc
  refine⟨λ_=>KF,?_,λi x v j K h3=>?_⟩
  ·have z:=(Heap.Ns.new (s.heap.push ob) (.type "dict")).keeps (iU scope.names _);rw[cu] at z;exact z
  ·obtain⟨A,V⟩:=GG _ _ _ _ K;have D:i<c_.length:=by
    by_cases D:i<c_.length
    ·exact D
    ·rw[bo 'd',e8] at A;split at A<;>cases A
   rw[aJ D] at A;have zj:X.N[i]?=KB x:=by
    have j:(X.N++ext)[i]?=KB x:=j;rw[aJ (by rw[<- I.len];exact D)] at j;exact j
   rcases SE h3 with m|m|m
   ·exact absurd (g.own i x j (.inl m)) V
   ·exact absurd (g.own i x j (.inr m)) V
   ·obtain⟨m0,hn,hl⟩:=I.loc;have W:=g.frees _ m rfl;obtain⟨u,ru,lk⟩:=hl i x v zj A (.inr W);refine⟨u,ru,?_⟩;rcases lk with⟨q,_⟩|⟨q,c,M,z⟩
    ·exfalso;have q:X.env.scope.names.lookup x=KB .local:=q;rcases W with k|k<;>(rw[q] at k;cases k)
    ·refine .inr ⟨?_,c,T x m c M,z.keeps C⟩;have e:=yp g.nd m;show(relabel scope X.env).names.lookup x=KB .cell\/(relabel scope X.env).names.lookup x=KB .free;unfold relabel;simp only[KW,e,gX];split
     ·exact .inl rfl
     ·exact .inr rfl
 ·-- cell
  rcases JX scope.names ((s.heap.push ob).push Dz) (q_ X.env.cells scope.names []) (x:=x) (c:=c) (by rw[VO];exact bQ e) with m|m
  ·obtain⟨v,z⟩:=I.cell x c (t x c m).2;exact⟨v,z.keeps C⟩
  ·exact⟨KF,m⟩
 ·show upd H s.heap.objs.size u (s.heap.objs.size+1)=KF;rw[pI (dU (cC _))];exact d _ (eL _)
 ·rcases J x c e with⟨_,m⟩|⟨_,m⟩
  ·rw[pI (bh (P x c m))];exact I.freeC x c m
  ·have ne:c≠s.heap.objs.size:=λz=>by
    rw[z] at m;exact absurd m 'd'
   rw[pI ne];exact d c (aM (gG _ 2) m)
 ·exact Z _ (iU _ _ _ _ (af _ (aC _ Y)))
 ·show _=(X.N++ext).length;rw[DX,aE,iH,aE,I.len]
end
def wU{α:Type}:R α->R α
 |.ok a O=>.ok a O
 |_=>.bad
def wQ(ext:Nat)(it0:DI)(g:Tg)(ts:List DT)(cs:List Cl)(em:Em):Sg->Ow->R (List D):=λσ O=>(it0 σ O).bnd λsrc O1=>
 wU (qh src (tU ⟨it0,g,ts⟩ cs em (pO (σ++aw ext KF) (pX (⟨it0,g,ts⟩::cs)))) (src.size O1) 0 O1 [])
def Ab(ext:Nat)(it0:DI)(g:Tg)(ts:List DT)(cs:List Cl)(te:DE):Sg->Ow->R (List D):=λσ O=>(it0 σ O).bnd λsrc O1=>
 wU (qh src (yc ⟨it0,g,ts⟩ cs te (pO (σ++aw ext KF) (pX (⟨it0,g,ts⟩::cs)))) (src.size O1) 0 O1 [])
def KG(ext:Nat)(it0:DI)(g:Tg)(ts:List DT)(cs:List Cl)(te:DE):wQ ext it0 g ts cs (zy te)=Ab ext it0 g ts cs te:=by funext σ O;unfold wQ Ab;rw[YG]
def ZB(c_:St)(n:Nat)(sl:List Nat)(A:ae)(H0:Hp):St->Hp->List ae->Prop:=λσ H μ=>(∀j,j∉sl->σ[j]?=(c_++aw n KF)[j]?)/\H0 A=KF/\∃F1 o,Ea A (upd H0 A o) F1 H μ/\∀a∈F1,∃vs,H0 a=KB (.lst vs)
section
variable{C:uS}{em:Em}
variable{X:Cx}{M:iP}{A:ba}{E:ab->ag->Prop}{s:ag}
def z9o
  (h:Q { scope,locals:=s.heap.objs.size,globals,cells:=cE (s.heap.objs.size+1) scope.names cl,qual,func:=KF,code:=env.code,frame:=env.frame,builtins:=env.builtins } { s with heap:=l7 (s.heap.push Dz) scope.names }):
  am M A (newFunctionEnv scope globals cl [] qual KF .none (KB env)) Q E s:=by simp only[newFunctionEnv,lZ,if_true];refine aa (wpAny_alloc ?_);refine aa (wpAny_layCells _ (λc a cells=>by cases b:a==dP<;>simp[b]) _ _ _ _ ?_);rw[show({ s with heap:=s.heap.push Dz }:ag).heap.objs.size=s.heap.objs.size+1 from cu ..];simp only[kS,pure_bind];exact ah h
structure Oh(X:Cx)(C:uS)(Y1:List (ae×Obj))(c_:St)(H:Hp)(XV μ:List ae)(L Cn:ae)(K4:List D)(O:Ow)(s':ag):Prop where
 inv:∃H' e_,L2.Inv X Y1 c_ H' s'/\Ext H μ H' e_/\n6 X.K H' (L::XV) e_ O/\H L=KF/\H' Cn=KF/\C.G X.K X.prog X.w L XV H' e_ K4
 ns:∃m,s'.heap.Ns Cn m
 loc:Cn≠X.env.locals
 young:X.s₀.heap.objs.size<=Cn
 cel:∀x c,X.env.cells.lookup x=KB c->c≠Cn
 pns:∀p∈X.pn++Y1,p.1≠Cn
def Inv.bare{a:List (ae×Obj)}{j:St}{H:Hp}{f:ag}{C:ae}{h':aX}(I:L2.Inv X a j H f)(k:cS C f.heap h')(l:H C=KF)(g:C≠X.env.locals)(d:X.s₀.heap.objs.size<=C)(h:∀x c,X.env.cells.lookup x=KB c->c≠C)
  (i:∀p∈X.pn++a,p.1≠C):L2.Inv X a j H { f with heap:=h' }:=I.turned (t':=f.toks) (λb o m e=>(k.2 b m).trans e) l g (.inr d) h i
def zco(Y:zZ C)
  {it:ae} {B:List ae} {tn:Nat->aX->Prop} {J:It} {RR:ab->ae->Result->ag->Prop}
  (pv:X.calm=KM) (Z:vf X.env.scope scope (X.N++ext) (pX (⟨it0,g,ts⟩::cs)))
  (rC:∀cells Cn,PG (p_ X (X.N++ext) scope cells Cn s H B) tg (g.rd X.K)/\ck (λe t=>qF (p_ X (X.N++ext) scope cells Cn s H B) qc e t) ifs ts/\oC (p_ X (X.N++ext) scope cells Cn s H B) gs cs/\∀A XV k,(⟨tg,iter,ifs,0⟩::gs:List bP)[k]?=KF->yh (p_ X (X.N++ext) scope cells Cn s H B) (ZB c_ ext.length (pX (⟨it0,g,ts⟩::cs)) A H) C A XV (C.ex (⟨tg,iter,ifs,0⟩::gs) scope pos) (⟨tg,iter,ifs,0⟩::gs) em k [])
  (I:L2.Inv X Y1 c_ H s) (e1:n9 X.K H XV μ σ c_) (R:n6 X.K H XV μ O) (T:wK X.prog X.w X.K tg J B it tn) (st:tn 0 s.heap) (xN:∀b∈B,rE X Y1 H b) (sa:oi X.K J src H XV μ)
  (hw:qh src (tU ⟨it0,g,ts⟩ cs em (pO (σ++aw ext.length KF) (pX (⟨it0,g,ts⟩::cs)))) (src.size O) 0 O []=.ok K4 O2)
  (hRR:∀f D,Oh X C Y1 c_ H XV μ s.heap.objs.size (s.heap.objs.size+1) K4 O2 D->RR (.ref s.heap.objs.size) (s.heap.objs.size+1) (.ok f) D):
  am (av X.prog X.w) X.A C.new (λac wa=>am (av X.prog X.w) X.A (newFunctionEnv scope X.env.globals (q_ X.env.cells scope.names []) [] X.env.qual KF .none (KB X.env)) (λFR K6=>
   codeAny (av X.prog X.w) X.A (.compStart (C.ex (⟨tg,iter,ifs,0⟩::gs) scope pos) 0 (.ref it) ac { FR with scope:=relabel scope X.env }) (RR ac FR.locals) K6) E wa) E s:=by
 refine Y.new λG Mc sR=>?_;refine z9o ?_;have hsz:(s.heap.push G).objs.size=s.heap.objs.size+1:=cu ..;have pW:∀b∈B,b<s.heap.objs.size:=λb Z=>by
  obtain⟨o,ho,_⟩:=T.obj 0 _ st b Z;exact aI ho
 have IB:=zd7 (u:=C.ho X.prog X.w s.heap.objs.size) I xN pW Z Mc (λh=>sR H h _ I.big);have F:H s.heap.objs.size=KF:=I.hok.fresh (aF _);have pZ:∀b∈B,b≠s.heap.objs.size:=λb Z=>bh (pW b Z);obtain⟨b1,b2,b3,b4⟩:=rC (cE (s.heap.objs.size+2) scope.names (q_ X.env.cells scope.names [])) (s.heap.objs.size+1);generalize l:p_ X (X.N++ext) scope (cE (s.heap.objs.size+2) scope.names (q_ X.env.cells scope.names [])) (s.heap.objs.size+1) s H B=y at IB b1 b2 b3 b4;have eP:y.prog=X.prog:=by rw[<- l];rfl
 have eW:y.w=X.w:=by rw[<- l];rfl
 have L:y.K=X.K:=by rw[<- l];rfl
 have eA:y.A=X.A:=by rw[<- l];rfl
 have ex:y.xe=λ_ _=>False:=by rw[<- l];rfl
 have ec:y.calm=KM:=by rw[<- l];exact pv
 have BU:y.env={ scope:=relabel scope X.env,locals:=s.heap.objs.size+1,globals:=X.env.globals,cells:=cE (s.heap.objs.size+2) scope.names (q_ X.env.cells scope.names []),qual:=X.env.qual,func:=KF,code:=X.env.code,frame:=X.env.frame,builtins:=X.env.builtins }:=by rw[<- l];rfl
 have FO:({ ({ scope,locals:=(s.heap.push G).objs.size,globals:=X.env.globals,cells:=cE ((s.heap.push G).objs.size+1) scope.names (q_ X.env.cells scope.names []),qual:=X.env.qual,func:=KF,code:=X.env.code,frame:=X.env.frame,builtins:=X.env.builtins }:Env) with scope:=relabel scope X.env }:Env)=y.env:=by
  rw[BU,hsz]
 show codeAny _ _ (.compStart _ 0 _ _ ({ ({ scope,locals:=(s.heap.push G).objs.size,globals:=X.env.globals,cells:=cE ((s.heap.push G).objs.size+1) scope.names (q_ X.env.cells scope.names []),qual:=X.env.qual,func:=KF,code:=X.env.code,frame:=X.env.frame,builtins:=X.env.builtins }:Env) with scope:=relabel scope X.env }:Env)) (RR _ (s.heap.push G).objs.size) _;rw[FO,hsz];have Lk:Mv H XV μ (upd H s.heap.objs.size (C.ho X.prog X.w s.heap.objs.size)) (s.heap.objs.size::XV) μ:=(Mv.hide F).trans ⟨⟨[],by simp⟩,λb o h _ n2 _=>by rw[pI (λz=>n2 (by simp[z]))];exact h,λ_ m=>.inl m,λ_ m=>.inl m,wR,λ_ t=>t.upd (.inl F)⟩;have c2:n6 X.K (upd H s.heap.objs.size (C.ho X.prog X.w s.heap.objs.size)) (s.heap.objs.size::XV) μ O:=by
  refine⟨R.len,R.nd,λa m z=>?_,λa m=>?_,λk a e=>?_⟩
  ·rcases aq.mp z with rfl|z
   ·exact(R.not_in F).2 m
   ·exact R.nh a m z
  ·rcases aq.mp m with rfl|m
   ·rw[qP];simp
   ·exact wR a (R.ht a m)
  ·obtain⟨ds,vs,U,V,h3⟩:=R.at_ k a e;exact⟨ds,vs,U,by rw[pI (rm V F)];exact V,h3.mv Lk⟩
 have e2:n9 X.K (upd H s.heap.objs.size (C.ho X.prog X.w s.heap.objs.size)) (s.heap.objs.size::XV) μ (pO (σ++aw ext.length KF) (pX (⟨it0,g,ts⟩::cs))) (pO (c_++aw ext.length KF) (pX (⟨it0,g,ts⟩::cs))):=by
  refine⟨by rw[DX,DX,aE,aE,e1.len];simp,λi d h=>?_⟩;obtain⟨g1,g2⟩:=GG _ _ _ _ h;have hi:i<σ.length:=by
   by_cases hi:i<σ.length
   ·exact hi
   ·rw[bo 'd',e8] at g1;split at g1<;>cases g1
  rw[aJ hi] at g1;obtain⟨v,U,V⟩:=e1.at_ i d g1;exact⟨v,by rw[JU _ _ _ g2,aJ (by rw[<- e1.len];exact hi)];exact U,V.mv Lk⟩
 have Md:∀b∈B,rE y [] (upd H s.heap.objs.size (C.ho X.prog X.w s.heap.objs.size)) b:=λb Q=>by
  obtain⟨f0,f1,f2,f3,f4,f5⟩:=xN b Q;have U:=IB.ok.exf;refine⟨by rw[pI (pZ b Q)];exact f0,?_,?_,.inl ?_,?_,?_⟩
  ·exact(U b (by rw[<- l];exact Q)).1
  ·rw[<- l];exact λz=>IB.ok.exfs b (by rw[<- l];exact Q) (by rw[<- l];exact z)
  ·rw[<- l];exact Q
  ·exact(U b (by rw[<- l];exact Q)).2
  ·rw[<- l];exact λp hp=>absurd (show p∈([]:List (ae×Obj)) from hp) 'k'
 have i_:tn 0 (Ge G s.heap scope.names):=T.keep _ _ _ st λb _ o e=>SK _ _ _ _ _ e;have T':wK y.prog y.w y.K tg J B it tn:=by rw[eP,eW,L];exact T
 have Uh:∀(qA rV:St)H1 g_ H2 pF,ZB c_ ext.length (pX (⟨it0,g,ts⟩::cs)) s.heap.objs.size H qA H1 g_->(∀j,j∉pX (⟨it0,g,ts⟩::cs)->rV[j]?=qA[j]?)->Ea s.heap.objs.size H1 g_ H2 pF->ZB c_ ext.length (pX (⟨it0,g,ts⟩::cs)) s.heap.objs.size H rV H2 pF:=
  λqA rV H1 g_ H2 pF ⟨z1,z2,F1,o,z3,z4⟩ k1 x1=>⟨λj hj=>(k1 j hj).trans (z1 j hj),z2,F1,o,z3.trans x1,z4⟩
 have key:=Qa (X:=y) Y (A:=s.heap.objs.size) (XV:=XV) (gens:=⟨tg,iter,ifs,0⟩::gs) (scope:=scope) (pos:=pos) (em:=em) (k:=0) (c:=⟨it0,g,ts⟩) (cs:=cs) ex ec rfl (by rw[L];exact b1) b2 Uh (O7 Y ex ec (sl:=pX (⟨it0,g,ts⟩::cs)) Uh (b4 _ _) b3 (λj m=>ay _ m) 1 rfl) (by
   cases b3 with
   |nil=>exact .inl rfl
   |cons _ _ _ _ _=>exact .inr ⟨_,_,_,rfl⟩) T' [] { s with heap:=Ge G s.heap scope.names } (pO (c_++aw ext.length KF) (pX (⟨it0,g,ts⟩::cs))) (upd H s.heap.objs.size (C.ho X.prog X.w s.heap.objs.size)) μ (pO (σ++aw ext.length KF) (pX (⟨it0,g,ts⟩::cs))) O [] (src.size O)
   (λD=>Oh X C Y1 c_ H XV μ s.heap.objs.size (s.heap.objs.size+1) K4 O2 D) i_ Md (by rw[L];exact sa.mv Lk) ⟨λj hj=>JU _ _ _ hj,F,μ,_,.refl,λa m=>by
    obtain⟨k,e⟩:=List.getElem?_of_mem m;obtain⟨_,vs,_,V,_⟩:=R.at_ k a e;exact⟨vs,V⟩⟩ ⟨IB,by rw[L];exact e2,by rw[L];exact c2,by rw[L,eP,eW];exact Y.g0⟩ ?_
 ·have EY:=Qs (X:=y) Y (gens:=⟨tg,iter,ifs,0⟩::gs) (scope:=scope) (pos:=pos) (env:=y.env) rfl T' 0 i_ key;rw[eP,eW,eA] at EY;exact gq EY λr D ⟨f,hr,q⟩=>by subst hr;exact hRR f D q
 ·rw[hw];intro D pH H' e_ W x' c' g' l' k';rw[L] at c';rw[L,eP,eW] at g';have xe:Ext H μ H' e_:=⟨x'.pre,λb o h n ht=>x'.kept b o (by rw[pI (rm h F)];exact h) n (rm h F) ht,λb m=>(x'.fresh b m).imp id λz=>by
   by_cases q:b=s.heap.objs.size
   ·rw[q];exact F
   ·rw[pI q] at z;exact z,λb h=>x'.there b (wR b h),λP t=>x'.tab P (t.upd (.inl F))⟩
  have un:Un (um X.stack) B H H' s.heap D.heap:=by
   have:=W.base;rw[<- l] at this;exact this
  have os:D.os=s.os:=by
   have:=W.os;rw[<- l] at this;exact this
  have hok:HOk X.prog X.w H' D.heap:=by
   have:=W.hok;rw[eP,eW] at this;exact this
  have IX:L2.Inv X Y1 c_ H' D:=I.call' os un hok W.bare λb Q=>by
   obtain⟨f0,f1,f2,f3,f4,f5⟩:=xN b Q;exact⟨f3,f1,f4,f5⟩
  have S:∀b,b<s.heap.objs.size->b≠s.heap.objs.size+1:=λb h=>bh (dR h);refine⟨⟨H',e_,IX,xe,c',F,?_,g'⟩,?_,?_,?_,λx c e=>?_,λp hp=>?_⟩
  ·have:=W.free;rw[BU] at this;exact this
  ·obtain⟨m,hn,_⟩:=W.loc;rw[BU] at hn;exact⟨m,hn⟩
  ·exact(S _ I.lt).symm
  ·exact aM I.sz (eL _)
  ·obtain⟨v,z⟩:=I.cell x c e;exact S _ z.lt
  ·exact S _ (aI (I.pin p hp).1)
end
section
variable{X:Cx}{Ex:Nat->Hp->Prop}
def Ww{α:Type}{r:R α}{a:α}{O:Ow}(h:wU r=.ok a O):r=.ok a O:=by
 cases r with
 |ok _ _=>exact h
 |exc _ _=>cases h
 |bad=>cases h
def ZU{α:Type}{r:R α}{c:Nat}{O:Ow}(h:wU r=.exc c O):False:=by cases r<;>cases h
def Dt(C:uS)(Ex:Nat->Hp->Prop)(K:ai)(P:aN)(w:aY)(H:Hp)(XV μ:List ae)(r:R (List D))(Q:ae->Hp->Prop):Prop:=match r with
 |.ok K4 O'=>∀L H' e_,H L=KF->Ext H μ H' e_->n6 K H' (L::XV) e_ O'->C.G K P w L XV H' e_ K4->Q L H'
 |.exc c O'=>∀H' e_,Ext H μ H' e_->n6 K H' XV e_ O'->Ex c H'
 |.bad=>False
def Ext.none{H H':Hp}{μ a:List ae}(e:Ext H μ H' a){L:ae}(h:H' L=jh):H L=jh:=by
 cases q:H L with
 |none=>rfl
 |some o=>exact absurd h (e.there L (by rw[q];simp))
def D7{C:uS}(co:zZ C){em:Em}{o a:aT}{i:List aT}{gs:List bP}{scope:c8}{pos pK:Pos}{ext:List Str}{it0:DI}{g:Tg}{ts:List DT}{cs:List Cl}{d:List (ae×Obj)}{r:St}{H:Hp}{s:ag}{XV μ:List ae}{σ:Sg}{O:Ow}
  {use:Option (ab->Sem Unit)} {Q:ab->ag->Prop} (pv:X.calm=KM) (hi:sC X Ex o a it0) (F:vf X.env.scope scope (X.N++ext) (pX (⟨it0,g,ts⟩::cs)))
  (rC:∀cells h j H' u,L2.Inv X d r H' j->(∀b∈u,rE X d H' b)->(∃P,Ext H μ H' P)->PG (p_ X (X.N++ext) scope cells h j H' u) o (g.rd X.K)/\ck (λe t=>qF (p_ X (X.N++ext) scope cells h j H' u) qc e t) i ts/\oC (p_ X (X.N++ext) scope cells h j H' u) gs cs/\∀A XV k,(⟨o,a,i,0⟩::gs:List bP)[k]?=KF->yh (p_ X (X.N++ext) scope cells h j H' u) (ZB r ext.length (pX (⟨it0,g,ts⟩::cs)) A H') C A XV (C.ex (⟨o,a,i,0⟩::gs) scope pos) (⟨o,a,i,0⟩::gs) em k [])
  (hs:∀x,bK a X.env x=pure x) (I:L2.Inv X d r H s) (R:n9 X.K H XV μ σ r) (c1:n6 X.K H XV μ O)
  (q:Dt C Ex X.K X.prog X.w H XV μ (wQ ext.length it0 g ts cs em σ O)
   (λ(L:ae)H'=>∀j h,L2.Inv X d r H' j->(∃m,j.heap.Ns h m)->H' h=KF->h≠X.env.locals->X.s₀.heap.objs.size<=h->(∀x c,X.env.cells.lookup x=KB c->c≠h)->(∀p∈X.pn++d,p.1≠h)->
    compPost (av X.prog X.w) X.A X.xe use Q (.ref L) h (.ok .next) j)):
  am (av X.prog X.w) X.A (comprehension (C.ex (⟨o,a,i,0⟩::gs) scope pos) scope X.env pK C.new K7 (eval a X.env) use) Q X.xe s:=by
 have qr:∀y∈scope.names,y.2=.free->∃c,X.env.cells.lookup y.1=KB c:=λy hy hf=>by
  obtain⟨n,k⟩:=y;subst hf;exact I.ok.has n (F.frees _ hy rfl)
 refine wpAny_comprehension_free (g:=⟨o,a,i,0⟩) (gs:=gs) (co.cl _ _ _) hs (SX qr) F.kind (λx hx hl=>?_) ?_
 ·obtain⟨n,k⟩:=x;subst hl;exact yp F.nd hx
 unfold wQ at q;cases l:it0 σ O with
 |bad=>rw[l] at q;exact aj q
 | exc S O'=>
  rw[l] at q;refine pG (hi.out d s r H (λJ D=>False) I ⟨XV,μ,σ,O,R,c1,by rw[l];exact q⟩) λv s1 U=>pG U λEZ V W=>?_;obtain⟨it,u,tn,J,H2,e,Y,T,p9,Z,z⟩:=W;exact z.elim
 | ok src O2=>
  rw[l] at q;refine pG (hi.out d s r H (λJ D=>∃E,Ext H μ D E/\n6 X.K D XV E O2/\oi X.K J src D XV E) I ⟨XV,μ,σ,O,R,c1,by rw[l];exact λJ D E x c sa=>⟨E,x,c,sa⟩⟩) λv s1 U=>pG U λEZ V W=>?_;obtain⟨it,u,tn,J,H2,e,Y,T,p9,Z,pF,G,c2,sa⟩:=W;subst e;have p:Dt C Ex X.K X.prog X.w H XV μ (wU (qh src (tU ⟨it0,g,ts⟩ cs em (pO (σ++aw ext.length KF) (pX (⟨it0,g,ts⟩::cs)))) (src.size O2) 0 O2 [])) _:=q;cases M:wU (qh src (tU ⟨it0,g,ts⟩ cs em (pO (σ++aw ext.length KF) (pX (⟨it0,g,ts⟩::cs)))) (src.size O2) 0 O2 []) with
  |bad=>rw[M] at p;exact aj p
  |exc S O'=>exact(ZU M).elim
  | ok K4 O3=>
   rw[M] at p;refine zco co (RR:=λac h=>compPost (av X.prog X.w) X.A X.xe use Q ac h) pv F (λcells h=>rC cells h _ _ _ Y Z ⟨_,G⟩) Y (R.ext G) c2 T p9 Z sa (Ww M) λf j B=>?_;obtain⟨H',P,I',x',S,nL,nC,gv⟩:=B.inv;have:=p (V.heap.objs.size) H' P (G.none nL) (G.trans x') S gv j (V.heap.objs.size+1) I' B.ns nC B.loc B.young B.cel B.pns;unfold compPost at this ⊢;cases use<;>exact this
def R9(c:n6 K H (L::XV) μ O)(a:L∉XV)(h:H L=KB (.lst vs))(q:n8 K H (L::XV) μ ds vs):Y2 K H XV μ (.lst ds) (.ref L):=by unfold Y2;exact⟨L,vs,rfl,.inl ⟨.inl h,a,λm=>c.nh L m 'k'⟩,q.mv .unhide⟩
mutual
theorem Y2.swap:∀{d:D}{v:V},Y2 K H (L::XV) μ d v->Y2 K H XV (μ++[L]) d v
 |.non,_,h=>h
 |.bl _,_,h=>h
 |.int _,_,h=>h
 |.str _,_,h=>h
 | .lst ds,v,h=>by
  unfold Y2 at h ⊢;obtain⟨a,c,r,l,q⟩:=h;refine⟨a,c,r,l.imp (λz=>⟨z.1,λm=>z.2.1 (al _ m),λm=>?_⟩) id,n8.swap q⟩;rcases aP.mp m with m|m
  ·exact z.2.2 m
  ·exact z.2.1 (by simp at m;simp[m])
 | .tup ds,v,h=>by
  unfold Y2 at h ⊢;obtain⟨a,c,r,l,q⟩:=h;refine⟨a,c,r,l.imp (λz=>⟨z.1,λm=>z.2.1 (al _ m),λm=>?_⟩) id,n8.swap q⟩;rcases aP.mp m with m|m
  ·exact z.2.2 m
  ·exact z.2.1 (by simp at m;simp[m])
 | .own k,v,h=>by
  unfold Y2 at h ⊢;obtain⟨a,r,q⟩:=h;exact⟨a,r,by rw[aJ (ar.mp q).1];exact q⟩
 | .dct,v,h=>by
  unfold Y2 at h ⊢;obtain⟨a,r,q,b,e⟩:=h;refine⟨a,r,q,λm=>b (al _ m),λm=>?_⟩;rcases aP.mp m with m|m
  ·exact e m
  ·exact b (by simp at m;simp[m])
 | .exn C,v,h=>by
  unfold Y2 at h ⊢;obtain⟨a,f,r,g,q,b,e⟩:=h;refine⟨a,f,r,g,q,λm=>b (al _ m),λm=>?_⟩;rcases aP.mp m with m|m
  ·exact e m
  ·exact b (by simp at m;simp[m])
 | .tab P,v,h=>by
  unfold Y2 at h ⊢;exact h
 | .map ks ds,v,h=>by
  unfold Y2 at h ⊢;obtain⟨a,c,r,q,b,e,i,d⟩:=h;refine⟨a,c,r,q,λm=>b (al _ m),λm=>?_,i,n8.swap d⟩;rcases aP.mp m with m|m
  ·exact e m
  ·exact b (by simp at m;simp[m])
 |.adr _,_,h=>h
theorem n8.swap:∀{ds:List D}{vs:List V},n8 K H (L::XV) μ ds vs->n8 K H XV (μ++[L]) ds vs
 |[],_,h=>h
 | d::ds,vs,h=>by
  unfold n8 at h ⊢;obtain⟨v,r,a,b,c⟩:=h;exact⟨v,r,a,Y2.swap b,n8.swap c⟩
end
def n6.swap(c:n6 K H (L::XV) μ O)(f:L∉XV)(h:H L=KB (.lst vs))(q:n8 K H (L::XV) μ ds vs):n6 K H XV (μ++[L]) (O++[ds]):=by
 have g:L∉μ:=λm=>c.nh L m 'k';refine⟨by simp[c.len],?_,λa m=>?_,λa m=>c.ht a (al _ m),λk a e=>?_⟩
 ·rw[fN];refine⟨c.nd,by simp,λa i b j=>?_⟩;have:b=L:=by simpa using j
  subst this;rintro rfl;exact g i
 ·rcases aP.mp m with m|m
  ·exact λz=>c.nh a m (al _ z)
  ·have:a=L:=by simpa using m
   subst this;exact f
 ·by_cases d:k<μ.length
  ·rw[aJ d] at e;obtain⟨l,n,o,p,r⟩:=c.at_ k a e;exact⟨l,n,by rw[aJ (by rw[<- c.len];exact d)];exact o,p,r.swap⟩
  ·rw[bo 'd'] at e;have s:k-μ.length=0:=by
    have:=(ar.mp e).1;simp at this;lia
   rw[s] at e;simp at e;subst e;refine⟨ds,vs,?_,h,q.swap⟩;have:k=O.length:=by have:=c.len;lia
   subst this;simp
def Ext.grow(e:Ext H μ H' e_)(h:H L=jh):Ext H μ H' (e_++[L]):=by
 obtain⟨a,rfl⟩:=e.pre;refine⟨⟨a++[L],by simp⟩,e.kept,λb m=>?_,e.there,e.tab⟩;rcases aP.mp m with m|m
 ·exact e.fresh b m
 ·have:b=L:=by simpa using m
  subst this;exact .inr h
def uU(o:Bool)(r:R (List D)):R D:=r.bnd λK4 O1=>if o=KM then .ok (.own O1.length) (O1++[K4]) else .ok (.lst K4) O1
def Ra(f:n6 K H XV μ O)(q:qy Ex K H XV μ (uU o r) Q)(h:∀L H',Q (.ref L) H'->Q1 L H'):Dt (AR elt) Ex K P w H XV μ r Q1:=by
 cases r with
 |bad=>exact q
 |exc c' O'=>exact q
 | ok K4 O'=>
  intro L H' g a x c ⟨i,b,d⟩;have e:L∉XV:=λm=>f.ht L m a;cases o with
  |false=>exact h L H' (post.ok (show qy Ex K H XV μ (.ok (.lst K4) O') Q from q) x c.unhide (R9 c e b d))
  |true=>exact h L H' (post.ok (show qy Ex K H XV μ (.ok (.own O'.length) (O'++[K4])) Q from q) (x.grow a) (c.swap e b d) (Hu c.len))
def zdG(k:n6 K H XV μ O)(b:n9 K H XV μ σ c_)(q:og Ex K H XV μ ((uU o r).bnS λd O1=>.nx (σ.set i (KB d)) O1) E)(h:∀L H',E.nx (c_.set i (KB (.ref L))) H'->Q1 L H'):
  Dt (AR elt) Ex K P w H XV μ r Q1:=by
 cases r with
 |bad=>exact q
 |exc c' O'=>exact q
 | ok K4 O'=>
  intro L H' e a x c ⟨l,f,g⟩;have j:L∉XV:=λm=>k.ht L m a;cases o with
  | false=>
   have q:og Ex K H XV μ (.nx (σ.set i (KB (.lst K4))) O') E:=q;exact h L H' (q _ H' e x ((b.ext x).set (R9 c j f g) i) c.unhide)
  | true=>
   have q:og Ex K H XV μ (.nx (σ.set i (KB (.own O'.length))) (O'++[K4])) E:=q;exact h L H' (q _ H' (e++[L]) (x.grow a) ((b.ext (x.grow a)).set (Hu c.len) i) (c.swap j f g))
def IV{d f a:aT}{b:List aT}{gs:List bP}{scope:c8}{pos:Pos}{ext:List Str}{g:Tg}{ts:List DT}{cs:List Cl}{te:DE}{Z:ae->Hp->St->Hp->List ae->Prop}
  (h:∀cells C s H c,PG (p_ X (X.N++ext) scope cells C s H c) f (g.rd X.K)/\ck (λe t=>qF (p_ X (X.N++ext) scope cells C s H c) qc e t) b ts/\oC (p_ X (X.N++ext) scope cells C s H c) gs cs/\PD (p_ X (X.N++ext) scope cells C s H c) qc d te) (cells Cn s H c):
  PG (p_ X (X.N++ext) scope cells Cn s H c) f (g.rd X.K)/\ck (λe t=>qF (p_ X (X.N++ext) scope cells Cn s H c) qc e t) b ts/\oC (p_ X (X.N++ext) scope cells Cn s H c) gs cs/\∀A XV k,(⟨f,a,b,0⟩::gs:List bP)[k]?=KF->yh (p_ X (X.N++ext) scope cells Cn s H c) (Z A H) (AR d) A XV ((AR d).ex (⟨f,a,b,0⟩::gs) scope pos) (⟨f,a,b,0⟩::gs) (zy te) k []:=
 let ⟨h1,h2,h3,h4⟩:=h cells Cn s H c
 ⟨h1,h2,h3,λ_ _ _ i=>zhr rfl h4.z i⟩
def qj(o:Bool)(ext:Nat)(it0:DI)(g:Tg)(ts:List DT)(cs:List Cl)(te:DE):DE:=λσ O=>uU o (Ab ext it0 g ts cs te σ O)
def YZ(o:Bool)(ext:List Str)(d:X.calm=KM)(f:sC X Ex tg iter it0)(h:vf X.env.scope scope (X.N++ext) (pX (⟨it0,g,ts⟩::cs)))
  (i:∀cells C s H a,PG (p_ X (X.N++ext) scope cells C s H a) tg (g.rd X.K)/\ck (λe t=>qF (p_ X (X.N++ext) scope cells C s H a) qc e t) ifs ts/\oC (p_ X (X.N++ext) scope cells C s H a) gs cs/\PD (p_ X (X.N++ext) scope cells C s H a) qc elt te)
  (j:∀x,bK iter X.env x=pure x:=by intro _;rfl):PD X Ex (.ListComp elt (⟨tg,iter,ifs,0⟩::gs) scope pos) (qj o ext.length it0 g ts cs te):=by refine⟨?_⟩;rintro b s F H Q I ⟨k,G,J,O,l,c,q⟩;rw[eval_ListComp];unfold qj at q;rw[<- KG] at q;refine D7 (Ki elt) (use:=KF) d f h (λcells n s H a _ _ _=>IV i cells n s H a) j I l c (Ra c q λL p r M C u v w y z A B=>?_);obtain⟨m,D⟩:=v;exact⟨m,D,λP E=>⟨.ref L,p,Inv.bare u E w y z A B,rfl,r⟩⟩
def zaG(o:Bool)(ext:List Str)(u:X.calm=KM)(w:X.N.Nodup)(B:X.N[i]?=KB y)(j:X.env.scope.names.lookup y=KB .local)
  (D:sC X Ex tg iter it0) (F:vf X.env.scope scope (X.N++ext) (pX (⟨it0,g,ts⟩::cs)))
  (G:∀cells C s H b,PG (p_ X (X.N++ext) scope cells C s H b) tg (g.rd X.K)/\ck (λe t=>qF (p_ X (X.N++ext) scope cells C s H b) qc e t) ifs ts/\oC (p_ X (X.N++ext) scope cells C s H b) gs cs/\PD (p_ X (X.N++ext) scope cells C s H b) qc elt te)
  (J:swapsWith (.ListComp elt (⟨tg,iter,ifs,0⟩::gs) scope pos) (KB (.Name y py)) r8.line X.env=pure KM)
  (M:∀x,bK iter X.env x=pure x:=by intro _;rfl):rK X Ex (.Assign [.Name y py] (.ListComp elt (⟨tg,iter,ifs,0⟩::gs) scope pos) r8) (pY i (qj o ext.length it0 g ts cs te)):=by
 refine⟨?_⟩;rintro c s c_ H E I ⟨h,P,k,O,l,n,q⟩;rw[kT _ _ _ _ J];refine aa (ez (aa ?_));show am _ X.A (do let _ <- comprehension (.ListComp elt (⟨tg,iter,ifs,0⟩::gs) scope pos) scope X.env _ (newList []) K7 (eval iter X.env) (KB (assign (.Name y py) X.env))) _ _ s;have q:og Ex X.K H h P ((uU o (Ab ext.length it0 g ts cs te k O)).bnS λd R=>.nx (k.set i (KB d)) R) E:=q;rw[<- KG] at q;refine aa (cG (D7 (Ki elt) (use:=KB (assign (.Name y py) X.env)) (Q:=λ_ f=>SP X c E .next f) u D F (λcells S s H b _ _ _=>IV G cells S s H b) M I l n (zdG n l q λL T U f C V W Y p Z r pn=>?_)) (λ_ f hq=>ah (ah hq)) λ_ _ e=>e);obtain⟨m,hn⟩:=W;show am _ _ (assign (.Name y py) X.env (.ref L)) _ _ f;refine jG (Ks (v:=.ref L) V w B (.inl j) rfl (λyW MS xG=>?_) (.inr j));obtain⟨a,E7,ha⟩:=xG;have Mz:C≠a:=by
  rcases ha with z|z
  ·rw[z];exact p
  ·exact λe=>r y a z e.symm
 refine⟨m,hn.sameBut E7 Mz,λh' zm=>?_⟩;exact⟨_,T,Inv.bare MS zm Y p Z r pn,U⟩
end
noncomputable def pR{α β:Type}(f:α->Option β):List α->Option (List β)
 |[]=>KB []
 | x::xs=>match f x,pR f xs with
  |some p,KB ps=>KB (p::ps)
  |_,_=>KF
def wH(cs:List Nat):Option ef:=if cs.all (· < 1114112)=KM then KB (.str ⟨cs.toArray⟩) else KF
def qu(O:Ow):Nat->D->Option ef
 | 0,d=>match d with
  |.non=>KB .none
  |.bl b=>KB (.bool b)
  |.int i=>KB (.int i)
  |.str cs=>wH cs
  |_=>KF
 | n+1,d=>match d with
  |.non=>KB .none
  |.bl b=>KB (.bool b)
  |.int i=>KB (.int i)
  |.str cs=>wH cs
  |.lst ds=>(pR (qu O n) ds).map .list
  |.tup ds=>(pR (qu O n) ds).map .tuple
  | .own k=>match O[k]? with
   |some ds=>(pR (qu O n) ds).map .list
   |none=>KF
  |.dct=>KF
  |.exn _=>KF
  |.tab _=>KF
  |.map _ _=>KF
  |.adr _=>KF
section
variable{X:Cx}{Y1:List (ae×Obj)}{c_:St}{H:Hp}{s:ag}{XV μ:List ae}{O:Ow}
theorem Hd(I:L2.Inv X Y1 c_ H s)(f:∀(d:D)(v:V)(u:ab)(p:ef),Y2 X.K H XV μ d v->RelV v u->qu O n d=KB p->∃b,Reads s.heap u p b/\p.canLay0=KM/\p.depth<=n):
  ∀(ds:List D)(vs:List V)(c:List ab)(a:List ef),n8 X.K H XV μ ds vs->oa vs c->pR (qu O n) ds=KB a->∃b,ReadsAll s.heap c a b/\mx a=KM/\nj a<=n
 | [],vs,c,a,h,r,e=>by
  unfold n8 at h;subst h;cases r;cases e;exact⟨[],.nil,rfl,cn _⟩
 | d::ds,vs,c,a,h,r,e=>by
  unfold n8 at h;obtain⟨v,t,rfl,g,i⟩:=h;cases r with
  | cons r1 r2=>
   unfold pR at e;split at e
   ·rename_i p j k l;cases e;obtain⟨b,m,o,q⟩:=f d v _ p g r1 k;obtain⟨w,x,y,z⟩:=Hd I f ds t _ j i r2 l;refine⟨b++w,.cons m x,?_,?_⟩
    ·unfold mx;rw[o,y];rfl
    ·unfold nj;exact Nat.max_le.mpr ⟨q,z⟩
   ·cases e
def Sn(e:wH cs=KB p):∃a,Reads s.heap (.str ⟨cs.toArray⟩ t) p a/\p.canLay0=KM/\p.depth<=n:=by
 unfold wH at e;split at e
 ·rename_i b;cases e;exact⟨[],.str _ _,by unfold ja PyData.strOk;simpa using b,cn _⟩
 ·cases e
def Ah(I:L2.Inv X Y1 c_ H s)(c:n6 X.K H XV μ O):∀(n:Nat)(d:D)(v:V)(u:ab)(p:ef),Y2 X.K H XV μ d v->RelV v u->qu O n d=KB p->∃B,Reads s.heap u p B/\p.canLay0=KM/\p.depth<=n:=by
 intro n
 induction n with
 | zero=>
  intro d v u p h r e;cases d with
  |non=>unfold Y2 at h;subst h;cases r;cases e;exact⟨[],.none,rfl,cn _⟩
  |bl b=>unfold Y2 at h;subst h;cases r;cases e;exact⟨[],.bool _,rfl,cn _⟩
  |int b=>unfold Y2 at h;subst h;obtain⟨t,rfl⟩:=r;cases e;exact⟨[],.int _ _,rfl,cn _⟩
  | str cs=>
   unfold Y2 at h;subst h;obtain⟨t,rfl⟩:=r;exact Sn (show wH cs=KB p from e)
  |_=>cases e
 | succ n ih=>
  intro d v u p h r e;cases d with
  |non=>unfold Y2 at h;subst h;cases r;cases e;exact⟨[],.none,rfl,cn _⟩
  |bl b=>unfold Y2 at h;subst h;cases r;cases e;exact⟨[],.bool _,rfl,cn _⟩
  |int b=>unfold Y2 at h;subst h;obtain⟨t,rfl⟩:=r;cases e;exact⟨[],.int _ _,rfl,cn _⟩
  | str cs=>
   unfold Y2 at h;subst h;obtain⟨t,rfl⟩:=r;exact Sn (show wH cs=KB p from e)
  | lst f=>
   unfold Y2 at h;obtain⟨a,i,rfl,l,q⟩:=h;cases r;have e:(pR (qu O n) f).map fq=KB p:=e;cases g:pR (qu O n) f with
   |none=>rw[g] at e;cases e
   | some ps=>
    rw[g] at e;cases e;obtain⟨j,m,⟨o,k,w,x,F,y⟩,C⟩:=I.list l.sq;obtain⟨B,z,A,E⟩:=Hd I ih f i j ps q m g;exact⟨_,.list w x y (by simpa using z),by unfold ja;exact A,by unfold l8;lia⟩
  | tup f=>
   unfold Y2 at h;obtain⟨a,i,rfl,l,q⟩:=h;cases r;have e:(pR (qu O n) f).map hJ=KB p:=e;cases g:pR (qu O n) f with
   |none=>rw[g] at e;cases e
   | some ps=>
    rw[g] at e;cases e;obtain⟨j,m,⟨o,w,x,k,y⟩,C⟩:=I.tuple l.sq;obtain⟨B,z,A,E⟩:=Hd I ih f i j ps q m g;exact⟨_,.tuple w x y (by simpa using z),by unfold ja;exact A,by unfold l8;lia⟩
  | own k=>
   unfold Y2 at h;obtain⟨a,rfl,G⟩:=h;cases r;obtain⟨f,i,J,L,M⟩:=c.at_ k a G;have e:(match O[k]? with|some f=>(pR (qu O n) f).map fq|none=>KF)=KB p:=e;rw[J] at e;cases g:pR (qu O n) f with
   |none=>simp only[g] at e;cases e
   | some ps=>
    simp only[g] at e;cases e;obtain⟨j,m,⟨o,N,w,x,F,y⟩,C⟩:=I.list (.of L);obtain⟨B,z,A,E⟩:=Hd I ih f i j ps M m g;exact⟨_,.list w x y (by simpa using z),by unfold ja;exact A,by unfold l8;lia⟩
  |dct=>cases e
  |exn _=>cases e
  |tab _=>cases e
  |map _ _=>cases e
  |adr _=>cases e
end
def py(O:Ow)(d:D):Option ef:=qu O 8 d
def yY(K:ai)(f:ef->ef->Option Bool):R2:=λv w H Q=>∃XV μ O x y a b k,n6 K H XV μ O/\Y2 K H XV μ x v/\Y2 K H XV μ y w/\py O x=KB a/\py O y=KB b/\f a b=KB k/\Q (.bl k) H
def pC(f:ef->ef->Option Bool):Ow->D->D->R D:=λO x y=>match py O x,py O y with
 | some a,KB b=>match f a b with
  |some k=>.ok (.bl k) O
  |none=>.bad
 |_,_=>.bad
section
variable{X:Cx}{Ex:Nat->Hp->Prop}
def Cp:rD X Ex (yY X.K f) (pC f):=by
 intro H d e O x y v w Q c g h q;unfold pC at q;split at q
 ·rename_i a b i j;split at q
  ·rename_i k l;exact⟨d,e,O,x,y,a,b,k,c,g,h,i,j,l,post.here q c tN⟩
  ·exact aj q
 ·exact aj q
def rq:ef->ef->Option Bool:=λa b=>KB (be a b)
def pT:ef->ef->Option Bool:=λa b=>KB (!PyData.eqv a b)
def Av:ef->ef->Option Bool:=λa b=>match b with
 |.list xs=>KB (xs.any λy=>be y a)
 |.tuple xs=>KB (xs.any λy=>be y a)
 |_=>KF
def B7:ef->ef->Option Bool:=λa b=>match b with
 |.list xs=>KB (!xs.any λy=>be y a)
 |.tuple xs=>KB (!xs.any λy=>be y a)
 |_=>KF
def GD(a:p.canLay0=KM)(b:p.depth<=8):nU p=KM:=by unfold nU;rw[a,decide_eq_true (show p.depth<=64 by lia)];rfl
def PX(e:X.A.units+64<cLine):qm X (cm .Eq) (yY X.K rq):=by intro d s E H x y v u Q I f g h;obtain⟨i,F,O,j,l,a,b,k,c,m,n,o,p,r,q⟩:=h;obtain⟨G,t,w,z⟩:=Ah I c 8 j x v a m f o;obtain⟨J,B,C,D⟩:=Ah I c 8 l y u b n g p;cases r;exact PyProof.Rows.eq_dataH t B (GD w z) (GD C D) e ⟨.bl _,H,I,rfl,q⟩
def OT(e:X.A.units+64<cLine):qm X (cm .NotEq) (yY X.K pT):=by intro d s E H x y v u Q I f g h;obtain⟨i,F,O,j,l,a,b,k,c,m,n,o,p,r,q⟩:=h;obtain⟨G,t,w,z⟩:=Ah I c 8 j x v a m f o;obtain⟨J,B,C,D⟩:=Ah I c 8 l y u b n g p;cases r;exact PyProof.Rows.ne_dataH t B (GD w z) (GD C D) e ⟨.bl _,H,I,rfl,q⟩
def Gc{A:ba}{n m:Nat}(h:m<=8)(a:A.units+64<cLine):A.units+1+min n m<cLine:=by have:=mQ n m;lia
def Zk(e:X.A.units+64<cLine):qm X (cm .In) (yY X.K Av):=by
 intro f s D H x y v u Q I n o h;obtain⟨p,E,O,r,t,a,b,k,c,w,z,B,C,d,q⟩:=h;obtain⟨F,g,i,j⟩:=Ah I c 8 r x v a w n B;obtain⟨G,l,m,J⟩:=Ah I c 8 t y u b z o C;cases b with
 |list xs=>cases d;exact SeqAt.in_list_reads l g m i (Gc j e) ⟨.bl _,H,I,rfl,q⟩
 |tuple xs=>cases d;exact SeqAt.in_tuple_reads l g m i (Gc j e) ⟨.bl _,H,I,rfl,q⟩
 |_=>cases d
def zgf(e:X.A.units+64<cLine):qm X (cm .NotIn) (yY X.K B7):=by
 intro f s D H x y v u Q I n o h;obtain⟨p,E,O,r,t,a,b,k,c,w,z,B,C,d,q⟩:=h;obtain⟨F,g,i,j⟩:=Ah I c 8 r x v a w n B;obtain⟨G,l,m,J⟩:=Ah I c 8 t y u b z o C;cases b with
 |list xs=>cases d;exact SeqAt.notIn_list_reads l g m i (Gc j e) ⟨.bl _,H,I,rfl,q⟩
 |tuple xs=>cases d;exact SeqAt.notIn_tuple_reads l g m i (Gc j e) ⟨.bl _,H,I,rfl,q⟩
 |_=>cases d
end
end DL
namespace DL
open PySem L2
section
variable{e:aT}
noncomputable def rJ(O:Ow):D->Option (List D)
 |.lst ds=>KB ds
 |.own k=>O[k]?
 |_=>KF
def Ao:D->Option (List D)
 |.tup ds=>KB ds
 |_=>KF
def uX(cl:n6 K H XV μ O)(h:Y2 K H XV μ d v)(e:rJ O d=KB ds):∃p vs,v=.ref p/\qz K H p vs/\n8 K H XV μ ds vs:=by
 cases d with
 | lst xs=>
  unfold Y2 at h;obtain⟨p,vs,rfl,l,q⟩:=h;cases e;exact⟨p,vs,rfl,l.sq,q⟩
 | own k=>
  unfold Y2 at h;obtain⟨p,rfl,a⟩:=h;obtain⟨g,vs,b,c,f⟩:=cl.at_ k p a;have e:O[k]?=KB ds:=e;rw[b] at e;cases e;exact⟨p,vs,rfl,.of c,f⟩
 |_=>cases e
def AZ(h:Y2 K H XV μ d v)(e:Ao d=KB ds):∃p vs,v=.ref p/\qT K H p vs/\n8 K H XV μ ds vs:=by
 cases d with
 | tup xs=>
  unfold Y2 at h;obtain⟨p,vs,rfl,l,q⟩:=h;cases e;exact⟨p,vs,rfl,l.sq,q⟩
 |_=>cases e
def zpj:Ow->D->D->R D:=λO x y=>match x,y with
 |.str s,.str t=>if s.length+t.length<=4000000 then .ok (.str (s++t)) O else .bad
 |_,_=>.bad
end
def QT(h:n8 K H XV μ ds vs)(e:atI ds i=KB d):∃v,atI vs i=KB v/\Y2 K H XV μ d v:=by
 unfold atI at e ⊢;rw[<- h.length];cases q:ixN ds.length i with
 |none=>rw[q] at e;cases e
 |some j=>rw[q] at e;exact h.get e
def qf:Ow->D->D->R D:=λO x y=>match y with
 | .int i=>match rJ O x with
  | some ds=>match atI ds i with
   |some d=>.ok d O
   |none=>.bad
  | none=>match Ao x with
   | some ds=>match atI ds i with
    |some d=>.ok d O
    |none=>.bad
   | none=>match x with
    | .str cs=>if cs.length<=4000000 then match atI cs i with
      |some ch=>.ok (.str [ch]) O
      |none=>.bad
     else .bad
    |_=>.bad
 |_=>.bad
section
variable{X:Cx}{Ex:Nat->Hp->Prop}{pos:Pos}{a b c e:aT}{ta tb:DE}
def Xg:rD X Ex (Tp X.K) qf:=by
 intro H o A O x y v w Q c g n q;unfold qf at q;split at q
 ·rename_i i;unfold Y2 at n;subst n;split at q
  ·rename_i r e;obtain⟨p,h,rfl,j,k⟩:=uX c g e;split at q
   ·rename_i d f;obtain⟨z,l,m⟩:=QT k f;exact .inl ⟨p,h,i,z,rfl,rfl,j,l,post.here q c m⟩
   ·exact aj q
  ·split at q
   ·rename_i r e;obtain⟨p,h,rfl,j,k⟩:=AZ g e;split at q
    ·rename_i d f;obtain⟨z,l,m⟩:=QT k f;exact .inr (.inl ⟨p,h,i,z,rfl,rfl,j,l,post.here q c m⟩)
    ·exact aj q
   ·split at q
    ·rename_i s _ _;unfold Y2 at g;subst g;obtain⟨t,q⟩:=post.ite q;split at q
     ·rename_i u f;refine .inr (.inr ⟨_,i,u,rfl,rfl,?_,?_,post.here q c JJ⟩)
      ·show s.toArray.size<=_;rw[aH];exact xv t
      ·simpa using f
     ·exact aj q
    ·exact aj q
 ·exact aj q
def Vx(d:PD X Ex a ta)(f:PD X Ex b tb)(g:OR b):PD X Ex (.Subscript a b pos) (f_ qf ta tb):=q9 (VM WU d.out f.out g) (Gu Xg)
def pB(f:Ow->List D->R D)(t:DA):DE:=λσ O=>(t σ O).bnd λxs O1=>f O1 xs
def uH(X:Cx)(Ex:Nat->Hp->Prop)(r:List V->Hp->VK->Prop)(f:Ow->List D->R D):Prop:=∀(H:Hp)(XV μ:List ae)(O:Ow)(xs:List D)(vs:List V)(Q:VK),n6 X.K H XV μ O->n8 X.K H XV μ xs vs->qy Ex X.K H XV μ (f O xs) Q->r vs H Q
def Ov(h:uH X Ex r f)(XV μ:List ae)(σ:Sg)(O:Ow)(g:St)(H:Hp)(Q:VK)(i:n9 X.K H XV μ σ g)(j:n6 X.K H XV μ O)(q:qy Ex X.K H XV μ (pB f t σ O) Q):HI r (uh Ex X.K t) g H Q:=
 uh.go i j q λk l m n o s x c d p=>h n XV o l k m Q c d p
def ym{x:Str}{id:String}{p:Pos}{d:List aT}{r:List V->Hp->VK->Prop}{f:Ow->List D->R D}{t:DA}(g:on X (.builtin id) r)(h:uH X Ex r f)(i:Gl X x)(j:X.mg x=KF)(k:bA x=KB (.builtin id))(l:tJ X Ex (e::d) t)
  (m:x ≠ "__name__":=by decide) (n:(x==("__debug__":Str))=K7:=by decide) (o:aV (e::d) X.env=(K7,eval e X.env)::aV d X.env:=by rfl) (q:(backTo pos (aV d X.env)).any (·.1)=K7:=by rfl):
  PD X Ex (.Call (.Name x p) (e::d) [] pos) (pB f t):=q9 (Kg g i j k l.out m n o q) (Ov h)
def RX(d:on X (.type T) r)(h:uH X Ex r f)(g:Gl X x)(i:X.mg x=KF)(j:bA x=KB (.type T))(k:tJ X Ex (e::es) t)
  (l:x ≠ "__name__":=by decide) (m:(x==("__debug__":Str))=K7:=by decide) (n:aV (e::es) X.env=(K7,eval e X.env)::aV es X.env:=by rfl) (o:(backTo pos (aV es X.env)).any (·.1)=K7:=by rfl):
  PD X Ex (.Call (.Name x p) (e::es) [] pos) (pB f t):=q9 (RU d g i j k.out l m n o) (Ov h)
def qB:Ow->List D->R D:=λO xs=>match xs with
 | [x]=>match rJ O x with
  |some ds=>.ok (.int ds.length) O
  | none=>match Ao x with
   |some ds=>.ok (.int ds.length) O
   | none=>match x with
    |.str cs=>if cs.length<=4000000 then .ok (.int cs.length) O else .bad
    |_=>.bad
 |_=>.bad
def XS:uH X Ex (λxs H Q=>∃x n,xs=[x]/\Nk X.K x H n/\Q (.int n) H) qB:=by
 intro H l o O xs r Q c d q;unfold qB at q;split at q
 ·rename_i x;obtain⟨v,rfl,f⟩:=uf d;split at q
  ·rename_i h e;obtain⟨p,i,rfl,j,k⟩:=uX c f e;exact⟨_,h.length,rfl,.inl ⟨i,j,k.length⟩,post.here q c sN⟩
  ·split at q
   ·rename_i h e;obtain⟨p,i,rfl,j,k⟩:=AZ f e;exact⟨_,h.length,rfl,.inr ⟨i,j,k.length⟩,post.here q c sN⟩
   ·split at q
    ·rename_i g _ _;unfold Y2 at f;subst f;obtain⟨m,q⟩:=post.ite q;refine⟨_,g.length,rfl,⟨?_,?_⟩,post.here q c sN⟩
     ·show g.toArray.size<=_;rw[aH];exact xv m
     ·show g.length=g.toArray.size;rw[aH]
    ·exact aj q
 ·exact aj q
noncomputable def IL:Ow->List D->R D:=λO xs=>match xs with
 |[.int i]=>.ok (.int i) O
 |[.bl k]=>.ok (.int (if k then 1 else 0)) O
 |_=>.bad
def WL:uH X Ex (λxs H Q=>(∃i,xs=[.int i]/\Q (.int i) H) \/ ∃k,xs=[.bl k]/\Q (.int (if k then 1 else 0)) H) IL:=by
 intro H g h O xs j Q c d q;unfold IL at q;split at q
 ·obtain⟨v,rfl,f⟩:=uf d;unfold Y2 at f;subst f;exact .inl ⟨_,rfl,post.here q c sN⟩
 ·obtain⟨v,rfl,f⟩:=uf d;unfold Y2 at f;subst f;exact .inr ⟨_,rfl,post.here q c sN⟩
 ·exact aj q
def yO:Ow->List D->R D:=λO xs=>match xs with
 | [x]=>match rJ O x with
  |some ds=>.ok (.tup ds) O
  | none=>match Ao x with
   |some ds=>.ok (.tup ds) O
   |none=>.bad
 |_=>.bad
def zgn:uH X Ex (λxs H Q=>∃p f,xs=[.ref p]/\((qz X.K H p f/\∀l,H l=KF->Q (.ref l) (upd H l (.tup f)))\/(qT X.K H p f/\Q (.ref p) H))) yO:=by
 intro H m o O xs r Q c d q;unfold yO at q;split at q
 ·rename_i x;obtain⟨v,rfl,g⟩:=uf d;split at q
  ·rename_i n e;obtain⟨p,h,rfl,i,k⟩:=uX c g e;exact⟨p,h,rfl,.inl ⟨i,λl j=>post.ok q (.laid j) (c.laid j) (Y2.newT c j k)⟩⟩
  ·split at q
   ·rename_i n e;obtain⟨p,h,rfl,i,k⟩:=AZ g e;refine⟨p,h,rfl,.inr ⟨i,post.here q c ?_⟩⟩;cases x with
    |tup f=>cases e;exact g
    |_=>cases e
   ·exact aj q
 ·exact aj q
def AU:Ow->List D->R D:=λO xs=>match xs with
 |[.int i,.int j]=>.ok (.int (if j>i then j else i)) O
 |_=>.bad
def AN:Ow->List D->R D:=λO xs=>match xs with
 |[.int i,.int j]=>.ok (.int (if j<i then j else i)) O
 |_=>.bad
def Zr:uH X Ex (λxs H Q=>∃i j,xs=[.int i,.int j]/\Q (.int (if j>i then j else i)) H) AU:=by
 intro H h k O xs l Q c d q;unfold AU at q;split at q
 ·obtain⟨v,w,rfl,f,g⟩:=zU d;unfold Y2 at f g;subst f;subst g;exact⟨_,_,rfl,post.here q c sN⟩
 ·exact aj q
def ZM:uH X Ex (λxs H Q=>∃i j,xs=[.int i,.int j]/\Q (.int (if j<i then j else i)) H) AN:=by
 intro H h k O xs l Q c d q;unfold AN at q;split at q
 ·obtain⟨v,w,rfl,f,g⟩:=zU d;unfold Y2 at f g;subst f;subst g;exact⟨_,_,rfl,post.here q c sN⟩
 ·exact aj q
end
noncomputable def IH(K:ai)(Ec:XK->Nat->Hp->Prop)(n:Nat)(F:List D->Ow->R D):Sp:=λvs H Q E=>vs.length=n/\∃XV μ ds O,n8 K H XV μ ds vs/\n6 K H XV μ O/\qy (Ec E) K H XV μ (F ds O) Q
abbrev yC:XK->Nat->Hp->Prop:=λ_ _ _=>False
section
variable{X:Cx}{CX:wF}{k:Nat}{f:ae}{fd:eD}{ps:List Str}{E:XK}{Ec:XK->Nat->Hp->Prop}{x:Str}{p pos:Pos}{e:aT}{es:List aT}{t:DA}{F:List D->Ow->R D}{n:Nat}
noncomputable def j_(n:Nat)(F:List D->Ow->R D)(t:DA):DE:=λσ O=>(t σ O).bnd λds O1=>if ds.length=n then F ds O1 else .bad
def Vw(G:oB X.prog X.w X.K X.mg X.base CX k f fd ps (IH X.K Ec n F))(d:om k X.A)(g:Gl X x)(h:X.mg x=KB (.ref f))(i:cZ X.K (.ref f)=KM)(j:Binds X.K fd ps [])(l:Gz CX X E)(m:tJ X (Ec E) (e::es) t)
  (o:(x==("__debug__":Str))=K7:=by decide) (r:aV (e::es) X.env=(K7,eval e X.env)::aV es X.env:=by rfl) (s:(backTo pos (aV es X.env)).any (·.1)=K7:=by rfl):
  PD X (Ec E) (.Call (.Name x p) (e::es) [] pos) (j_ n F t):=
 q9 (OZ (dvs:=[]) (ds:=[]) G d g h i j .nil l m.out o r s) λa I J O L H Q u v q=>uh.go u v q λds y M N z P S B c b=>by
  obtain⟨C,b⟩:=post.ite b;refine⟨by rw[bC,<- c.length];exact C,a,z,ds,y,?_,B,b⟩;rw[bC];exact c
end
noncomputable def fin(r:RS):R D:=match r with
 |.nx _ O=>.ok .non O
 |.rt d O=>.ok d O
 |.exc c O=>.exc c O
 |_=>.bad
def qv(n:Nat)(t:DS):List D->Ow->R D:=λds O=>fin (t (ds.map KB++aw (n-ds.length) KF) O)
def SJ(h:n8 K H XV μ ds vs)(N:List Str):n9 K H XV μ (ds.map KB++aw (N.length-ds.length) KF) (L2.start N vs):=by
 unfold L2.start;have b:=h.length;refine⟨by simp[b],λi d e=>?_⟩;have a:i<ds.length:=by
  by_cases a:i<ds.length
  ·exact a
  ·rw[bo (by simpa using a),e8] at e;split at e<;>cases e
 rw[aJ (by simpa using a),a8] at e;cases q:ds[i]? with
 |none=>rw[q] at e;cases e
 | some d'=>
  rw[q] at e;cases e;obtain⟨v,c,f⟩:=h.get q;exact⟨v,by rw[aJ (by simp;lia),a8,c];rfl,f⟩
abbrev C9(P:aN)(w:aY)(K:ai)(mg:Str->Option ab)(base:aX)(N:List Str)(qual:Str)(scope:c8)(f:ae)(o_:ab)(A:ba)(outer:List Env)(s:ag)(H:Hp)(E:XK):Cx:=
 (AL (λ_ _ _ _ _ _=>False) P w K mg base N qual scope f o_ A outer s H E).nox
def VI{P:aN}{w:aY}{K:ai}{mg:Str->Option ab}{base:aX}{k:Nat}{f:ae}{name a:Str}{g:iI}{body:List eJ}{scope:c8}{u y i z j ct D:ab}{B F:Option ae}{G:Array (Option ab)}{N o:List Str}{t:DS}
  (I:K.lookup f=KB ⟨D,F,.func (cF name a g body scope u y i z B j ct),G⟩) (J:fh K j a=KM) (S:pV N o scope)
  (L:∀(A:ba)(b:List Env)(s:ag)(H:Hp)(E:XK),om k (A.deeper (fe a scope s.heap.objs.size f j))->sV (C9 P w K mg base N a scope f j A b s H E) qc body t):
  oB P w K mg base (λ_ _ _ _ _ _=>False) (k+1) f (cF name a g body scope u y i z B j ct) o (IH K yC o.length (qv N.length t)):=by
 refine pP I J S (λM H Q E h=>h.1) λA b s H M Q E R h=>?_;obtain⟨V,p,T,C,O,d,c,q⟩:=h;refine⟨_,(L A b s H E R).out.nox,p,T,_,O,SJ d N,c,?_⟩;unfold qv at q;generalize t (C.map KB++aw (N.length-C.length) KF) O=r at q;cases r with
 |nx σ O'=>exact λW l m x e n=>q .non l m x n GK
 |rt d' O'=>exact λv l m x n r=>q v l m x n r
 |bk σ O'=>exact aj q
 |ct σ O'=>exact aj q
 |exc n O'=>exact λl m x U=>q l m x U
 |bad=>exact aj q
noncomputable def AV:D->String
 |.non => "NoneType"
 |.bl _ => "bool"
 |.int _ => "int"
 |.str _ => "str"
 |.lst _ => "list"
 |.own _ => "list"
 |.tup _ => "tuple"
 |.dct => "dict"
 |.exn _ => "exception"
 |.tab _ => "bool"
 |.map _ _ => "dict"
 |.adr _ => "function"
def F8(t c:String):Bool:=t==c||(t == "bool" && c == "int")
section
variable{X:Cx}{Ex:Nat->Hp->Prop}{pos:Pos}{a b c e:aT}{ta te:DE}{Y1:List (ae×Obj)}{c_:St}{H:Hp}{s:ag}{XV μ:List ae}{O:Ow}
def wN:List String:=["NoneType", "bool", "int", "str", "list", "tuple", "dict"]
def yj(K:ai){t c:String}(d:t∈wN)(f:c∈["int", "bool", "str", "list", "tuple", "dict"]):kQ K (.type t) (.type c)=KB (F8 t c):=by simp only[wN,aq,aZ,or_false] at d f;rcases d with rfl|rfl|rfl|rfl|rfl|rfl|rfl<;>rcases f with rfl|rfl|rfl|rfl|rfl|rfl<;>first|rfl|decide
def zao(I:L2.Inv X Y1 c_ H s)(cl:n6 X.K H XV μ O)(h:Y2 X.K H XV μ d v)(r:RelV v u)(E:(AV d == "function")=K7):∃(T:ab)(A:aX->Prop),PySem.W.KitX X.K u T A/\A s.heap/\u ≠ .builtin "__main__.__loader__#opaque"/\∀c∈(["int", "bool", "str", "list", "tuple", "dict"]:List String),kQ X.K T (.type c)=KB (F8 (AV d) c):=by
 cases d with
 |non=>unfold Y2 at h;subst h;cases r;exact⟨.type "NoneType",_,PySem.W.kitx_none,ft,(λz=>nomatch z),λc f=>yj X.K (t := "NoneType") (by simp[wN]) f⟩
 |bl _=>unfold Y2 at h;subst h;cases r;exact⟨.type "bool",_,my,ft,(λz=>nomatch z),λc f=>yj X.K (t := "bool") (by simp[wN]) f⟩
 |int _=>unfold Y2 at h;subst h;obtain⟨t,rfl⟩:=r;exact⟨.type "int",_,PySem.W.kitx_int,ft,(λz=>nomatch z),λc f=>yj X.K (t := "int") (by simp[wN]) f⟩
 |str _=>unfold Y2 at h;subst h;obtain⟨t,rfl⟩:=r;exact⟨.type "str",_,PySem.W.kitx_str,ft,(λz=>nomatch z),λc f=>yj X.K (t := "str") (by simp[wN]) f⟩
 | lst x=>
  unfold Y2 at h;obtain⟨p,m,rfl,l,q⟩:=h;cases r;obtain⟨B,D,⟨o,n,j,i,_⟩,_⟩:=I.list l.sq;exact⟨.type "list",_,mz,⟨o,j,i⟩,(λz=>nomatch z),λc f=>yj X.K (t := "list") (by simp[wN]) f⟩
 | own k=>
  unfold Y2 at h;obtain⟨p,rfl,F⟩:=h;cases r;obtain⟨x,m,_,i,_⟩:=cl.at_ k p F;obtain⟨B,D,⟨o,n,j,i,_⟩,_⟩:=I.list (.of i);exact⟨.type "list",_,mz,⟨o,j,i⟩,(λz=>nomatch z),λc f=>yj X.K (t := "list") (by simp[wN]) f⟩
 | tup x=>
  unfold Y2 at h;obtain⟨p,m,rfl,l,q⟩:=h;cases r;obtain⟨B,D,⟨o,j,i,_⟩,_⟩:=I.tuple l.sq;exact⟨.type "tuple",_,PySem.W.kitx_tuple,⟨o,j,i⟩,(λz=>nomatch z),λc f=>yj X.K (t := "tuple") (by simp[wN]) f⟩
 | dct=>
  unfold Y2 at h;obtain⟨p,rfl,w,_⟩:=h;cases r;obtain⟨_,_,m,_,o,G,J,j,i,_⟩:=Rd.ok w I.hok;exact⟨.type "dict",_,mB,⟨o,j,i.1⟩,(λz=>nomatch z),λc f=>yj X.K (t := "dict") (by simp[wN]) f⟩
 |tab _=>unfold Y2 at h;obtain⟨rfl,_⟩:=h;cases r;exact⟨.type "bool",_,my,ft,(λz=>nomatch z),λc f=>yj X.K (t := "bool") (by simp[wN]) f⟩
 | map ks x=>
  unfold Y2 at h;obtain⟨p,m,rfl,w,_⟩:=h;cases r;obtain⟨_,_,m,_,o,G,J,j,i,_⟩:=Rd.ok (.inr w) I.hok;exact⟨.type "dict",_,mB,⟨o,j,i.1⟩,(λz=>nomatch z),λc f=>yj X.K (t := "dict") (by simp[wN]) f⟩
 |adr _=>cases E
 | exn C=>
  unfold Y2 at h;obtain⟨p,L,rfl,⟨k,g⟩,w,_⟩:=h;cases r;obtain⟨y,_⟩:=Rd.ok w I.hok;refine⟨_,_,W5 k,g _ y,(λz=>nomatch z),λc f=>?_⟩;rw[k.kit c f];simp only[aq,aZ,or_false] at f;rcases f with rfl|rfl|rfl|rfl|rfl|rfl<;>rfl
def TF:List String:=["int", "bool", "str", "list", "tuple", "dict"]
def zdf:on X (.builtin "isinstance") (λxs H Q=>∃x C XV μ O d,xs=[x,.ty C]/\C∈TF/\n6 X.K H XV μ O/\Y2 X.K H XV μ d x/\(AV d == "function")=K7/\Q (.bl (F8 (AV d) C)) H):=by intro Y1 s t H xs v Q I r h;obtain⟨x,C,XV,μ,O,d,rfl,f,g,i,j,q⟩:=h;obtain⟨u,w,rfl,k,l⟩:=Cb r;cases l;obtain⟨T,y,Z,p,m,n⟩:=zao I g i k j;exact wT I (PySem.W.kia_one Z I.kIn p (n _ f) m λo z=>⟨.bl _,H,I.tok o,rfl,q⟩)
def uq(C:String)(t:DE):DE:=λσ O=>(t σ O).bnd λd O1=>if (AV d == "function")=KM then .bad else .ok (.bl (F8 (AV d) C)) O1
def Gx(o:PD X Ex a ta)(t:n∈TF)(u:Gl X "isinstance")(w:X.mg "isinstance" = KF)(y:bA "isinstance" = KB (.builtin "isinstance"))(f:Gl X C)(g:X.mg C=KF)(h:bA C=KB (.type n))(i:C ≠ "__name__":=by decide)
  (j:(C==("__debug__":Str))=K7:=by decide) (l:aV [a,.Name C p'] X.env=(K7,eval a X.env)::aV [.Name C p'] X.env:=by rfl) (z:aV [.Name C p'] X.env=[(K7,eval (.Name C p') X.env)]:=by rfl) (A:(backTo pos (aV [.Name C p'] X.env)).any (·.1)=K7:=by rfl):
  PD X Ex (.Call (.Name "isinstance" p) [a,.Name C p'] [] pos) (uq n ta):=
 q9 (Kg (zdf (X:=X)) u w y (DP o.out (DP (Z4 (v:=.ty n) f g h rfl i j) Gw z) l) 'u' 'u' l A) λXV μ I O c_ H Q B D q=>rd.go B D q λd E v J F K x m r k=>by
  obtain⟨G,k⟩:=post.iteN k;exact⟨v,n,XV,F,E,d,rfl,t,m,r,G,post.here k m tN⟩
noncomputable def xY(to:DE)(t:DA):DE:=λσ O=>(to σ O).bnd λx O1=>match x with
 | .own k=>(t σ O1).bnd λys O2=>match ys,O2[k]? with
  |[y],KB ds=>if ds.length<4000000 then .ok .non (O2.set k (ds++[y])) else .bad
  |_,_=>.bad
 |_=>.bad
def zdp(n:PD X Ex o to)(u:tJ X Ex (e::es) t)(z:attributeBase o "append" X.env (eval o X.env)=eval o X.env:=by rfl)
  (B:((backTo pK (aV (e::es) X.env)).all (λx=>!x.1)&&(backToKw pK (keywordEach [] X.env)).all (λx=>x.1.isSome)&&decide ((e::es).length+([]:List fY).length+(if ([]:List fY).isEmpty then 0 else 1)<30))=KM:=by rfl)
  (C:(apos.endLine==pK.line)=KM:=by rfl) (D:aV (e::es) X.env=(K7,eval e X.env)::aV es X.env:=by rfl) (E:(backTo pK (aV es X.env)).any (·.1)=K7:=by rfl):
  PD X Ex (.Call (.Attribute o "append" apos) (e::es) [] pK) (xY to t):=
 q9 (Gj kg kP PySem.F.type_list_append RG n.out u.out z B C D E) λXV μ σ O c_ H Q G I q=>rd.go G I q λd O1 v H1 g_ J x h r p=>by
  cases d with
  | own k=>
   have K:=r;unfold Y2 at r;obtain⟨A,rfl,L⟩:=r;obtain⟨ds,M,h1,N,h3⟩:=h.at_ k A L;refine⟨.inl ⟨rfl,M,.of N⟩,uh.go J h p λys O2 ws H2 P e3 R i S f=>?_⟩;split at f
   ·rename_i y T U;obtain⟨V,f⟩:=post.ite f;obtain⟨w,rfl,W⟩:=uf S;have g:P[k]?=KB A:=by
     have:=K.ext R;unfold Y2 at this;obtain⟨A',Y,Z⟩:=this;cases Y;exact Z
    obtain⟨FP,Bd,j,l,m⟩:=i.at_ k A g;rw[U] at j;cases j;refine⟨A,Bd,w,rfl,rfl,l,bb (by rw[<- m.length];exact V) 'u',?_⟩;exact post.ok f (.put (aL g) ⟨_,l⟩) (i.put g (m.append (.cons W .nil))) GK
   ·exact aj f
  |_=>exact aj p
def yE(te to ti:DE):DS:=λσ O=>(te σ O).bnS λy O1=>(to σ O1).bnS λx O2=>(ti σ O2).bnS λi O3=>match x,i with
 | .own k,.int i=>match O3[k]? with
  | some ds=>match ixN ds.length i with
   |some j=>.nx σ (O3.set k (ds.set j y))
   |none=>.bad
  |none=>.bad
 |_,_=>.bad
def YT(z:PD X Ex e te)(B:PD X Ex o to)(C:PD X Ex i ti)(D:∀v,assign (.Subscript o i pos) X.env v=(do
   let ov <- holding [v] (eval o X.env);let iv <- holding [v,ov] (eval i X.env)
   standAt pos
   holding [v,ov,iv] (setItem ov iv v)
   release [v,ov,iv] []):=by intro _;rfl)(F:gJ [.Subscript o i pos] e r8.line X.env=pure K7:=by rfl)(G:gK [.Subscript o i pos] e X.env=pure KF:=by rfl)
  (I:(gE [.Subscript o i pos] X.env).map (·.2)=[assign (.Subscript o i pos) X.env]:=by rfl):rK X Ex (.Assign [.Subscript o i pos] e r8) (yE te to ti):=
 xl (OD z.out (WV B.out C.out zg1 D) F G I) λXV μ σ O E c_ H J K q=>rd.goS J K q λy O1 v H1 g_ L x1 M N P=>rd.goS L M P λx O2 u H2 pF Q R S T U=>rd.goS Q S U λii O3 w H3 V W h l n d=>by
  split at d
  ·rename_i k j;split at d
   ·rename_i ds Y;split at d
    ·rename_i m Z;have p:=T.ext h;unfold Y2 at p n;obtain⟨A,rfl,f⟩:=p;subst n;obtain⟨FP,Bd,r,g,t⟩:=l.at_ k A f;rw[Y] at r;cases r;refine⟨A,Bd,j,m,rfl,rfl,g,by rw[<- t.length];exact Z,?_⟩;exact d c_ _ V (.put (aL f) ⟨_,g⟩) (W.ext (.put (aL f) ⟨_,g⟩)) (l.put f (t.set ((N.ext R).ext h) m))
    ·exact aj d
   ·exact aj d
  ·exact aj d
def wC:List D->Option (List Bool)
 |[]=>KB []
 |.bl b::r=>(wC r).map (b :: ·)
 |_=>KF
theorem Js:∀{ds:List D}{vs:List V}{f:List Bool},n8 K H XV μ ds vs->wC ds=KB f->vs=f.map V.bl
 |[],vs,f,h,e=>by unfold n8 at h;subst h;cases e;rfl
 | d::ds,vs,f,h,e=>by
  unfold n8 at h;obtain⟨v,r,rfl,g,i⟩:=h;cases d with
  | bl b=>
   unfold wC at e;cases q:wC ds with
   |none=>rw[q] at e;cases e
   | some cs=>
    rw[q] at e;cases e;unfold Y2 at g;subst g;rw[Js i q];rfl
  |_=>cases e
def vm:Ow->List D->R D:=λO xs=>match xs with
 | [x]=>match rJ O x with
  | some ds=>match wC ds with
   |some bs=>.ok (.bl (bs.all id)) O
   |none=>.bad
  |none=>.bad
 |_=>.bad
def AJ:Ow->List D->R D:=λO xs=>match xs with
 | [x]=>match rJ O x with
  | some ds=>match wC ds with
   |some bs=>.ok (.bl (bs.any id)) O
   |none=>.bad
  |none=>.bad
 |_=>.bad
def WQ:uH X Ex (λxs H Q=>∃(p:ae)(f:List Bool),xs=[.ref p]/\qz X.K H p (f.map V.bl)/\Q (.bl (f.all id)) H) vm:=by
 intro H XV μ O xs k Q c d q;unfold vm at q;split at q
 ·rename_i x;obtain⟨v,rfl,g⟩:=uf d;split at q
  ·rename_i l e;obtain⟨p,m,rfl,h,i⟩:=uX c g e;split at q
   ·rename_i f j;refine⟨p,f,rfl,?_,post.here q c tN⟩;rw[<- Js i j];exact h
   ·exact aj q
  ·exact aj q
 ·exact aj q
def WB:uH X Ex (λxs H Q=>∃(p:ae)(f:List Bool),xs=[.ref p]/\qz X.K H p (f.map V.bl)/\Q (.bl (f.any id)) H) AJ:=by
 intro H XV μ O xs k Q c d q;unfold AJ at q;split at q
 ·rename_i x;obtain⟨v,rfl,g⟩:=uf d;split at q
  ·rename_i l e;obtain⟨p,m,rfl,h,i⟩:=uX c g e;split at q
   ·rename_i f j;refine⟨p,f,rfl,?_,post.here q c tN⟩;rw[<- Js i j];exact h
   ·exact aj q
  ·exact aj q
 ·exact aj q
def zei(f:List Bool):(aA f.length).all (λi=>f.getD i KM)=f.all id:=by
 rw[eO,ak,ak];constructor
 ·intro h b g;obtain⟨i,d,e⟩:=dM.mp g;have:=h i (by simpa using d);rw[aG,ao d,e] at this;exact this
 ·intro h i d;have d:i<f.length:=by simpa using d
  rw[aG,ao d];exact h _ (cr d)
def zfz(f:List Bool):(aA f.length).any (λi=>f.getD i KM)=f.any id:=by
 rw[eO,bF,bF];constructor
 ·rintro⟨i,d,h⟩;have d:i<f.length:=by simpa using d
  rw[aG,ao d] at h;exact⟨_,cr d,h⟩
 ·rintro⟨b,g,h⟩;obtain⟨i,d,e⟩:=dM.mp g;exact⟨i,by simpa using d,by rw[aG,ao d,e];exact h⟩
def PV{d:List Bool}{f:List ab}(r:oa (d.map V.bl) f){i:Nat}{v:ab}(h:f.toArray[i]?=KB v):v=.bool (d.getD i KM):=by
 have h:f[i]?=KB v:=by simpa using h
 have g:i<d.length:=by
  have:=r.length;have:=(ar.mp h).1;simp at *;lia
 obtain⟨u,j,k⟩:=r.get (i:=i) (x:=.bl d[i]) (by rw[a8,ao g];rfl);rw[h] at j;cases j;cases k;rw[aG,ao g];rfl
def zev(k:X.calm=KM):on X (.builtin "all") (λxs H Q=>∃(p:ae)(d:List Bool),xs=[.ref p]/\qz X.K H p (d.map V.bl)/\Q (.bl (d.all id)) H):=by
 intro Y1 s C H xs D Q I r h;obtain⟨p,d,rfl,l,q⟩:=h;obtain⟨u,rfl,m⟩:=uI r;cases m;obtain⟨f,j,g,E⟩:=I.list l;have t:f.toArray.size=d.length:=by have:=j.length;simp at *;lia
 have w:p≠s.heap.objs.size:=by obtain⟨o,n,e,_⟩:=g;exact bh (aI e)
 refine wT I (call_all_walk (fO g.isList ?_));refine⟨s.heap.objs.size,_,_,f.toArray.size,_,_,λi=>d.getD i KM,rfl,lr (show X.A.in1.handled=KF from I.ok.hd k) _ p w f.toArray,⟨⟨_,aC _ rfl,rfl,rfl⟩,g.isList.push _⟩,λi v F G J x y=>?_,λL z B M=>?_⟩
 ·rw[PV j x];exact cX y
 ·rw[t,zei];exact⟨.bl _,H,I.kept (t':=z) λb o e=>B b o (by simpa using bh (aI e)) (af _ e),rfl,q⟩
def zdM(k:X.calm=KM):on X (.builtin "any") (λxs H Q=>∃(p:ae)(d:List Bool),xs=[.ref p]/\qz X.K H p (d.map V.bl)/\Q (.bl (d.any id)) H):=by
 intro Y1 s C H xs D Q I r h;obtain⟨p,d,rfl,l,q⟩:=h;obtain⟨u,rfl,m⟩:=uI r;cases m;obtain⟨f,j,g,E⟩:=I.list l;have t:f.toArray.size=d.length:=by have:=j.length;simp at *;lia
 have w:p≠s.heap.objs.size:=by obtain⟨o,n,e,_⟩:=g;exact bh (aI e)
 refine wT I (call_any_walk (fO g.isList ?_));refine⟨s.heap.objs.size,_,_,f.toArray.size,_,_,λi=>d.getD i KM,rfl,lr (show X.A.in1.handled=KF from I.ok.hd k) _ p w f.toArray,⟨⟨_,aC _ rfl,rfl,rfl⟩,g.isList.push _⟩,λi v F G J x y=>?_,λL z B M=>?_⟩
 ·rw[PV j x];exact cX y
 ·rw[t,zfz];exact⟨.bl _,H,I.kept (t':=z) λb o e=>B b o (by simpa using bh (aI e)) (af _ e),rfl,q⟩
end
section
variable{X:Cx}{Ex:Nat->Hp->Prop}{pos:Pos}{a b c e o:aT}{ta tb te to:DE}{Y1:List (ae×Obj)}{c_:St}{H:Hp}{s:ag}{XV μ:List ae}{O:Ow}
def NY(K:ai):R2:=λx y H Q=>∃l b xs zs,x=.ref l/\y=.ref b/\qz K H l xs/\qz K H b zs/\xs.length+zs.length<=qN/\∀p,H p=KF->Q (.ref p) (upd H p (.lst (xs++zs)))
def Z3:qm X (eM .Add) (NY X.K):=by
 intro Y1 s P H x y v u Q I z A h;obtain⟨l,b,R,S,rfl,rfl,B,C,T,q⟩:=h;cases z;cases A;obtain⟨d,g,D,U⟩:=I.list B;obtain⟨f,i,E,V⟩:=I.list C;obtain⟨⟨W,Y,Z,G⟩,J,j,k,m,n⟩:=D;obtain⟨⟨c2,d2,t2,L⟩,M,p,r,t,w⟩:=E;simp only at k m n r t w;subst k m n r t w;have N:d.toArray++f.toArray=(d++f).toArray:=by simp
 have l1:=g.length;have l2:=i.length;refine kN ⟨_,j,rfl⟩ ⟨_,p,rfl⟩ PySem.noFill_list_add PySem.seq_list_add PySem.F.slot_list_add PySem.F.entry_list_add (PySem.F.args_list_add_2 _ _)
  (PyProof.Rows.list_addW l b d.toArray f.toArray J M KF KF G L (by simp only[aH];lia)) ⟨j,p,?_⟩
 rw[N];exact⟨.ref _,_,I.lnew (t':=s.toks) (g.append i) (by rw[aE];lia),rfl,q _ I.fresh⟩
def rX:Ow->D->D->R D:=λO x y=>match x,y with
 |.int i,.int j=>.ok (.int (i+j)) O
 |.str p,.str q=>if p.length+q.length<=4000000 then .ok (.str (p++q)) O else .bad
 |.tup xs,.tup ys=>if xs≠[]/\xs.length+ys.length<=4000000 then .ok (.tup (xs++ys)) O else .bad
 | x,y=>match rJ O x,rJ O y with
  |some xs,KB ys=>if xs.length+ys.length<=4000000 then .ok (.lst (xs++ys)) O else .bad
  |_,_=>.bad
def NO(K:ai):R2:=λx y H Q=>(∃i j,x=.int i/\y=.int j/\Q (.int (i+j)) H)\/(∃i j,x=.str i/\y=.str j/\i.length+j.length<=qN/\Q (.str (i++j)) H)\/NA K x y H Q\/NY K x y H Q
def YE:qm X (eM .Add) (NO X.K):=qm.or Xe (qm.or zcg (qm.or YK Z3))
def X5:rD X Ex (NO X.K) rX:=by
 intro H XV μ O x y v w Q c d f q;unfold rX at q;split at q
 ·unfold Y2 at d f;subst d;subst f;exact .inl ⟨_,_,rfl,rfl,post.here q c sN⟩
 ·rename_i p j;unfold Y2 at d f;subst d;subst f;obtain⟨k,q⟩:=post.ite q;refine .inr (.inl ⟨_,_,rfl,rfl,?_,?_⟩)
  ·show p.toArray.size+j.toArray.size<=_;simp only[aH];exact xv k
  ·have e:((⟨p.toArray⟩:Str)++(⟨j.toArray⟩:Str))=⟨(p++j).toArray⟩:=by
    show(⟨p.toArray++j.toArray⟩:Str)=_;simp
   rw[e];exact post.here q c JJ
 ·rename_i D A;have m:=d;unfold Y2 at d f;obtain⟨p,n,rfl,B,h⟩:=d;obtain⟨r,t,rfl,C,i⟩:=f;obtain⟨⟨E,k⟩,q⟩:=post.ite q;have u:=h.length;have z:=i.length;refine .inr (.inr (.inl ⟨p,r,n,t,rfl,rfl,B.sq,C.sq,?_,xv 'd',?_,?_⟩))
  ·rintro rfl;exact E (dI.mp u)
  ·rintro rfl;have:A=[]:=dI.mp z;subst this;rw[bC] at q;exact post.here q c m
  ·intro _ l g;exact post.ok q (.laid g) (c.laid g) (Y2.newT c g (h.append i))
 ·split at q
  ·rename_i D A u z;obtain⟨p,n,rfl,F,h⟩:=uX c d u;obtain⟨r,t,rfl,G,i⟩:=uX c f z;obtain⟨k,q⟩:=post.ite q;have B:=h.length;have C:=i.length;exact .inr (.inr (.inr ⟨p,r,n,t,rfl,rfl,F,G,xv 'd',λl g=>post.ok q (.laid g) (c.laid g) (Y2.newL c g (h.append i))⟩))
  ·exact aj q
def XF(d:PD X Ex a ta)(f:PD X Ex b tb):PD X Ex (.BinOp a .Add b pos) (f_ rX ta tb):=zV YE X5 d f
noncomputable def Vd(i:Int):List Nat:=((toString i:Str)).cps.toList
def zpv:Ow->List D->R D:=λO xs=>match xs with
 |[.int i]=>if i.natAbs<2 ^ 64 then .ok (.str (Vd i)) O else .bad
 |_=>.bad
def JQ(x:Str):(⟨x.cps.toList.toArray⟩:Str)=x:=by cases x;simp
def To(g:Str->Str->Option V):V->List V->Hp->VK->Prop:=λx xs H Q=>∃i j v,x=.str i/\xs=[.str j]/\g i j=KB v/\Q v H
def Nm(i j:Str):Option V:=KB (.int (bS i j 0 i.length (i.length+1)).length)
def zgo:IC X "str.count" (To Nm):=by intro Y1 s k H x l v m Q I d f h;obtain⟨i,j,w,rfl,rfl,g,q⟩:=h;obtain⟨t,rfl⟩:=d;obtain⟨u,rfl,n,rfl⟩:=uI f;cases g;exact SC.count ⟨.int _,H,I.tok _,⟨_,rfl⟩,q⟩
def IW(i j:List Nat):Option D:=KB (.int (bS ⟨i.toArray⟩ ⟨j.toArray⟩ 0 i.length (i.length+1)).length)
noncomputable def MN(g:List Nat->List Nat->Option D)(to:DE)(t:DA):DE:=λσ O=>(to σ O).bnd λx O1=>match x with
 | .str i=>(t σ O1).bnd λys O2=>match ys with
  | [.str j]=>match g i j with
   |some d=>.ok d O2
   |none=>.bad
  |_=>.bad
 |_=>.bad
def VP{t:DA}{h:List aT}{f k:Pos}{name:Str}{id:String}{u:Str->Str->Option V}{g:List Nat->List Nat->Option D}(l:Slot "str" name id)(z:typeOf (.builtin id)=pure (.type "method_descriptor"))(A:IC X id (To u))
  (n:∀i j d,g i j=KB d->∃v,u ⟨i.toArray⟩ ⟨j.toArray⟩=KB v/\∀K H XV μ,Y2 K H XV μ d v) (B:PD X Ex o to) (C:tJ X Ex (e::h) t) (E:attributeBase o name X.env (eval o X.env)=eval o X.env:=by rfl)
  (F:((backTo k (aV (e::h) X.env)).all (λx=>!x.1)&&(backToKw k (keywordEach [] X.env)).all (λx=>x.1.isSome)&&decide ((e::h).length+([]:List fY).length+(if ([]:List fY).isEmpty then 0 else 1)<30))=KM:=by rfl)
  (G:(f.endLine==k.line)=KM:=by rfl) (I:aV (e::h) X.env=(K7,eval e X.env)::aV h X.env:=by rfl) (J:(backTo k (aV h X.env)).any (·.1)=K7:=by rfl):
  PD X Ex (.Call (.Attribute o name f) (e::h) [] k) (MN g to t):=
 q9 (Gj kG l z A B.out C.out E F G I J) λXV μ Y O c_ H Q L M q=>rd.go L M q λd Z v H1 g_ N x P r p=>by
  cases d with
  | str i=>
   unfold Y2 at r;subst r;refine⟨rfl,uh.go N P p λys O2 ws H2 pF e3 x3 R S m=>?_⟩;split at m
   ·rename_i j;obtain⟨w,rfl,y⟩:=uf S;unfold Y2 at y;subst y;split at m
    ·rename_i d T;obtain⟨v,U,W⟩:=n _ _ _ T;exact⟨_,_,v,rfl,rfl,U,post.here m R (W _ _ _ _)⟩
    ·exact aj m
   ·exact aj m
  |_=>exact aj p
def XA:∀i j d,IW i j=KB d->∃v,Nm ⟨i.toArray⟩ ⟨j.toArray⟩=KB v/\∀K H XV μ,Y2 K H XV μ d v:=λi j d h=>by
 cases h;have e:(⟨i.toArray⟩:Str).length=i.length:=by show i.toArray.size=_;simp
 exact⟨_,rfl,λ_ _ _ _=>by unfold Y2;rw[e]⟩
def Dw:List D->Option (List Str)
 |[]=>KB []
 |.str cs::r=>(Dw r).map (⟨cs.toArray⟩ :: ·)
 |_=>KF
theorem PK:∀{ds:List D}{vs:List V}{f:List Str},n8 K H XV μ ds vs->Dw ds=KB f->vs=f.map V.str
 |[],vs,f,h,e=>by unfold n8 at h;subst h;cases e;rfl
 | d::ds,vs,f,h,e=>by
  unfold n8 at h;obtain⟨v,r,rfl,g,i⟩:=h;cases d with
  | str cs=>
   unfold Dw at e;cases q:Dw ds with
   |none=>rw[q] at e;cases e
   | some zs=>
    rw[q] at e;cases e;unfold Y2 at g;subst g;rw[PK i q];rfl
  |_=>cases e
def KN:∀{d:List Str}{f:List ab},oa (d.map V.str) f->e9 f d:=by
 intro d
 induction d with
 |nil=>intro f r;rw[jU] at r;cases r;exact .nil
 | cons y d ih=>
  intro f r;rw[bH] at r;cases r with
  | cons r1 r2=>
   obtain⟨t,e⟩:=r1;subst e;exact .cons y t (ih r2)
noncomputable def Vj(K:ai):V->List V->Hp->VK->Prop:=λx xs H Q=>∃i p ys,x=.str i/\xs=[.ref p]/\(qz K H p (ys.map V.str)\/qT K H p (ys.map V.str))/\i.length<=16/\(ys.map (·.length)).sum+ys.length<=1048576/\Q (.str (Txt.join i ys)) H
def YW:IC X "str.join" (Vj X.K):=by
 intro Y1 s A H x B v C Q I l m h;obtain⟨i,p,D,rfl,rfl,sq,g,j,q⟩:=h;obtain⟨t,rfl⟩:=l;obtain⟨u,rfl,n⟩:=uI m;cases n;rcases sq with sq|sq
 ·obtain⟨r,d,f,w⟩:=I.list sq;exact wT I (PyProof.Rows.join_listW f.isList (KN d) g j λy k z=>⟨.str _,H,I.tok k,⟨_,rfl⟩,q⟩)
 ·obtain⟨r,d,f,w⟩:=I.tuple sq;exact wT I (PyProof.Rows.join_tupleW f (KN d) g j λy k z=>⟨.str _,H,I.tok k,⟨_,rfl⟩,q⟩)
def AQ(to:DE)(t:DA):DE:=λσ O=>(to σ O).bnd λx O1=>match x with
 | .str i=>(t σ O1).bnd λys O2=>match ys with
  | [z]=>match (match rJ O2 z with|some ds=>KB ds|none=>Ao z) with
   | some ds=>match Dw ds with
    |some zs=>if i.length<=16/\(zs.map (·.length)).sum+zs.length<=1048576 then .ok (.str (Txt.join ⟨i.toArray⟩ zs).cps.toList) O2 else .bad
    |none=>.bad
   |none=>.bad
  |_=>.bad
 |_=>.bad
def Yw(C:PD X Ex o to)(D:tJ X Ex (e::es) t)(E:attributeBase o "join" X.env (eval o X.env)=eval o X.env:=by rfl)
  (G:((backTo pK (aV (e::es) X.env)).all (λx=>!x.1)&&(backToKw pK (keywordEach [] X.env)).all (λx=>x.1.isSome)&&decide ((e::es).length+([]:List fY).length+(if ([]:List fY).isEmpty then 0 else 1)<30))=KM:=by rfl)
  (I:(apos.endLine==pK.line)=KM:=by rfl) (J:aV (e::es) X.env=(K7,eval e X.env)::aV es X.env:=by rfl) (L:(backTo pK (aV es X.env)).any (·.1)=K7:=by rfl):
  PD X Ex (.Call (.Attribute o "join" apos) (e::es) [] pK) (AQ to t):=
 q9 (Gj kG PySem.F.slot_str_join PySem.F.type_str_join YW C.out D.out E G I J L) λXV μ σ O c_ H Q j M q=>rd.go j M q λd O1 v H1 g_ N x P r p=>by
  cases d with
  | str i=>
   unfold Y2 at r;subst r;refine⟨rfl,uh.go N P p λys R f u S e3 x3 A T g=>?_⟩;split at g
   ·rename_i z;obtain⟨w,rfl,B⟩:=uf T;split at g
    ·rename_i U n;split at g
     ·rename_i V y;obtain⟨⟨k,W⟩,g⟩:=post.ite g;have h:∃p f,w=.ref p/\(qz X.K u p f\/qT X.K u p f)/\n8 X.K u XV S U f:=by
       cases j:rJ R z with
       | some es=>
        rw[j] at n;cases n;obtain⟨p,f,k,l,m⟩:=uX A B j;exact⟨p,f,k,.inl l,m⟩
       | none=>
        rw[j] at n;obtain⟨p,f,k,l,m⟩:=AZ B n;exact⟨p,f,k,.inr l,m⟩
      obtain⟨Y,f,rfl,l,m⟩:=h;have Z:=PK m y;subst Z;refine⟨_,Y,V,rfl,rfl,l,?_,W,post.here g A ?_⟩
      ·show i.toArray.size<=16;simpa using k
      ·unfold Y2;rw[JQ]
     ·exact aj g
    ·exact aj g
   ·exact aj g
  |_=>exact aj p
abbrev DO:=Sg->Ow->R (Option Int)
noncomputable def Bk(Ex:Nat->Hp->Prop)(K:ai)(t:DO):TO:=λc_ H Q=>∃XV μ σ O,n9 K H XV μ σ c_/\n6 K H XV μ O/\post Ex K (λ_ _(d v:Option Int)=>d=v) H XV μ (t σ O) Q
structure zC(X:Cx)(Ex:Nat->Hp->Prop)(e:Option aT)(t:DO):Prop where
 out:PO X e (Bk Ex X.K t)
def ye:DO:=λ_ O=>.ok KF O
def yN(t:DE):DO:=λσ O=>(t σ O).bnd λd O1=>match d with
 |.int i=>.ok (KB i) O1
 |_=>.bad
def PO.imp{e:Option aT}{t t':TO}(h:PO X e t)(f:∀σ H Q,t' σ H Q->t σ H Q):PO X e t':=λY1 s σ H Q I q=>h Y1 s σ H Q I (f σ H Q q)
def zgi:zC X Ex KF ye:=zC.mk <| PO.imp ZS λc_ H Q ⟨XV,μ,f,O,g,d,q⟩=>post.here (v:=KF) q d rfl
def zgq(h:PD X Ex e te):zC X Ex (KB e) (yN te):=zC.mk <| PO.imp (Yi h.out) λc_ H Q ⟨XV,μ,k,O,f,g,q⟩=>rd.go f g q λd l v m n t x j r p=>by
 cases d with
 |int i=>unfold Y2 at r;subst r;exact⟨i,rfl,post.here (v:=KB i) p j rfl⟩
 |_=>exact aj p
def Bk.go{i j:Type}{l:Hp->List ae->i->j->Prop}{t:DO}{XV μ:List ae}{σ:Sg}{O:Ow}{c_:St}{H:Hp}{Q1:Option Int->Hp->Prop}{k:Option Int->Ow->R i}{Q:j->Hp->Prop}(m:n9 X.K H XV μ σ c_)(n:n6 X.K H XV μ O)
  (q:post Ex X.K l H XV μ ((t σ O).bnd k) Q)
  (f:∀v O1 g h,n9 X.K g XV h σ c_->Ext H μ g h->n6 X.K g XV h O1->post Ex X.K l g XV h (k v O1) Q->Q1 v g):Bk Ex X.K t c_ H Q1:=
 ⟨XV,μ,σ,O,m,n,post.bnd q λd O1 v g h x c r p=>by
  have r:d=v:=r;subst r;exact f d O1 g h (m.ext x) x c p⟩
def Ni:V->Option Int->Option Int->Hp->VK->Prop:=λx lo hi H Q=>∃i,x=.str i/\i.length<=qN/\Q (.str (nM i lo hi)) H
def zcs{h:aX}{sl:ae}{m n:ab}{lo p:Option Int}(r:h.IsSliceOf sl m n .none)(pl:g9 m lo)(q:g9 n p):∃l u:Option (Int×Tok),h.IsSlice sl l u KF/\l.map (·.1)=lo/\u.map (·.1)=p:=by
 obtain⟨d,g,f,k⟩:=r;cases pl with
 | none=>
  cases q with
  |none=>exact⟨KF,KF,⟨d,g,f,k⟩,rfl,rfl⟩
  |int j t=>exact⟨KF,KB (j,t),⟨d,g,f,k⟩,rfl,rfl⟩
 | int i t=>
  cases q with
  |none=>exact⟨KB (i,t),KF,⟨d,g,f,k⟩,rfl,rfl⟩
  |int j t'=>exact⟨KB (i,t),KB (j,t'),⟨d,g,f,k⟩,rfl,rfl⟩
def Og:vK X Ni:=by intro Y1 s p H x v r w y z A Q I d f g j h;obtain⟨i,rfl,m,q⟩:=h;obtain⟨t,rfl⟩:=d;obtain⟨l,u,n,rfl,rfl⟩:=zcs f g j;refine⟨"str",_,PySem.F.slot_str_getitem.lookup,typeIs_str s i t,?_⟩;exact wT I (wpAny_getItem_str_slice (l:=l) (u:=u) (st:=KF) n rfl (post_val_or_str ⟨aM (Txt.slice_le i _ _) m,λB k C=>⟨.str _,H,I.tok k,⟨_,rfl⟩,q⟩⟩))
def xX(xs:List D)(lo hi:Option Int):List D:=(xs.drop (HT.sIx xs.length 0 lo)).take (HT.sIx xs.length xs.length hi-HT.sIx xs.length 0 lo)
def MC(O:Ow)(x:D)(lo hi:Option Int):R D:=match x with
 |.str i=>if i.length<=4000000 then .ok (.str (nM ⟨i.toArray⟩ lo hi).cps.toList) O else .bad
 |.tup ds=>if HT.sIx ds.length 0 lo=0/\HT.sIx ds.length ds.length hi=ds.length then .bad else .ok (.tup (xX ds lo hi)) O
 | x=>match rJ O x with
  |some ds=>.ok (.lst (xX ds lo hi)) O
  |none=>.bad
def Iu(te:DE)(tl th:DO):DE:=λσ O=>(te σ O).bnd λx O1=>(tl σ O1).bnd λlo O2=>(th σ O2).bnd λhi O3=>MC O3 x lo hi
def M4(K:ai):V->Option Int->Option Int->Hp->VK->Prop:=λx lo hi H Q=>Ni x lo hi H Q\/Na K x lo hi H Q\/M_ K x lo hi H Q
def DY{K:ai}{ds:List D}{vs:List V}(h:n8 K H XV μ ds vs)(lo d:Option Int):n8 K H XV μ (xX ds lo d) (zP vs lo d):=by unfold xX zP;rw[h.length];exact n8.take _ (n8.drop _ h)
def Wa{lo w:Option aT}{y z:DO}{A:Pos}(B:PD X Ex e te)(m:zC X Ex lo y)(C:zC X Ex w z):PD X Ex (.Subscript e (.Slice lo w KF A) pos) (Iu te y z):=
 q9 (Qp (r:=M4 X.K) (vK.or Og (vK.or Oo P6)) B.out m.out C.out) λXV μ W O c_ H Q D E q=>rd.go D E q λd Y v Z g_ F x G r p=>Bk.go F G p λl O2 H2 pF I J L M=>Bk.go I L M λu O3 H3 zE e4 N h f=>by
  have j:=(r.ext J).ext N;unfold MC at f;split at f
  ·rename_i i;unfold Y2 at j;subst j;obtain⟨m.out,f⟩:=post.ite f;refine .inl ⟨_,rfl,?_,post.here f h ?_⟩
   ·show i.toArray.size<=_;rw[aH];exact xv m.out
   ·unfold Y2;rw[JQ]
  ·rename_i P;unfold Y2 at j;obtain⟨n,t,rfl,R,k⟩:=j;split at f
   ·exact aj f
   ·rename_i S;refine .inr (.inl ⟨n,t,rfl,R.sq,by rw[<- k.length];exact S,λT g=>post.ok f (.laid g) (h.laid g) (Y2.newT h g (DY k l u))⟩)
  ·split at f
   ·rename_i P U;obtain⟨n,t,rfl,V,k⟩:=uX h j U;exact .inr (.inr ⟨n,t,rfl,V,λT g=>post.ok f (.laid g) (h.laid g) (Y2.newL h g (DY k l u))⟩)
   ·exact aj f
def Ga:Ow->D->D->R D:=λO x y=>match x,y with
 |.str i,.str j=>.ok (.bl (!(bS ⟨j.toArray⟩ ⟨i.toArray⟩ 0 j.length 1).isEmpty)) O
 |_,_=>.bad
def YL:rD X Ex (λx y H Q=>∃i j,x=.str i/\y=.str j/\Q (.bl (!(bS j i 0 j.length 1).isEmpty)) H) Ga:=by
 intro H XV μ O x y v w Q c d f q;unfold Ga at q;split at q
 ·rename_i i j;unfold Y2 at d f;subst d;subst f;refine⟨_,_,rfl,rfl,post.here q c ?_⟩;have e:(⟨j.toArray⟩:Str).length=j.length:=by show j.toArray.size=_;simp
  rw[e];exact tN
 ·exact aj q
def X1{i j:Nat}{x y:Str}{t:DA}{f g h:Pos}{kt k2 Bl}(l:X.calm=KM)(m:X.N.Nodup)(n:X.N[i]?=KB x)(u:X.N[j]?=KB y)(z:i≠j)(A:X.env.scope.names.lookup x=KB .local)(B:X.env.scope.names.lookup y=KB .local)(C:tJ X Ex [a,b] t)
  (D:gK [.Tuple [.Name x f,.Name y g] kt h] (.Tuple [a,b] k2 Bl) X.env=pure (KB [x,y]))
  (F:gJ [.Tuple [.Name x f,.Name y g] kt h] (.Tuple [a,b] k2 Bl) pos.line X.env=pure K7:=by rfl):
  rK X Ex (.Assign [.Tuple [.Name x f,.Name y g] kt h] (.Tuple [a,b] k2 Bl) pos) (Di i j t):=
 xl (Wv l m n u z A B C.out D F) λXV μ G O E c_ H k I q=>⟨XV,μ,G,O,k,I,og.bnS q λd R S J K L M r p=>by
  split at p
  ·obtain⟨v,w,rfl,P,Q⟩:=zU r;exact⟨v,w,rfl,p _ J K .refl (((k.ext L).set P i).set Q j) M⟩
  ·exact aj p⟩
end
def qd(K:ai)(mg:Str->Option ab)(x:Str)(st:eJ):Prop:=∃f fd,mg x=KB (.ref f)/\L2.Fun K x x st f fd
structure Callee(P:aN)(w:aY)(K:ai)(mg:Str->Option ab)(base:aX)(x:Str)(k n:Nat)(F:List D->Ow->R D):Prop where
 ex:∃f fd ps,mg x=KB (.ref f)/\cZ K (.ref f)=KM/\Binds K fd ps []/\oB P w K mg base w6 k f fd ps (IH K yC n F)
def VT(c:Callee X.prog X.w X.K X.mg X.base x k n F)(a:om j X.A)(b:k<=j)(d:Gl X x)(g:tJ X qc (e::es) t)
  (h:(x==("__debug__":Str))=K7:=by decide) (i:aV (e::es) X.env=(K7,eval e X.env)::aV es X.env:=by rfl) (l:(backTo pos (aV es X.env)).any (·.1)=K7:=by rfl):
  PD X qc (.Call (.Name x p) (e::es) [] pos) (j_ n F t):=by obtain⟨f,r,s,m,o,q,G⟩:=c.ex;exact Vw (Ec:=yC) (E:=E0) (G.mono b) a d m o q NC g h i l
def qC(h:qd K mg x st)(S:pV N ps (pJ st))
  (l:∀(e c g:ab)(i:Option ae)(b j:ab)(d:List ab),d.length=ps.length->bindArgs (cF x x (xp st) (uK st) (pJ st) .none e c g i b j) ⟨d,[]⟩=pure (ps.zip d))
  (m:∀(f:ae)(b:ab)(A:ba)(a:List Env)(s:ag)(H:Hp)(E:XK),om k (A.deeper (fe x (pJ st) s.heap.objs.size f b))->sV (C9 P w K mg base N x (pJ st) f b A a s H E) qc (uK st) t):
  Callee P w K mg base x (k+1) ps.length (qv N.length t):=by obtain⟨f,n,o,F⟩:=h;refine⟨f,n,ps,o,F.kp,F.binds l,?_⟩;obtain⟨u,v,e,c,g,i,b,j,y,rfl,p,q⟩:=F.ex;exact VI p q S λA a s H E r=>m f b A a s H E r
def Callee.imp(c:Callee P w K mg base x k n F)
  (h:∀ds O H XV μ Q,n6 K H XV μ O->qy qc K H XV μ (G ds O) Q->qy qc K H XV μ (F ds O) Q):Callee P w K mg base x k n G:=by obtain⟨f,b,e,g,i,j,l⟩:=c.ex;refine⟨f,b,e,g,i,j,l.imp λo H Q E ⟨m,XV,μ,ds,O,d,a,q⟩=>⟨m,XV,μ,ds,O,d,a,h ds O H XV μ Q a q⟩⟩
def Callee.bad(c:Callee P w K mg base x k n F):Callee P w K mg base x k n (λ_ _=>.bad):=
 c.imp λ_ _ _ _ _ _ _ q=>aj q
def frz(O:Ow)(n:Nat):Nat->D->Option D
 | 0,d=>match d with
  |.own k=>if k<n then KB (.own k) else KF
  |.lst _=>KF
  |.tup _=>KF
  |.map _ _=>KF
  |d=>KB d
 | f+1,d=>match d with
  | .own k=>if k<n then KB (.own k) else match O[k]? with
   |some ds=>(pR (frz O n f) ds).map .lst
   |none=>KF
  |.lst ds=>(pR (frz O n f) ds).map .lst
  |.tup ds=>(pR (frz O n f) ds).map .tup
  |.map _ _=>KF
  |d=>KB d
def xb(n:Nat)(r:R D):R D:=match r with
 | .ok d O=>match frz O n 8 d,pR (pR (frz O n 8)) (O.take n) with
  |some d',KB O'=>.ok d' O'
  |_,_=>.bad
 |r=>r
section
variable{K:ai}{H:Hp}{XV μ ν:List ae}{O:Ow}{n:Nat}
theorem D8(b:∀d d' v,f d=KB d'->Y2 K H XV μ d v->Y2 K H XV e_ d' v):∀(ds a:List D)(vs:List V),pR f ds=KB a->n8 K H XV μ ds vs->n8 K H XV e_ a vs
 |[],a,vs,e,h=>by cases e;unfold n8 at h ⊢;exact h
 | d::ds,a,vs,e,h=>by
  unfold pR at e;split at e
  ·rename_i p c g i;cases e;unfold n8 at h;obtain⟨v,r,rfl,j,k⟩:=h;exact .cons (b d p v g j) (D8 b ds c r i k)
  ·cases e
def Oy(c:n6 K H XV (μ++ν) O)(S:μ.length=n):∀(f:Nat)(d d':D)(v:V),frz O n f d=KB d'->Y2 K H XV (μ++ν) d v->Y2 K H XV μ d' v:=by
 have s:∀{a:ae},a∉μ++ν->a∉μ:=λh m=>h (bV _ m);have u:∀{k:Nat}{v:V},k<n->Y2 K H XV (μ++ν) (.own k) v->Y2 K H XV μ (.own k) v:=λ{k v}w h=>by
  unfold Y2 at h ⊢;obtain⟨a,rfl,e⟩:=h;rw[aJ 'd'] at e;exact⟨a,rfl,e⟩
 have B:∀{v:V},Y2 K H XV (μ++ν) .dct v->Y2 K H XV μ .dct v:=λ{v}h=>by
  unfold Y2 at h ⊢;obtain⟨a,rfl,r,x,y⟩:=h;exact⟨a,rfl,r,x,s y⟩
 have E:∀{C:Nat}{v:V},Y2 K H XV (μ++ν) (.exn C) v->Y2 K H XV μ (.exn C) v:=λ{C v}h=>by
  unfold Y2 at h ⊢;obtain⟨a,G,rfl,g,r,x,y⟩:=h;exact⟨a,G,rfl,g,r,x,s y⟩
 intro f
 induction f with
 | zero=>
  intro d d' v e h;cases d with
  | own k=>
   unfold frz at e;dsimp only at e;split at e
   ·rename_i w;cases e;exact u w h
   ·cases e
  |lst o=>cases e
  |tup o=>cases e
  |dct=>cases e;exact B h
  |map ks o=>cases e
  |adr _=>cases e;unfold Y2 at h ⊢;exact h
  |exn C=>cases e;exact E h
  |tab P=>cases e;unfold Y2 at h ⊢;exact h
  |non=>cases e;unfold Y2 at h ⊢;exact h
  |bl b=>cases e;unfold Y2 at h ⊢;exact h
  |int i=>cases e;unfold Y2 at h ⊢;exact h
  |str i=>cases e;unfold Y2 at h ⊢;exact h
 | succ f ih=>
  intro d d' v e h;cases d with
  | own k=>
   unfold frz at e;dsimp only at e;split at e
   ·rename_i w;cases e;exact u w h
   ·rename_i w;unfold Y2 at h;obtain⟨a,rfl,A⟩:=h;obtain⟨o,t,I,J,L⟩:=c.at_ k a A;rw[I] at e;dsimp only at e;cases p:pR (frz O n f) o with
    |none=>rw[p] at e;cases e
    | some ps=>
     rw[p] at e;cases e;unfold Y2;refine⟨a,t,rfl,.inl ⟨.inl J,c.nh a (aL A),λm=>?_⟩,D8 ih o ps t p L⟩;obtain⟨j,F,M⟩:=dM.mp m;have N:(μ++ν)[j]?=KB a:=by rw[aJ F,ao F,M]
     obtain⟨T,Q⟩:=ar.mp N;obtain⟨U,R⟩:=ar.mp A;have:=(jS c.nd).mp (Q.trans R.symm);lia
  | lst o=>
   unfold frz at e;dsimp only at e;unfold Y2 at h;obtain⟨a,t,rfl,l,q⟩:=h;cases p:pR (frz O n f) o with
   |none=>rw[p] at e;cases e
   | some ps=>
    rw[p] at e;cases e;unfold Y2;exact⟨a,t,rfl,l.imp (λz=>⟨z.1,z.2.1,s z.2.2⟩) id,D8 ih o ps t p q⟩
  | tup o=>
   unfold frz at e;dsimp only at e;unfold Y2 at h;obtain⟨a,t,rfl,l,q⟩:=h;cases p:pR (frz O n f) o with
   |none=>rw[p] at e;cases e
   | some ps=>
    rw[p] at e;cases e;unfold Y2;exact⟨a,t,rfl,l.imp (λz=>⟨z.1,z.2.1,s z.2.2⟩) id,D8 ih o ps t p q⟩
  |dct=>cases e;exact B h
  |map ks o=>cases e
  |adr _=>cases e;unfold Y2 at h ⊢;exact h
  |exn C=>cases e;exact E h
  |tab P=>cases e;unfold Y2 at h ⊢;exact h
  |non=>cases e;unfold Y2 at h ⊢;exact h
  |bl b=>cases e;unfold Y2 at h ⊢;exact h
  |int i=>cases e;unfold Y2 at h ⊢;exact h
  |str i=>cases e;unfold Y2 at h ⊢;exact h
theorem J5{α a:Type}{f:α->Option a}:∀{l:List α}{r:List a},pR f l=KB r->r.length=l.length
 |[],r,e=>by cases e;rfl
 | x::l,r,e=>by
  unfold pR at e;split at e
  ·rename_i p c d b;cases e;simp[J5 b]
  ·cases e
theorem QX{α a:Type}{f:α->Option a}:∀{l:List α}{r:List a}{k:Nat}{y:a},pR f l=KB r->r[k]?=KB y->∃x,l[k]?=KB x/\f x=KB y
 |[],r,k,y,e,h=>by cases e;simp at h
 | x::l,r,k,y,e,h=>by
  unfold pR at e;split at e
  ·rename_i p i b c;cases e;cases k with
   |zero=>simp at h;subst h;exact⟨x,by simp,b⟩
   |succ k=>obtain⟨z,d,g⟩:=QX (k:=k) c (by simpa using h);exact⟨z,by simpa using d,g⟩
  ·cases e
def QQ{j:Nat->Hp->Prop}{r:R D}{Q:VK}(g:μ.length=n)(q:qy j K H XV μ (xb n r) Q):qy j K H XV μ r Q:=by
 cases r with
 |bad=>exact q
 |exc c O'=>exact q
 | ok d O'=>
  intro v l G x c h;obtain⟨ν,rfl⟩:=x.pre;have b:qy j K H XV μ (match frz O' n 8 d,pR (pR (frz O' n 8)) (O'.take n) with|some d',KB O2=>.ok d' O2|_,_=>.bad) Q:=q;cases i:frz O' n 8 d with
  |none=>rw[i] at b;exact aj b
  | some d'=>
   cases f:pR (pR (frz O' n 8)) (O'.take n) with
   |none=>rw[i,f] at b;exact aj b
   | some O2=>
    rw[i,f] at b;have u:Ext H μ l μ:=⟨⟨[],by simp⟩,x.kept,λ_ m=>.inl m,x.there,x.tab⟩;have o:O'.length=(μ++ν).length:=c.len.symm;have w:n6 K l XV μ O2:=by
     refine⟨?_,(fN.mp c.nd).1,λa m=>c.nh a (bV _ m),c.ht,λk a e=>?_⟩
     ·rw[J5 f,cq,o,aE,g];lia
     ·have y:k<μ.length:=(ar.mp e).1;obtain⟨z,p,A,B,C⟩:=c.at_ k a (by rw[aJ y];exact e);have s:k<O2.length:=by rw[J5 f,cq,o,aE,g];lia
      obtain⟨E,t,F⟩:=QX f (ao s);have:E=z:=by
       rw[jn,qb 'd',A] at t;cases t;rfl
      subst this;exact⟨_,p,ao s,B,D8 (Oy c g 8) _ _ p F C⟩
    exact b v l μ u w (Oy c g 8 d d' v i h)
end
def Dd(F:List D->Ow->R D):List D->Ow->R D:=λds O=>xb O.length (F ds O)
def Callee.frz(c:Callee P w K mg base x k n F):Callee P w K mg base x k n (Dd F):=
 c.imp λd O H a e Q b q=>QQ b.len q
noncomputable def M0(sc scope:c8)(N':List Str)(sl:List Nat):Bool:=
 (match scope.kind with|.function=>KM|_=>K7)&&decide ((scope.names.map (·.1)).Nodup)&&(scope.names.all λy=>!(y.2 == .free)||sc.names.lookup y.1==KB .cell||sc.names.lookup y.1==KB .free) &&
 (N'.zipIdx.all λp=>!((scope.names.any λy=>y.1==p.1&&y.2 == .local)||(scope.names.any λy=>y.1==p.1&&y.2 == .cell))||sl.contains p.2)
def yi(h:M0 sc scope N' sl=KM):vf sc scope N' sl:=by
 unfold M0 at h;simp only[aW,decide_eq_true_eq,ak] at h;obtain⟨⟨⟨a,b⟩,c⟩,d⟩:=h;refine⟨?_,b,λy f g=>?_,λi x j k=>?_⟩
 ·cases e:scope.kind<;>rw[e] at a<;>first|rfl|cases a
 ·have:=c y f;rw[g] at this;simpa using this
 ·have l:(x,i)∈N'.zipIdx:=by
   rw[List.mem_zipIdx_iff_getElem?];exact j
  have h:=d _ l;have n:((scope.names.any λy=>y.1==x&&y.2 == .local)||(scope.names.any λy=>y.1==x&&y.2 == .cell))=KM:=by
   rw[cz];exact k.imp (λm=>bF.mpr ⟨_,m,by simp⟩) λm=>bF.mpr ⟨_,m,by simp⟩
  have h:(!((scope.names.any λy=>y.1==x&&y.2 == .local)||(scope.names.any λy=>y.1==x&&y.2 == .cell))||sl.contains i)=KM:=h;rw[n] at h;simpa using h
structure IS(mg:Str->Option ab)(x:Str)(cs:List Nat):Prop where
 ex:∃t,mg x=KB (.str ⟨cs.toArray⟩ t)
section
variable{X:Cx}{Ex:Nat->Hp->Prop}{pos:Pos}{b c e:aT}{H:Hp}{XV μ:List ae}{O:Ow}
def YA(h:IS X.mg x cs)(a:Gl X x:=by rfl)(d:(x==("__debug__":Str))=K7:=by decide):PD X Ex (.Name x pos) (dC (.str cs)):=by obtain⟨t,h⟩:=h.ex;exact zh2 cs a h rfl d
def w4:Ow->D->D->R D:=λO x y=>match y with
 |.str _=>Ga O x y
 |_=>pC Av O x y
def vP:Ow->D->D->R D:=λO x y=>match y with
 | .str _=>match Ga O x y with
  |.ok (.bl b) O1=>.ok (.bl (!b)) O1
  |_=>.bad
 |_=>pC B7 O x y
def Ol(a:X.A.units+64<cLine):qm X (cm .In) (λx y H Q=>yY X.K Av x y H Q \/ ∃i j,x=.str i/\y=.str j/\Q (.bl (!(bS j i 0 j.length 1).isEmpty)) H):=qm.or (Zk a) zeU
def OF:rD X Ex (λx y H Q=>yY X.K Av x y H Q \/ ∃i j,x=.str i/\y=.str j/\Q (.bl (!(bS j i 0 j.length 1).isEmpty)) H) w4:=by
 intro H XV μ O x y v w Q c a d q;unfold w4 at q;split at q
 ·exact .inr (YL H XV μ O _ _ v w Q c a d q)
 ·exact .inl (Cp H XV μ O x y v w Q c a d q)
def PZ(a:X.A.units+64<cLine):qm X (cm .NotIn) (λx y H Q=>yY X.K B7 x y H Q \/ ∃i j,x=.str i/\y=.str j/\Q (.bl (!(!(bS j i 0 j.length 1).isEmpty))) H):=qm.or (zgf a) z93
def Pu:rD X Ex (λx y H Q=>yY X.K B7 x y H Q \/ ∃i j,x=.str i/\y=.str j/\Q (.bl (!(!(bS j i 0 j.length 1).isEmpty))) H) vP:=by
 intro H XV μ O x y v w Q c f g q;unfold vP at q;split at q
 ·rename_i a;cases x with
  | str i=>
   unfold Y2 at f g;subst f;subst g;refine .inr ⟨_,_,rfl,rfl,post.here (d:=D.bl (!(!(bS ⟨a.toArray⟩ ⟨i.toArray⟩ 0 a.length 1).isEmpty))) q c ?_⟩;have e:(⟨a.toArray⟩:Str).length=a.length:=by show a.toArray.size=_;simp
   rw[e];exact tN
  |_=>exact aj q
 ·exact .inl (Cp H XV μ O x y v w Q c f g q)
end
section
variable{X:Cx}{Y1:List (ae×Obj)}{c_:St}{H:Hp}{s:ag}
def Inv.turns(ch:List ae)(I:L2.Inv X Y1 c_ H s)(k:∀b o,b∉ch->s.heap.get? b=KB o->h'.get? b=KB o)(d:∀b∈ch,rE X Y1 H b)(j:0<t':=by first|assumption|exact Inv.tk ‹_›):L2.Inv X Y1 c_ H { s with heap:=h',toks:=t' }:=by
 have f:∀b u,H b=KB u->b∉ch:=λb u e z=>by rw[(d b z).1] at e;cases e
 have g:Un (um X.stack) ch H H s.heap h':=⟨λb o e _ _ n=>k b o n e,λb o e _ _ n=>⟨o.slots,k b o n e⟩,λ_ _ _ n _=>n,λb o e n=>⟨o,k b o n e⟩,λ_ _ e=>e,λ_ _ _ e=>e,λb l e=>⟨#[],by rw[e];simp⟩⟩;have a:HOk X.prog X.w H h':=λb u e=>(I.hok b u e).stay (λc v h q=>k c v (by
  rcases h with z|z
  ·rw[z];exact f b u e
  ·exact f c _ z) q) (λ_ q=>q) λ_ _ q=>q
 exact I.call (t':=t') (d':=s.drawn) g a I.bare λb i=>let ⟨_,f1,_,f3,f4,f5⟩:=d b i;⟨f3,f1,f4,f5⟩
end
def Itz(K:ai)(l m:ae):It:=
 ⟨λi H=>∃xs ys x y,qz K H l xs/\qz K H m ys/\xs[i]?=KB x/\ys[i]?=KB y,
   λi H v H'=>∃p x y,H p=KF/\v=.ref p/\(∀xs,qz K H l xs->xs[i]?=KB x)/\(∀ys,qz K H m ys->ys[i]?=KB y)/\H'=upd H p (.tup [x,y]),
   λi H=>∃xs ys,qz K H l xs/\qz K H m ys/\(xs.length<=i\/ys.length<=i)⟩
def oQ(K:ai)(src:Src)(a:ae)(H:Hp)(XV μ:List ae):Prop:=∀hid' H' e_ O',Mv H XV μ H' hid' e_->n6 K H' hid' e_ O'->∃ds vs,qz K H' a vs/\n8 K H' hid' e_ ds vs/\∀i,src.get O' i=ds[i]?
section
variable{K:ai}{H:Hp}{XV μ:List ae}
def oQ.val(l:LstAt K H XV μ a vs)(q:n8 K H XV μ ds vs):oQ K (.val ds) a H XV μ:=λb d e f m c=>⟨ds,vs,(l.mv m).sq,q.mv m,λ_=>rfl⟩
def oQ.own(d:μ[k]?=KB a):oQ K (.own k) a H XV μ:=by
 intro e p q f m c;obtain⟨g,rfl⟩:=m.pre;have h:(μ++g)[k]?=KB a:=by rw[aJ (ar.mp d).1];exact d
 obtain⟨b,j,l,n,o⟩:=c.at_ k a h;exact⟨b,j,.of n,o,λi=>by show(match f[k]? with|some b=>b[i]?|none=>KF)=_;rw[l]⟩
def oQ.mv(h:oQ K src a H XV μ)(e:Mv H XV μ H1 wx g_):oQ K src a H1 wx g_:=λb d f g m c=>h b d f g (e.trans m) c
def oi.zip(E:oQ K s1 a H XV μ)(F:oQ K s2 b H XV μ):oi K (Itz K a b) (.zip s1 s2) H XV μ:=by
 intro e n o f m c i;obtain⟨G,g,h,q,I⟩:=E e n o f m c;obtain⟨J,j,k,r,L⟩:=F e n o f m c;show match (match s1.get f i,s2.get f i with|some x,KB y=>KB (D.tup [x,y])|_,_=>KF) with|some d=>_|none=>_
 rw[I,L];cases s:G[i]? with
 | none=>
  dsimp only;exact⟨g,j,h,k,.inl (by rw[<- q.length];exact aQ.mp s)⟩
 | some x=>
  cases t:J[i]? with
  | none=>
   dsimp only;exact⟨g,j,h,k,.inr (by rw[<- r.length];exact aQ.mp t)⟩
  | some y=>
   dsimp only;obtain⟨v,u,M⟩:=q.get s;obtain⟨w,A,N⟩:=r.get t;refine⟨⟨g,j,v,w,h,k,u,A⟩,λz R O=>?_⟩;obtain⟨p,S,T,l,rfl,P,Q,rfl⟩:=O;have B:=P g h;rw[u] at B;cases B;have C:=Q j k;rw[A] at C;cases C;exact⟨.laid l,c.laid l,Y2.newT c l (.cons M (.cons N .nil))⟩
end
noncomputable def NF:D->Option Src
 |.lst ds=>KB (.val ds)
 |.own k=>KB (.own k)
 |_=>KF
def zpJ(t:DA):DI:=λσ O=>(t σ O).bnd λxs O1=>match xs with
 | [x,y]=>match NF x,NF y with
  |some p,KB q=>.ok (.zip p q) O1
  |_,_=>.bad
 |_=>.bad
section
variable{X:Cx}{Ex:Nat->Hp->Prop}{c e:aT}{Y1:List (ae×Obj)}{H:Hp}{s:ag}{XV μ:List ae}{O:Ow}
def zhj:bA "zip" = KB (.type "zip"):=by boot_by_name
def WY{i j:Nat}{x y:Str}{d f g:Pos}{h:Nat}(k:X.calm=KM)(b:X.N.Nodup)(l:X.N[i]?=KB x)(m:X.N[j]?=KB y)(n:Loc X.env.scope x)(o:Loc X.env.scope y)
  (p:X.fn x=KM\/X.env.scope.names.lookup x=KB .local) (a:X.fn y=KM\/X.env.scope.names.lookup y=KB .local):PG X (.Tuple [.Name x d,.Name y f] h g) ((Tg.two i j).rd X.K):=
 Wm k (Qt (JN b l n p) (Qt (JN b m o a) X6))
def yd:List D->Option (List Int)
 |[]=>KB []
 |.int i::r=>(yd r).map (i :: ·)
 |_=>KF
theorem J3:∀{ds:List D}{vs:List V}{ns:List Int},n8 K H XV μ ds vs->yd ds=KB ns->vs=ns.map V.int
 |[],vs,ys,h,e=>by unfold n8 at h;subst h;cases e;rfl
 | d::ds,vs,ys,h,e=>by
  unfold n8 at h;obtain⟨v,r,rfl,a,b⟩:=h;cases d with
  | int i=>
   unfold yd at e;cases q:yd ds with
   |none=>rw[q] at e;cases e
   | some zs=>
    rw[q] at e;cases e;unfold Y2 at a;subst a;rw[J3 b q];rfl
  |_=>cases e
def yM:Ow->List D->R D:=λO xs=>match xs with
 | [.str cs]=>match kU ⟨cs.toArray⟩ with
  |some n=>if cs.length<=640 then .ok (.int n) O else .bad
  |none=>.bad
 |xs=>IL O xs
def zdD:on X (.type "int") (λxs H Q=>∃x n,xs=[.str x]/\kU x=KB n/\x.length<=640/\Q (.int n) H):=by intro Y1 s d H xs f Q I r h;obtain⟨x,n,rfl,a,b,q⟩:=h;obtain⟨u,rfl,t,rfl⟩:=uI r;exact PySem.W.KIN.call_text a b ⟨.int _,H,I.tok _,⟨_,rfl⟩,q⟩
noncomputable def NH:List V->Hp->VK->Prop:=λxs H Q=>((∃i,xs=[.int i]/\Q (.int i) H) \/ ∃k,xs=[.bl k]/\Q (.int (if k then 1 else 0)) H) \/ ∃x n,xs=[.str x]/\kU x=KB n/\x.length<=640/\Q (.int n) H
def zdj:on X (.type "int") NH:=on.or zfg zdD
def Yz:uH X Ex NH yM:=by
 intro H XV μ O i b Q c d q;unfold yM at q;split at q
 ·rename_i f;obtain⟨v,rfl,a⟩:=uf d;unfold Y2 at a;subst a;split at q
  ·rename_i n g;obtain⟨h,q⟩:=post.ite q;refine .inr ⟨_,n,rfl,g,?_,post.here q c sN⟩;show f.toArray.size<=640;simpa using h
  ·exact aj q
 ·exact .inl (WL H XV μ O _ b Q c d q)
end
def Callee.self(c:Callee P w K mg base x k n F):Callee P w K mg base x k n F:=c
section
variable{X:Cx}{Ex:Nat->Hp->Prop}{pos:Pos}{e o i:aT}{ti:DE}{Y1:List (ae×Obj)}{c_:St}{H:Hp}{s:ag}{XV μ:List ae}{O:Ow}
def zhd:rK X Ex (.Pass pos) pU:=xl Z_ λXV μ c O E c_ H a b q=>q c_ H μ .refl a b
noncomputable def tV(tab:List (Int×Int))(i:Int):Option Int:=(tab.find? λkv=>kv.1==i).map (·.2)
def Vt(at_:List (Int×Int)->Int->Option Int)(tab:List (Int×Int))(t:DE):DE:=λσ O=>(t σ O).bnd λx O1=>match x with
 | .int i=>match at_ tab i with
  |some v=>.ok (.int v) O1
  |none=>.bad
 |_=>.bad
def zN:List (Int×Int)->DE->DE:=Vt tV
noncomputable def F_:List DictEntry->List (Int×Int)->Bool
 |[],[]=>KM
 |e::es,(k,v)::r=>(match e.key with|.int i _=>i==k|_=>K7)&&(e.hash==hashInt k)&&(match e.val with|.int i _=>i==v|_=>K7)&&F_ es r
 |_,_=>K7
def F5(o:Obj)(tab:List (Int×Int)):Bool:=(match o.cls with|.type n=>n == "dict"|_=>K7)&&o.dict.isNone&&o.slots.isEmpty&&decide ((tab.map (·.1)).Nodup)&&(match o.data with|.dict es _=>F_ es.toList tab|_=>K7)
structure zL(K:ai)(mg:Str->Option ab)(x:Str)(tab:List (Int×Int)):Prop where
 ex:∃e o,mg x=KB (.ref e)/\K.lookup e=KB o/\F5 o tab=KM/\(e==sysModules)=K7
theorem Sm:∀{f:List DictEntry}{tab:List (Int×Int)},F_ f tab=KM->∃a:List (Int×ab),Pairs (intKind P w) f a/\(∀e∈f,∃k,(intKind P w).is k e.key=KM/\e.hash=(intKind P w).hash k)/\a.map (·.1)=tab.map (·.1)/\
  ∀i,(valueAt a i).isSome=(tV tab i).isSome/\∀v,tV tab i=KB v->∃t,valueAt a i=KB (.int v t)
 |[],[],_=>⟨[],.nil,by simp,rfl,λi=>⟨rfl,λv h=>by cases h⟩⟩
 |[],_::_,h=>by cases h
 |_::_,[],h=>by cases h
 | e::f,(k,v)::r,h=>by
  obtain⟨b,key,x⟩:=e;unfold F_ at h;simp only[aW] at h;obtain⟨⟨⟨c,g⟩,d⟩,y⟩:=h;split at c
  ·rename_i i t;split at d
   ·rename_i j u;have c:i=k:=by simpa using c
    have g:b=hashInt k:=by simpa using g
    have d:j=v:=by simpa using d
    subst c d;obtain⟨a,p,z,A,l⟩:=Sm (P:=P) (w:=w) y;have n:(intKind P w).is i (.int i t)=KM:=by show iq i (.int i t)=KM;simp[iq]
    refine⟨(i,.int j u)::a,.cons n rfl p,λe he=>?_,by simp[A],λq=>?_⟩
    ·rcases aq.mp he with rfl|he
     ·exact⟨i,n,g⟩
     ·exact z e he
    ·unfold valueAt tV;by_cases m:i=q
     ·subst m;simp
     ·have B:(decide ((i,lR j u).1=q))=K7:=by simpa using m
      have C:((i,j).1==q)=K7:=by simpa using m
      rw[eN,eN,B,C];exact l q
   ·cases d
  ·cases c
def zg7{P:aN}{w:aY}{o:Obj}{a:List (Int×Int)}(h:F5 o a=KM):∃f:Int->Option ab,(∀(c:aX)(e:ae),c.get? e=KB o->c.MapOf (intKind P w) e f)/\∀i,(f i).isSome=(tV a i).isSome/\∀v,tV a i=KB v->∃t,f i=KB (.int v t):=by
 obtain⟨q,l,m,d⟩:=o;unfold F5 at h;simp only[aW,decide_eq_true_eq] at h;obtain⟨⟨⟨⟨b,r⟩,u⟩,x⟩,g⟩:=h;split at b
 ·rename_i n;have b:n = "dict":=by simpa using b
  split at g
  ·rename_i y z;obtain⟨A,p,B,C,j⟩:=Sm (P:=P) (w:=w) g;refine⟨valueAt A,λc e k=>?_,j⟩;refine Heap.DictOf.mapOf (knd:=intKind P w) ⟨_,y,z,k,⟨?_,?_,?_⟩,rfl,?_,p,by rw[C];exact x⟩
   ·show fo n=_;rw[b]
   ·simpa using r
   ·simpa using u
   ·intro e k;exact B e (by simpa using k)
  ·cases g
 ·cases b
def OX(h:zL X.K X.mg x tab):∃e,X.mg x=KB (.ref e)/\(e==sysModules)=K7/\∃f:Int->Option ab,(∀(Y1:List (ae×Obj))(c_:St)(H:Hp)(s:ag),L2.Inv X Y1 c_ H s->s.heap.MapOf (intKind X.prog X.w) e f)/\
  ∀i,(f i).isSome=(tV tab i).isSome/\∀v,tV tab i=KB v->∃t,f i=KB (.int v t):=by obtain⟨e,o,b,c,d,g⟩:=h.ex;obtain⟨f,m,a⟩:=zg7 (P:=X.prog) (w:=X.w) d;exact⟨e,b,g,f,λY1 c_ H s I=>m _ e (I.kIn e o c),a⟩
def KO(i:Int)(t:Tok):(intKind P w).is i (.int i t)=KM:=by show iq i (.int i t)=KM;simp[iq]
def OP(h:zL X.K X.mg x tab)(B:Gl X x)(C:PD X Ex i ti)(D:Dg i)(E:(x==("__debug__":Str))=K7:=by decide):PD X Ex (.Subscript (.Name x p) i pos) (zN tab ti):=by
 obtain⟨e,F,W,f,G,k⟩:=OX h;refine⟨?_⟩;rintro Y1 s c_ H Q I ⟨XV,μ,Y,O,J,L,q⟩;refine Pm (T := "dict") jO.lookup D (GA (v:=.ref e) B F rfl E Y1 s c_ H (λv l=>v=.ref e/\l=H) I ⟨rfl,rfl⟩ |> λz=>pG z λu N ⟨v,l,P,m,R,S⟩=>?_);subst R S;cases m;refine pG (C.out Y1 N c_ l _ P (rd.go J L q (Q1:=λy b=>∃XV c g d,n6 X.K b XV c g/\Y2 X.K b XV c d y/\qy Ex X.K b XV c (match d with|.int i=>(match tV tab i with|some v=>.ok (.int v) g|none=>.bad)|_=>.bad) Q)
  λd g y b c Z x2 n r a=>⟨XV,c,g,d,n,r,a⟩)) λu U ⟨y,b,A,m,XV,c,g,d,n,r,a⟩=>?_
 have M:=G Y1 c_ b U A;cases d with
 | int j=>
  unfold Y2 at r;subst r;obtain⟨t,rfl⟩:=m;have a:qy Ex X.K b XV c (match tV tab j with|some v=>.ok (.int v) g|none=>.bad) Q:=a;cases w:tV tab j with
  |none=>rw[w] at a;exact aj a
  | some v=>
   rw[w] at a;obtain⟨t',V⟩:=(k j).2 v w;exact⟨M.typeIs,wpAny_getItem_of (KO j t) M V ⟨.int v,b,A.tok _,⟨_,rfl⟩,post.here a n sN⟩⟩
 |_=>exact aj a
def yP(neg:Bool)(tab:List (Int×Int))(t:DE):DE:=λσ O=>(t σ O).bnd λx O1=>match x with
 |.int i=>.ok (.bl (if neg=KM then !(tV tab i).isSome else (tV tab i).isSome)) O1
 |_=>.bad
def Q3(a:Bool)(h:zL X.K X.mg x tab)(B:Gl X x)(C:PD X Ex i ti)(D:(x==("__debug__":Str))=K7:=by decide):PC X (if a=KM then .NotIn else .In) i (.Name x p) (rd Ex X.K (yP a tab ti)):=by
 obtain⟨e,E,A,f,F,n⟩:=OX h;rintro Y1 s c_ H Q I ⟨XV,μ,W,O,G,J,q⟩;refine pG (C.out Y1 s c_ H _ I (rd.go G J q (Q1:=λy c=>∃XV g k d,n6 X.K c XV g k/\Y2 X.K c XV g d y/\qy Ex X.K c XV g (match d with|.int i=>.ok (.bl (if a=KM then !(tV tab i).isSome else (tV tab i).isSome)) k|_=>.bad) Q)
  λd k y c g Y Z l r b=>⟨XV,g,k,d,l,r,b⟩)) λu L ⟨y,c,N,P,XV,g,k,d,l,r,b⟩=>?_
 refine pG (GA (v:=.ref e) B E rfl D Y1 L c_ c (λv R=>v=.ref e/\R=c) N ⟨rfl,rfl⟩) λw S ⟨v,m,z,T,U,V⟩=>?_;subst U V;cases T;have M:=F Y1 c_ m S z;cases d with
 | int j=>
  unfold Y2 at r;subst r;obtain⟨t,rfl⟩:=P;have b:qy Ex X.K m XV g (.ok (.bl (if a=KM then !(tV tab j).isSome else (tV tab j).isSome)) k) Q:=b;rw[<- (n j).1] at b;cases a with
  |false=>exact wpAny_in_of (KO j t) A M ⟨.bl _,m,z.tok _,rfl,post.here b l tN⟩
  |true=>exact wpAny_notIn_of (KO j t) A M ⟨.bl _,m,z.tok _,rfl,post.here b l tN⟩
 |_=>exact aj b
def zdx(h:zL X.K X.mg x tab)(a:Gl X x)(b:PD X Ex i ti)(c:(x==("__debug__":Str))=K7:=by decide)(d:behindInMarks .NotIn (.Name x p)=K7:=by rfl):PD X Ex (.Compare i [.NotIn] [.Name x p] pos) (yP KM tab ti):=⟨Wr (Q3 KM h a b c) d⟩
def Vk(a:n9 X.K H XV μ σ c_)(b:n6 X.K H XV μ O)(q:wO Ex X.K H XV μ (pA td σ O) Q):tB (rd Ex X.K td) c_ H Q:=
 Q9 (X:=X) (t:=rd Ex X.K td) (td:=td) (λXV μ σ O c_ H Q a b q=>⟨XV,μ,σ,O,a,b,q⟩) XV μ σ O c_ H Q a b q
def zcn(h:zL X.K X.mg x tab)(a:Gl X x)(b:PD X Ex i ti)(c:(x==("__debug__":Str))=K7:=by decide)(d:behindInMarks .NotIn (.Name x p)=K7:=by rfl):qF X Ex (.Compare i [.NotIn] [.Name x p] pos) (pA (yP KM tab ti)):=
 Gn (V9 (Q3 KM h a b c) d) λXV μ j O c_ H Q f g q=>Vk f g q
end
end DL
namespace DL
open PySem L2 PyProof.Rows
noncomputable def ue:List D->Option (List (List Nat))
 |[]=>KB []
 |.str cs::r=>(ue r).map (cs :: ·)
 |_=>KF
section
variable{H:Hp}{XV μ:List ae}
theorem JR{K:ai}:∀{ds:List D}{vs:List V}{ss:List (List Nat)},n8 K H XV μ ds vs->ue ds=KB ss->vs=ss.map λcs=>V.str ⟨cs.toArray⟩
 |[],vs,ys,h,e=>by unfold n8 at h;subst h;cases e;rfl
 | d::ds,vs,ys,h,e=>by
  unfold n8 at h;obtain⟨v,r,rfl,a,b⟩:=h;cases d with
  | str cs=>
   unfold ue at e;cases q:ue ds with
   |none=>rw[q] at e;cases e
   | some zs=>
    rw[q] at e;cases e;unfold Y2 at a;subst a;rw[JR b q];rfl
  |_=>cases e
def V0:bA "len" = KB (.builtin "len"):=by boot_by_name
def Xf:bA "all" = KB (.builtin "all"):=by boot_by_name
def Xq:bA "any" = KB (.builtin "any"):=by boot_by_name
def OG:bA "int" = KB (.type "int"):=by boot_by_name
def Xh:bA "str" = KB (.type "str"):=by boot_by_name
def QE:bA "tuple" = KB (.type "tuple"):=by boot_by_name
def V3:bA "max" = KB (.builtin "max"):=by boot_by_name
def Gy:bA "min" = KB (.builtin "min"):=by boot_by_name
def GZ:bA "sorted" = KB (.builtin "sorted"):=by boot_by_name
def Hn:bA "isinstance" = KB (.builtin "isinstance"):=by boot_by_name
def Zh:bA "bool" = KB (.type "bool"):=by boot_by_name
def Y_:bA "dict" = KB (.type "dict"):=by boot_by_name
end
end DL
namespace DL
def Ys{α:Type}(a ds:List α)(d:α):(a++d::ds)[a.length]?=KB d:=by simp
theorem Rn:∀(ds a K4:List D)(f:Nat),ds.length<=f->(∀d∈ds,∀K4:List D,K4.length<4000000->step d O K4=.ok (K4++g d) O)->K4.length+(ds.flatMap g).length+ds.length<4000000->
  qh (.val (a++ds)) step f a.length O K4=.ok (K4++ds.flatMap g) O
 | [],a,K4,f,_,_,_=>by
  cases f<;>(unfold qh;simp[Src.get])
 |d::ds,a,K4,0,h,_,_=>by simp at h
 | d::ds,a,K4,f+1,h,hs,hl=>by
  unfold qh;have e:Src.get (.val (a++d::ds)) O a.length=KB d:=Ys a ds d;rw[e];simp only[cY,aE,aS] at hl;show((step d O K4).bnd λb c=>qh (.val (a++d::ds)) step f (a.length+1) c b)=_;rw[hs d au K4 'd'];show qh (.val (a++d::ds)) step f (a.length+1) O (K4++g d)=_;have:=Rn ds (a++[d]) (K4++g d) f (by simpa using h) (λi j=>hs i (al _ j)) (by rw[aE];lia);rw[a9,List.singleton_append,aE,fD] at this;rw[this];simp
def KA(q:it0 σ O=.ok (.val ds) O)(v:ds.length<1900000)
  (r:∀d∈ds,sW ts ((pO (pO (σ++aw ext KF) [i]) [i]).set i (KB d)) O=.ok (p d) O) (s:∀d∈ds,p d=KM->te ((pO (pO (σ++aw ext KF) [i]) [i]).set i (KB d)) O=.ok (e d) O) (o:Bool):
  qj o ext it0 (.one i) ts [] te σ O=uU o (.ok ((ds.filter p).map e) O):=by
 unfold qj Ab;rw[q];show uU o (wU (qh (.val ds) _ ds.length 0 O []))=_;have c:∀d∈ds,∀a:List D,a.length<4000000->yc ⟨it0,.one i,ts⟩ [] te (pO (σ++aw ext KF) (pX [⟨it0,.one i,ts⟩])) d O a=.ok (a++(if p d=KM then [e d] else [])) O:=by
  intro d k a t;show(match Tg.put (.one i) d (pO (pO (σ++aw ext KF) [i]) [i]) with|some qA=>(sW ts qA O).bnd λb m=>if b=KM then tW [] te qA m a else .ok a m|none=>.bad)=_;show(sW ts ((pO (pO (σ++aw ext KF) [i]) [i]).set i (KB d)) O).bnd _=_;rw[r d k];show(if p d=KM then tW [] te _ O a else .ok a O)=_;by_cases f:p d=KM
  ·rw[qb f,qb f];unfold tW;rw[s d k f];show(if a.length<4000000 then _ else _)=_;rw[qb t]
  ·rw[qq f,qq f];simp
 have n:∀l:List D,(l.flatMap λd=>if p d=KM then [e d] else [])=(l.filter p).map e:=by
  intro l
  induction l with
  |nil=>rfl
  | cons x l ih=>
   rw[cY,ih,gF];by_cases j:p x=KM
   ·rw[qb j,qb j];rfl
   ·rw[qq j,qq j];rfl
 have h:((ds.filter p).map e).length<=ds.length:=by rw[ax];exact bu _ _
 have w:=Rn (O:=O) (g:=λd=>if p d=KM then [e d] else []) ds [] [] ds.length (aF _) c (by rw[n];simp at h ⊢;lia);rw[cQ,n,cQ] at w;have u:qh (.val ds) (yc ⟨it0,.one i,ts⟩ [] te (pO (σ++aw ext KF) (pX [⟨it0,.one i,ts⟩]))) ds.length 0 O []=.ok ((ds.filter p).map e) O:=w;rw[u];rfl
theorem RV(I:Nat->Sg->Ow->Prop)(h:∀i σ O d,I i σ O->ds[i]?=KB d->∃σ' O',step d σ O=.nx σ' O'/\I (i+1) σ' O'):
  ∀(f i:Nat)(σ:Sg)(O:Ow),I i σ O->ds.length<=i+f->i<=ds.length->∃σ' O',qU (.val ds) step f i σ O=.nx σ' O'/\I ds.length σ' O'
 | 0,i,σ,O,hI,h1,h2=>by
  have:i=ds.length:=by lia
  subst this;refine⟨σ,O,?_,hI⟩;unfold qU;have e:Src.get (.val ds) O ds.length=KF:=by simp[Src.get]
  rw[e]
 | f+1,i,σ,O,hI,h1,h2=>by
  unfold qU;have a:Src.get (.val ds) O i=ds[i]?:=rfl;rw[a];cases e:ds[i]? with
  | none=>
   have:i=ds.length:=by have:=aQ.mp e;lia
   subst this;exact⟨σ,O,rfl,hI⟩
  | some d=>
   obtain⟨σ',O',b,c⟩:=h i σ O d hI e;dsimp only;rw[b];exact RV I h f (i+1) σ' O' c 'd' (by have:=(ar.mp e).1;lia)
def zQ(n:Nat):D->Bool
 |.own k=>decide (k<n)
 |.lst _=>K7
 |.tup _=>K7
 |.map _ _=>K7
 |_=>KM
def vO(O:Ow):Prop:=∀c∈O,∀d∈c,zQ O.length d=KM
def Km(h:zQ n d=KM):frz O n f d=KB d:=by
 cases d with
 | own k=>
  have h:k<n:=by simpa [zQ] using h
  cases f<;>(unfold frz;dsimp only;rw[qb h])
 |lst ds=>cases h
 |tup ds=>cases h
 |map _ _=>cases h
 |_=>cases f<;>rfl
theorem z_{α:Type}{f:α->Option α}:∀{l:List α},(∀x∈l,f x=KB x)->pR f l=KB l
 |[],_=>rfl
 | x::l,h=>by
  unfold pR;rw[h x au,z_ λy a=>h y (al _ a)]
section
variable{σ σ':Sg}{O O1 O2:Ow}{t u ta tb:DE}{tA:DA}{x y:D}{b:Bool}{ds:List D}
def pD(h:t σ O=.ok x O1):b_ t d_ σ O=.ok [x] O1:=by show((t σ O).bnd _)=_;rw[h];rfl
def qe(a:t σ O=.ok x O1)(c:u σ O1=.ok y O2):b_ t (b_ u d_) σ O=.ok [x,y] O2:=by show((t σ O).bnd _)=_;rw[a];show((b_ u d_ σ O1).bnd _)=_;rw[pD c];rfl
def GU(a:t σ O=.ok x O1)(c:tA σ O1=.ok ds O2):b_ t tA σ O=.ok (x::ds) O2:=by show((t σ O).bnd _)=_;rw[a];show((tA σ O1).bnd _)=_;rw[c];rfl
def uw(h:tA σ O=.ok ds O1)(a:ds.length=n):j_ n F tA σ O=F ds O1:=by show((tA σ O).bnd _)=_;rw[h];show(if ds.length=n then _ else _)=_;rw[qb a]
def uL(h:tA σ O=.ok ds O1):pB f tA σ O=f O1 ds:=by show((tA σ O).bnd _)=_;rw[h];rfl
def qG(a:ta σ O=.ok x O1)(c:tb σ O1=.ok y O2):f_ f ta tb σ O=f O2 x y:=by show((ta σ O).bnd _)=_;rw[a];show((tb σ O1).bnd _)=_;rw[c];rfl
def qV(h:t σ O=.ok (.bl b) O1):pA t σ O=.ok b O1:=by show((t σ O).bnd _)=_;rw[h];rfl
def uY(h:t σ O=.ok (.bl b) O1):qo t σ O=.ok b O1:=by show((t σ O).bnd _)=_;rw[h];rfl
def uZ(h:c σ O=.ok b O1):qQ c σ O=.ok (!b) O1:=by show((c σ O).bnd _)=_;rw[h];rfl
def vC(h:t σ O=.ok (.lst ds) O1):qg t σ O=.ok (.val ds) O1:=by show((t σ O).bnd _)=_;rw[h];rfl
def Cu(h:t σ O=.ok (.tup ds) O1):qg t σ O=.ok (.val ds) O1:=by show((t σ O).bnd _)=_;rw[h];rfl
def A4(h:t σ O=.ok x O1):pY i t σ O=.nx (σ.set i (KB x)) O1:=by show((t σ O).bnS _)=_;rw[h];rfl
def rL(h:t σ O=.ok x O1):l_ t σ O=.rt x O1:=by show((t σ O).bnS _)=_;rw[h];rfl
def Cy(h:t σ O=.ok x O1):rG t σ O=.nx σ O1:=by show((t σ O).bnS _)=_;rw[h];rfl
def tZ(h:c σ O=.ok b O1):pS c a d σ O=if b=KM then a σ O1 else d σ O1:=by show((c σ O).bnS _)=_;rw[h];rfl
def sE(h:a σ O=.nx σ' O1):n_ a d σ O=d σ' O1:=by show(match a σ O with|.nx σ' O'=>_|r=>r)=_;rw[h]
def A3(h:a σ O=.rt x O1):n_ a d σ O=.rt x O1:=by show(match a σ O with|.nx σ' O'=>_|r=>r)=_;rw[h]
def Pa(h:it σ O=.ok src O1):vU it g body σ O=qU src (λd σ O=>match g.put d σ with|some σ'=>body σ' O|none=>.bad) (src.size O1) 0 σ O1:=by show((it σ O).bnS _)=_;rw[h];rfl
def D2(h:tA σ O=.ok [.int (n:Nat)] O1)(d:n<100000):vp tA σ O=.ok (.val ((aA n).map λ(i:Nat)=>D.int (i:Int))) O1:=by
 have a:-1000000<=((n:Nat):Int)/\((n:Nat):Int)<=1000000:=by constructor<;>lia
 unfold vp;rw[h];dsimp only[R.bnd];rw[qb a];unfold OA;have c:(((n:Nat):Int)-0).toNat=n:=by lia
 rw[c];congr 2;refine dS λi _=>?_;rw[Int.zero_add]
def Kl(h:cs.length<=4000000):qB O [.str cs]=.ok (.int cs.length) O:=by show(if cs.length<=4000000 then R.ok (D.int cs.length) O else R.bad)=_;rw[qb h]
def O8{cs:List Nat}{i:Nat}(h:cs.length<=4000000)(a:i<cs.length):qf O (.str cs) (.int (i:Int))=.ok (.str [cs[i]]) O:=by show(if cs.length<=4000000 then (match L2.atI cs (i:Int) with|some ch=>R.ok (D.str [ch]) O|none=>R.bad) else R.bad)=_;rw[qb h,L2.atI_nat (ao a)]
def JH(a:i<ds.length):qf O (.tup ds) (.int (i:Int))=.ok ds[i] O:=by show(match L2.atI ds (i:Int) with|some d=>R.ok d O|none=>R.bad)=_;rw[L2.atI_nat (ao a)]
def Pq(a:i<ds.length):qf O (.lst ds) (.int (i:Int))=.ok ds[i] O:=by show(match L2.atI ds (i:Int) with|some d=>R.ok d O|none=>R.bad)=_;rw[L2.atI_nat (ao a)]
end
theorem Qj{α:Type}{src:Src}{step:D->Ow->List D->R (List D)}{O:Ow}{inj:α->D}{g:α->List D}{all:List α}(c:∀i,src.get O i=(all.map inj)[i]?):∀(ds b:List α)(K4:List D)(f:Nat),all=b++ds->ds.length<=f->
  (∀a∈ds,∀K4:List D,K4.length<4000000->step (inj a) O K4=.ok (K4++g a) O)->K4.length+(ds.flatMap g).length+ds.length<4000000->qh src step f b.length O K4=.ok (K4++ds.flatMap g) O
 | [],b,K4,f,ha,_,_,_=>by
  have e:src.get O b.length=KF:=by rw[c,ha];simp
  cases f<;>(unfold qh;rw[e];simp)
 |d::ds,b,K4,0,_,h,_,_=>by simp at h
 | d::ds,b,K4,f+1,ha,h,hs,hl=>by
  unfold qh;have e:src.get O b.length=KB (inj d):=by rw[c,ha];simp
  rw[e];simp only[cY,aE,aS] at hl;show((step (inj d) O K4).bnd λj k=>qh src step f (b.length+1) k j)=_;rw[hs d au K4 'd'];show qh src step f (b.length+1) O (K4++g d)=_;have:=Qj c ds (b++[d]) (K4++g d) f (by rw[ha];simp) (by simpa using h) (λl m=>hs l (al _ m)) (by rw[aE];lia);rw[aE,fD] at this;rw[this];simp
theorem Ef{α b:Type}(p:α->Bool)(e:α->b):∀l:List α,(l.flatMap λd=>if p d=KM then [e d] else [])=(l.filter p).map e
 |[]=>rfl
 | x::l=>by
  rw[cY,Ef p e l,gF];by_cases a:p x=KM
  ·rw[qb a,qb a];rfl
  ·rw[qq a,qq a];rfl
def A6{α:Type}{ext:Nat}{it0:DI}{g:Tg}{ts:List DT}{te:DE}{σ:Sg}{O O0:Ow}{src:Src}{l:List α}{inj:α->D}{p:α->Bool}{e:α->D}{τ:α->Sg}{o:Bool}(n:it0 σ O0=.ok src O)(q:∀i,src.get O i=(l.map inj)[i]?)(hsz:src.size O=l.length)(x:l.length<1900000)
  (r:∀a∈l,g.put (inj a) (pO (pO (σ++aw ext KF) (g.slots++[])) (g.slots++[]))=KB (τ a)) (s:∀a∈l,sW ts (τ a) O=.ok (p a) O) (t:∀a∈l,p a=KM->te (τ a) O=.ok (e a) O):
  qj o ext it0 g ts [] te σ O0=uU o (.ok ((l.filter p).map e) O):=by
 unfold qj Ab;rw[n];show uU o (wU (qh src _ (src.size O) 0 O []))=_;have f:∀a∈l,∀c:List D,c.length<4000000->yc ⟨it0,g,ts⟩ [] te (pO (σ++aw ext KF) (pX [⟨it0,g,ts⟩])) (inj a) O c=.ok (c++(if p a=KM then [e a] else [])) O:=by
  intro a k c u;show(match g.put (inj a) (pO (pO (σ++aw ext KF) (g.slots++[])) (g.slots++[])) with|some qA=>(sW ts qA O).bnd λb m=>if b=KM then tW [] te qA m c else .ok c m|none=>.bad)=_;rw[r a k];show(sW ts (τ a) O).bnd _=_;rw[s a k];show(if p a=KM then tW [] te _ O c else .ok c O)=_;by_cases h:p a=KM
  ·rw[qb h,qb h];unfold tW;rw[t a k h];show(if c.length<4000000 then _ else _)=_;rw[qb u]
  ·rw[qq h,qq h];simp
 have j:((l.filter p).map e).length<=l.length:=by rw[ax];exact bu _ _
 have w:=Qj (O:=O) (inj:=inj) (g:=λd=>if p d=KM then [e d] else []) q l [] [] l.length rfl (aF _) f (by rw[Ef];simp at j ⊢;lia);rw[Ef,cQ] at w;have v:qh src (yc ⟨it0,g,ts⟩ [] te (pO (σ++aw ext KF) (pX [⟨it0,g,ts⟩]))) (src.size O) 0 O []=.ok ((l.filter p).map e) O:=by rw[hsz];exact w
 rw[v];rfl
section
variable{α:Type}{ext:Nat}{it0:DI}{i:Nat}{t:DT}{te:DE}{σ:Sg}{O O0:Ow}{l:List α}{inj:α->D}{p:α->Bool}{e:α->D}{τ:α->Sg}{o:Bool}
def GR{σ:Sg}{O:Ow}{b:Bool}(h:t σ O=.ok b O):sW [t] σ O=.ok b O:=by show((t σ O).bnd _)=_;rw[h];cases b<;>rfl
def zR(b:it0 σ O0=.ok (.val (l.map inj)) O)(c:l.length<1900000)(d:∀a,(pO (pO (σ++aw ext KF) [i]) [i]).set i (KB (inj a))=τ a)(f:∀a∈l,t (τ a) O=.ok (p a) O)(h:∀a∈l,p a=KM->te (τ a) O=.ok (e a) O):
  qj o ext it0 (.one i) [t] [] te σ O0=uU o (.ok ((l.filter p).map e) O):=
 A6 (g:=.one i) b (λ_=>rfl) (by show(l.map inj).length=_;simp) c (λa _=>congrArg KB (d a)) (λa j=>GR (f a j)) h
def vW(c:it0 σ O0=.ok (.val (l.map inj)) O)(d:l.length<1900000)(f:∀a,(pO (pO (σ++aw ext KF) [i]) [i]).set i (KB (inj a))=τ a)(h:∀a∈l,te (τ a) O=.ok (e a) O):
  qj o ext it0 (.one i) [] [] te σ O0=uU o (.ok (l.map e) O):=by have:=A6 (o:=o) (g:=.one i) (ts:=[]) (p:=λ_=>KM) (te:=te) c (λ_=>rfl) (by show(l.map inj).length=_;simp) d (λa _=>congrArg KB (f a)) (λa b=>rfl) λa b _=>h a b;rw[this,lN.mpr (λ_ _=>rfl)]
end
def Jq{α:Type}{it:DI}{i:Nat}{body:DS}{σ:Sg}{O0 O:Ow}{l:List α}{inj:α->D}(f:it σ O0=.ok (.val (l.map inj)) O)(I:Nat->Sg->Ow->Prop)(h:∀(k:Nat)a σ O,l[k]?=KB a->I k σ O->∃σ' O',body (σ.set i (KB (inj a))) O=.nx σ' O'/\I (k+1) σ' O')(g:I 0 σ O):
  ∃σ' O',vU it (.one i) body σ O0=.nx σ' O'/\I l.length σ' O':=by
 obtain⟨σ',O',m,c⟩:=RV (ds:=l.map inj) (step:=λd σ O=>match Tg.put (.one i) d σ with|some σ'=>body σ' O|none=>.bad) I (λj σ O d n b=>by
  rw[a8] at b;cases e:l[j]? with
  |none=>rw[e] at b;cases b
  | some a=>
   rw[e] at b;cases b;exact h j a σ O e n) (l.map inj).length 0 σ O g 'k' (cn _)
 rw[ax] at c;exact⟨σ',O',(Pa f).trans m,c⟩
theorem Kj:∀l:List Bool,wC (l.map D.bl)=KB l
 |[]=>rfl
 | x::l=>by
  show(wC (l.map D.bl)).map (x :: ·)=_;rw[Kj l];rfl
def Kd{α:Type}(O:Ow)(l:List α)(p:α->Bool):AJ O [.lst (l.map λa=>D.bl (p a))]=.ok (.bl (l.any p)) O:=by
 show(match wC (l.map λa=>D.bl (p a)) with|some bs=>R.ok (D.bl (bs.any id)) O|none=>R.bad)=_;have:(l.map λa=>D.bl (p a))=(l.map p).map D.bl:=by rw[bg];rfl
 rw[this,Kj];show R.ok (D.bl _) O=_;rw[List.any_map];rfl
def Af{α:Type}(O:Ow)(l:List α)(p:α->Bool):vm O [.lst (l.map λa=>D.bl (p a))]=.ok (.bl (l.all p)) O:=by
 show(match wC (l.map λa=>D.bl (p a)) with|some bs=>R.ok (D.bl (bs.all id)) O|none=>R.bad)=_;have:(l.map λa=>D.bl (p a))=(l.map p).map D.bl:=by rw[bg];rfl
 rw[this,Kj];show R.ok (D.bl _) O=_;rw[l9];rfl
end DL
namespace DL
open PySem L2
structure XAt(h0:aX)(H:Hp)(h:aX)(a:ae)(C:ab):Prop where
 ex:∃oe vs,h.get? a=KB oe/\(oe.cls=C/\oe.dict=KF)/\oe.data=.fields vs/\1<vs.size/\(vs[1]?=KB .none \/ ∃T oT ts,vs[1]?=KB (.ref T)/\T≠a/\h0.get? T=KF/\H T=KF/\h.get? T=KB oT/\oT.data=.fields ts/\ts[3]?=KB .none)
 new:h0.get? a=KF
 free:H a=KF
structure Kp(h0:aX)(H:Hp)(fs:List ae)(h h':aX):Prop where
 keep:∀b o,h.get? b=KB o->b∉fs->(H b≠KF\/h0.get? b≠KF)->h'.get? b=KB o
 slot:∀b o,h.get? b=KB o->b∈fs->∃sl,h'.get? b=KB { o with slots:=sl }
 there:∀b o,h.get? b=KB o->∃o',h'.get? b=KB o'
 size:h.objs.size<=h'.objs.size
open PyProof.Rows (AllBare)
def MU(P:aN)(w:aY)(Cl:Nat->ab):wF:=λouter H s E e s'=>∃a c H',e=.ref a/\s'.os=s.os/\0<s'.toks/\h9 s'.gens/\Un (um outer) [] H H' s.heap s'.heap/\HOk P w H' s'.heap/\XAt s.heap H' s'.heap a (Cl c)/\E (Cl c) KF H'
abbrev Xk(Cl:Nat->ab)(E:XK):Nat->Hp->Prop:=λc H=>E (Cl c) KF H
def Kp.hok(k:Kp h0 H fs h h')(x:L2.HOk P w H h)(c:∀b∈fs,H b=KF):L2.HOk P w H h':=λa o e=>
 (x a o e).stay (λb u hb q=>k.keep b u q (λz=>by
  rcases hb with rfl|hb
  ·rw[c _ z] at e;cases e
  ·rw[c _ z] at hb;cases hb) (.inl (by
  rcases hb with rfl|hb
  ·rw[e];exact λz=>nomatch z
  ·rw[hb];exact λz=>nomatch z))) (λ_ q=>q) λ_ _ q=>q
section
end
structure oN(Cl:Nat->ab)(P:aN)(w:aY)(K:ai)(mg:Str->Option ab)(base:aX)(x:Str)(k n:Nat)(F:List D->Ow->R D):Prop where
 ex:∃f fd ps,mg x=KB (.ref f)/\cZ K (.ref f)=KM/\Binds K fd ps []/\oB P w K mg base (MU P w Cl) k f fd ps (IH K (Xk Cl) n F)
section
variable{Cl:Nat->ab}{P:aN}{w:aY}{K:ai}{mg:Str->Option ab}{base:aX}{k n:Nat}{x:Str}{F G:List D->Ow->R D}
def oN.imp(c:oN Cl P w K mg base x k n F)(h:∀ds O H XV μ a Q,n6 K H XV μ O->qy a K H XV μ (G ds O) Q->qy a K H XV μ (F ds O) Q):oN Cl P w K mg base x k n G:=by obtain⟨f,e,g,i,j,l,m⟩:=c.ex;refine⟨f,e,g,i,j,l,m.imp λp H Q E ⟨o,XV,μ,ds,O,d,b,q⟩=>⟨o,XV,μ,ds,O,d,b,h ds O H XV μ _ Q b q⟩⟩
def oN.bad(c:oN Cl P w K mg base x k n F):oN Cl P w K mg base x k n (λ_ _=>.bad):=c.imp λ_ _ _ _ _ _ _ _ q=>aj q
end
open PyProof.Rows (AllBare IntsAre)
section
variable{X:Cx}{Y1:List (ae×Obj)}{σ:St}{H:Hp}{s:ag}
def Inv.fake(I:L2.Inv X Y1 σ H s)(e:X.N[i]?=KB x)(f:¬ uE X.env.scope x):L2.Inv X Y1 (σ.set i (KB v)) H s:=by
 obtain⟨m,g,h⟩:=I.loc;refine⟨I.ok,I.os,I.bare,I.base,⟨m,g,λj y w a b c=>?_⟩,I.cell,I.free,I.freeC,I.pin,I.hok,by rw[el];exact I.len,I.tk⟩;by_cases d:j=i
 ·subst d;rw[e] at a;cases a;exact absurd c f
 ·rw[bq (bB d)] at b;exact h j y w a b c
def sJ.fake(a:X.N[i]?=KB x)(b:¬ uE X.env.scope x)(h:sJ X body t):sJ X body λD σ H=>t D (σ.set i (KB v)) H:=
 λY1 s σ H D I q=>h Y1 s _ H D (Inv.fake I a b) q
end
def oz.empty(h:H P=KB (.tbl #[])):oz H P:=⟨#[],h,trivial,λa b e=>by cases e⟩
noncomputable def yI(K:ai)(Ec:XK->Nat->Hp->Prop)(n:Nat)(P:ae)(F:List D->Ow->R D):Sp:=λvs H Q E=>vs.length=n/\∃XV μ ds O,n8 K H XV μ ds vs/\n6 K H XV μ O/\oz H P/\qy (Ec E) K H XV μ (F ds O) Q
def vQ(n i:Nat)(P:Nat)(t:DS):List D->Ow->R D:=λds O=>fin (t ((ds.map KB++aw (n-ds.length) KF).set i (KB (.tab P))) O)
structure uJ(mg:Str->Option ab)(base:aX)(c Pt:ae):Prop where
 hd:nB base c Pt
 bl:base.BuiltinsAt mg Pt
def zex
  (Q:K.In m_.heap) (AA:m_.heap.Ns bI mg) (g:m_.heap.Ns builtinsNs mb) (R:∀x:Str,x ≠ "__name__"->mb x=bA x) (BE:m_.heap.NoLimit) (hg:m_.gens = #[]) (qp:0<m_.toks)
  (A:m_.heap.get? a=KB { cls:=.type "list",data:=.seq vs.toArray }) (hi:kO vs ns) (hl:ns.length<=qN) (hr:om k callerA)
  (hC:nB m_.heap c Pt) (j:m_.heap.get? Pt=KB (kW #[])) (hK:jb K=KM) (hB:m_.heap.BuiltinsAt mg Pt)
  (F:∀base:aX,K.In base->base.Ns bI mg->uJ mg base c Pt->oB P w K mg base CX k fa fd [x] sp) (uC:∀(s:ag)(u:ab),kM s fd ⟨[u],[]⟩ [(x,u)])
  (xF:∀H:Hp,H Pt=KB (.tbl #[])->qz K H a (ns.map V.int)->sp [.ref a] H (λv _=>v=.bl KM) λ_ _ _=>False)
  (S:∀H e i,CX [] H m_ (λ_ _ _=>False) e i->False):
  codeAny (av P w) callerA (.call (.ref fa) ⟨[.ref a],[]⟩) (λr i=>r=.ok (.ret (.bool KM))/\OldK m_.heap i.heap/\i.os=m_.os/\h9 i.gens) m_:=by
 have rv:=RP hi;have Lo:=hi.length;have T:a≠Pt:=by rintro rfl;rw[A] at j;cases j
 have U:K.lookup Pt=KF:=by
  cases q:K.lookup Pt with
  |none=>rfl
  | some o=>
   have e:=Q Pt o q;rw[j] at e;cases e;have X:=ak.mp hK (Pt,_) (PySem.W.mem_of_lookupK q);exact absurd (show K7=KM from X) cf
 -- H: the table, and the K8 where it is KF of the ES objects
 have p:∀H:Hp,H Pt=KB (.tbl #[])->qz K H a (ns.map V.int)->HOk P w H m_.heap->(∀b,H b≠KF->b=a\/b=Pt)->(H a=KF\/(K.lookup a=KF/\∃o xs,H a=KB (.frz o (.lst xs))))->
   codeAny (av P w) callerA (.call (.ref fa) ⟨[.ref a],[]⟩) (λr i=>r=.ok (.ret (.bool KM))/\OldK m_.heap i.heap/\i.os=m_.os/\h9 i.gens) m_:=by
  intro H hT hS E M Uk;have f:∀{b:ae}{o:Obj},m_.heap.get? b=KB o->H b=KF->(x9 m_.heap H).get? b=KB o:=λe n=>zh1 e n;have y0:∀{b:ae}{o:Obj}{B:Array DictEntry}{C:Nat},m_.heap.get? b=KB o->o.data=.dict B C->H b=KF:=λ{b o B C}e d=>by
   cases q:H b with
   |none=>rfl
   | some u=>
    rcases M b (by rw[q];simp) with e'|e'
    ·subst e';rw[A] at e;cases e;have Y:Data.seq vs.toArray _=Data.dict B C:=d;cases Y
    ·subst e';rw[j] at e;cases e;have Y:Data.fields #[]=Data.dict B C:=d;cases Y
  have N:∀{b:ae}{m:Str->Option ab},m_.heap.Ns b m->(x9 m_.heap H).Ns b m:=λ{b m}⟨o,B,C,e,d,r⟩=>⟨o,B,C,f e (y0 e d),d,r⟩;have Uj:K.In (x9 m_.heap H):=λb o e=>f (Q b o e) (by
   cases q:H b with
   |none=>rfl
   | some u=>
    rcases M b (by rw[q];simp) with e'|e'
    ·subst e';rcases Uk with z|⟨z,_⟩
     ·rw[z] at q;cases q
     ·rw[z] at e;cases e
    ·subst e';rw[U] at e;cases e)
  have hM:Mod K mg (x9 m_.heap H):=⟨Uj,N AA,⟨mb,N g,R⟩,let ⟨mc,h1,X⟩:=BE;⟨mc,N h1,X⟩⟩;have e0:oR P w K mg (x9 m_.heap H) callerA [] m_ H:=⟨rfl,hM,λb o e=>Y6 e,jV (zf5 _ _),trivial,λb g=>absurd (show b∈([]:List ae) from g) 'k',E,.of_eq hg,qp⟩;have Tv:∀{b:ae}{o:Obj},m_.heap.get? b=KB o->o.cls ≠ .none->(o.cls ≠ .type "list")->H b=KF:=λ{b o}e d1 d2=>by
   cases q:H b with
   |none=>rfl
   | some u=>
    rcases M b (by rw[q];simp) with e'|e'
    ·subst e';rw[A] at e;cases e;exact absurd rfl d2
    ·subst e';rw[j] at e;cases e;exact absurd rfl d1
  have hL:uJ mg (x9 m_.heap H) c Pt:=by
   obtain⟨o,vs,G,tf,y,tg,Av,I,tt,J,Z,r⟩:=hC;obtain⟨bm,ob,b1,b2,b3,b4,b5,b6,b7,b8⟩:=hB;exact⟨⟨o,vs,G,tf,y,tg,Av,I,tt,f J (Tv J (by rw[Z];exact λz=>nomatch z) (by rw[Z];decide)),Z,r⟩,⟨bm,ob,b1,b2,b3,b4,f b5 (Tv b5 (by rw[b6];exact λz=>nomatch z) (by rw[b6];decide)),b6,b7,b8⟩⟩
  refine gq ((F _ Uj (N AA) hL).run callerA [] m_ H ⟨[.ref a],[]⟩ [.ref a] [.ref a] _ _ hr e0 (uC m_ (.ref a)) (.cons rfl .nil) (xF H hT hS)) λr i h=>?_;cases r with
  |error e=>exact(S H e i h).elim
  | ok fl=>
   cases fl with
   |next=>exact aj h
   |brk=>exact aj h
   |cont=>exact aj h
   | ret u=>
    obtain⟨⟨v,H',os,L,O,Fe,r',q⟩,_⟩:=h;have q':v=.bl KM:=q;subst q';obtain rfl:u=jL KM:=r';obtain⟨t,hT'⟩:=O.tbls Pt #[] hT;have yz:i.heap.get? Pt=KB { cls:=.none,data:=.fields (#[]++t) }:=Fe Pt _ hT';refine⟨rfl,⟨λb o e=>?_,λb o e=>?_⟩,os,L⟩
    ·by_cases wX:b=Pt
     ·subst wX;rw[j] at e;cases e;exact .inr (.inl ⟨(hC.tab j).isCodeTable,rfl,#[],t,rfl,yz⟩)
     ·cases q:H b with
      |none=>exact .inl (O.keep b o e q (by intro z;exact absurd (show b∈([]:List ae) from z) 'k') 'k')
      | some u=>
       rcases M b (by rw[q];simp) with e'|e'
       ·subst e';rcases Uk with z|⟨_,ob,xs,z⟩
        ·rw[q] at z;cases z
        ·have z2:=O.frzs b ob _ z;obtain⟨J,_⟩:=E b _ z;obtain⟨e2,_⟩:=Fe b _ z2;rw[e] at J;cases J;exact .inl e2
       ·exact absurd e' wX
    ·exact O.there b o e 'k'
 cases hk:K.lookup a with
 | some o=>
  have e:=Q a o hk;rw[A] at e;cases e;refine p (λb=>if b=Pt then KB (.tbl #[]) else KF) (qb rfl) (.inr ⟨_,vs.toArray,_,hk,rfl,rfl,rfl,by rw[aH,Lo];exact hl,by simpa using rv⟩) (λb u z=>?_) (λb z=>?_) (.inl (qq T))
  ·by_cases g:b=Pt
   ·have l:=(qb g).symm.trans z;cases l;subst g;exact j
   ·have l:=(qq g).symm.trans z;cases l
  ·by_cases g:b=Pt
   ·exact .inr g
   ·exact absurd (qq g) z
 | none=>
  refine p (λb=>if b=Pt then KB (.tbl #[]) else if b=a then KB (.frz { cls:=.type "list",data:=.seq vs.toArray } (.lst (ns.map V.int))) else KF) (qb rfl) (.inl (.inr ⟨{ cls:=.type "list",data:=.seq vs.toArray },(qq T).trans (qb rfl)⟩)) (λb u z=>?_) (λb z=>?_) (.inr ⟨hk,_,_,(qq T).trans (qb rfl)⟩)
  ·by_cases g:b=Pt
   ·have l:=(qb g).symm.trans z;cases l;subst g;exact j
   ·by_cases D:b=a
    ·have l:=((qq g).trans (qb D)).symm.trans z;cases l;subst D;exact⟨A,by rw[ax];exact hl,vs,_,rv,A⟩
    ·have l:=((qq g).trans (qq D)).symm.trans z;cases l
  ·by_cases g:b=Pt
   ·exact .inr g
   ·by_cases D:b=a
    ·exact .inl D
    ·exact absurd ((qq g).trans (qq D)) z
def z7h{pos d:Pos}{c f:ab}(l:List ab)(h:TriplesOk l)(e:codeAmong d (l++[bR pos.line,bR pos.col,c])=KB f):codeAmong d l=KB f\/f=c:=by
 fun_induction TriplesOk l with
 | case1=>
  simp only[cQ,codeAmong,bR] at e;split at e
  ·cases e;exact .inr rfl
  ·cases e
 | case2 a t b u x rest ih=>
  simp only[jW,codeAmong] at e ⊢;split at e
  ·rename_i g;rw[qb g];exact .inl e
  ·rename_i g;rw[qq g];exact ih h e
 |case3 l h1 h2=>exact h.elim
def zeX{q:Str}{H:Hp}{P c:ae}{pos:Pos}{g:Array ab}(i:H P=KB (.tbl g))(v:H c=KF)(j:ae)(w:oz H j):
  oz (upd (upd H P (.tbl (g ++ #[bR pos.line,bR pos.col,.ref c]))) c (.ext λh=>h.CodeRec (.ref c) q)) j:=by
 have k:∀{b:ae}{o:HO},H b=KB o->b≠c:=λe=>rm e v;obtain⟨x,f,l,t⟩:=w;have a:∀{b:ae}{d:aX->Prop},H b=KB (.ext d)->upd (upd H P (.tbl (g ++ #[bR pos.line,bR pos.col,.ref c]))) c (.ext λh=>h.CodeRec (.ref c) q) b=KB (.ext d):=λ{b d}e=>by
  rw[pI (k e),pI (Vu e i (λz=>nomatch z))];exact e
 by_cases u:j=P
 ·subst u;rw[i] at f;cases f;refine⟨_,by rw[pI (k i),qP],?_,λp m e=>?_⟩
  ·rw[bU];exact TriplesOk_snoc _ _ _ _ l
  ·rw[bU] at e;rcases z7h _ l e with e|e
   ·obtain⟨n,d,rfl,r,s⟩:=t p m e;exact⟨n,d,rfl,a r,s⟩
   ·exact⟨c,_,e,qP,λh z=>⟨q,z⟩⟩
 ·refine⟨x,by rw[pI (k f),pI u];exact f,l,λp m e=>?_⟩;obtain⟨n,d,rfl,r,s⟩:=t p m e;exact⟨n,d,rfl,a r,s⟩
section
variable{X:Cx}{Y1:List (ae×Obj)}{c_:St}{H:Hp}{s:ag}{E:ab->ag->Prop}
abbrev AX(H:Hp)(P c:ae)(ps:Array ab)(pos:Pos)(q:Str):Hp:=upd (upd H P (.tbl (ps ++ #[bR pos.line,bR pos.col,.ref c]))) c (.ext λh=>h.CodeRec (.ref c) q)
def CG(a:H P=KB (.tbl ps))(d:H c=KF)(e:H b=KB o)(f:Ci o):AX H P c ps pos q b=KB o:=by
 have g:b≠P:=by rintro rfl;rw[a] at e;cases e;exact f _ rfl
 show upd (upd H P _) c _ b=KB o;rw[pI (rm e d),pI g];exact e
def Rm(a:H P=KB (.tbl ps))(d:H c=KF)(μ:List ae):Ext H μ (AX H P c ps pos q) μ:=
 ⟨⟨[],by simp⟩,λb o e _ f=>CG a d e f,λ_ m=>.inl m,λb h=>wR b (wR b h),λg i=>zeX a d g i⟩
def za7(b:H P=KB (.tbl d))(f:H c=KF)(cl:n6 K H XV μ O):n6 K (AX H P c d pos q) XV μ O:=by refine⟨cl.len,cl.nd,cl.nh,λa m=>wR a (wR a (cl.ht a m)),λk a e=>?_⟩;obtain⟨g,h,i,j,l⟩:=cl.at_ k a e;exact⟨g,h,i,CG b f j (by intro d z;cases z),l.ext (Rm b f μ)⟩
def SM{h h':aX}{c:ae}{q:Str}(x:h.CodeRec (.ref c) q)(k:∀o,h.get? c=KB o->h'.get? c=KB o):h'.CodeRec (.ref c) q:=by obtain⟨d,o,a,t,e,b,r⟩:=x;cases e;exact⟨c,o,a,t,rfl,k o b,r⟩
def V7{c P:ae}{a:iI}{body:aT}{scope:c8}{pos:Pos}{v:List (Str×ae)}{Q:ab->ag->Prop}(I:L2.Inv X Y1 c_ H s)(L:uJ X.mg X.base c P)(V:X.env.code=.ref c)(ti:oz H P)
  (Y:closureFor scope X.env=pure v) (xP:defaultsOf a X.env=([],[]))
  (h:∀(i:ae)(Z j:ab)(h':aX)(tk:Tok)(H':Hp),L2.Inv X Y1 c_ H' { s with heap:=h',toks:=tk }->(∀μ,Ext H μ H' μ)->(∀XV μ O,n6 X.K H XV μ O->n6 X.K H' XV μ O)->H' i=KF->s.heap.objs.size<=i->
   h'.get? i=KB { cls:=.type "function",data:=.func (d9 "<lambda>" (X.env.qual ++ "<lambda>") a body scope v ((X.mg "__name__").getD .none) Z j) }->(∃c C,Z=.ref c/\H' c=KB (.ext C)/\∀h:aX,C h->∃q,h.CodeRec (.ref c) q)->Q (.ref i) { s with heap:=h',toks:=tk }):
  am (av X.prog X.w) X.A (eval (.Lambda a body scope pos) X.env) Q E s:=by
 obtain⟨f,g,h2,h3⟩:=id ti;have J:s.heap.get? P=KB (kW f):=I.hok P _ g;have M:s.heap.Ns bI X.mg:=I.mod.glob.keeps I.bk;have N:bI≠P:=λz=>by
  obtain⟨o,es,ep,e,D,_⟩:=M;rw[z,J] at e;cases e;cases D
 have F:s.heap.BuiltinsAt X.mg P:=by
  obtain⟨bm,ob,b1,x,b3,b4,b5,r⟩:=L.bl;exact⟨bm,ob,b1,x,b3,b4,I.bk _ _ b5,r⟩
 have D:=L.hd.keeps I.bk;refine PySem.W.kla_eval xP ?_;cases R:codeAmong pos f.toList with
 | some cv=>
  obtain⟨d,C,rfl,k1,k2⟩:=h3 pos cv R;obtain⟨q,k3⟩:=k2 _ (I.hok d _ k1).1;refine wT I (PySem.W.kla_makeFunctionHit (mg:=X.mg) Y I.ok.glob M V D J h2 R F λj h' tk hk y qp=>?_);have p:∀b u,s.heap.get? b=KB u->(h'.push { cls:=.type "function",data:=.func (d9 "<lambda>" (X.env.qual ++ "<lambda>") a body scope v ((X.mg "__name__").getD .none) (.ref d) j) }).get? b=KB u:=λb u e=>af _ (hk b u e);exact h h'.objs.size (.ref d) j _ tk H (I.kept (t':=tk) p) (λμ=>.refl) (λ_ _ _ z=>z) (I.hok.fresh y) y (aC _ rfl) ⟨d,C,rfl,k1,k2⟩
 | none=>
  refine wT I (PySem.W.kla_makeFunction (mg:=X.mg) Y I.ok.glob M V D J h2 R N F λd j h' tk hx G S xH T qp=>?_);have l:H d=KF:=I.hok.fresh G;have B:∀{b:ae},H b=KF->b≠P:=λe=>bB (rm g e);have p:∀b u,b≠P->s.heap.get? b=KB u->(h'.push (ko "<lambda>" (X.env.qual ++ "<lambda>") a body scope v ((X.mg "__name__").getD .none) d j)).get? b=KB u:=λb u n e=>af _ (hx b u n e);have yz:(h'.push (ko "<lambda>" (X.env.qual ++ "<lambda>") a body scope v ((X.mg "__name__").getD .none) d j)).get? P=KB (kW (f ++ #[bR pos.line,bR pos.col,.ref d])):=af _ T;have Ax:(h'.push (ko "<lambda>" (X.env.qual ++ "<lambda>") a body scope v ((X.mg "__name__").getD .none) d j)).CodeRec (.ref d) (X.env.qual ++ "<lambda>"):=SM xH λo e=>af _ e;have xI:∀{b:ae},s.heap.objs.size<=b->b≠d->AX H P d f pos (X.env.qual ++ "<lambda>") b=KF:=λ{b}F n=>by
   have e:=I.hok.fresh F;show upd (upd H P _) d _ b=KF;rw[pI n,pI (B e)];exact e
  refine h h'.objs.size (.ref d) j _ tk (AX H P d f pos (X.env.qual ++ "<lambda>")) ?_ (Rm g l) (λ_ _ _ z=>za7 g l z) (xI (gp (eG G S)) (dU S)) (gp (eG G S)) (aC _ rfl) ⟨d,_,rfl,qP,λh z=>⟨_,z⟩⟩;have qr:∀b o,s.heap.get? b=KB o->H b=KF->AX H P d f pos (X.env.qual ++ "<lambda>") b=KF:=λb o e n=>by
   show upd (upd H P _) d _ b=KF;rw[pI (bh (bb (aI e) G)),pI (B n)];exact n
  refine I.step (g':=s.gens) (d':=s.drawn) (ch:=[]) (λ_ z=>nomatch z) (λb o _ _ _ e n=>p b o (B n) e) (λb o _ _ _ e n=>⟨o.slots,p b o (B n) e⟩) (λb o _ e n=>qr b o e n) (λb o _ e=>?_)
   (λb xs e=>CG g l e (by intro f z;cases z)) (λb o u e=>CG g l e (by intro f z;cases z)) (λb Tr e=>?_) (λm hm=>?_) ?_ I.bare qp
  ·by_cases k:b=P
   ·subst k;exact⟨_,yz⟩
   ·exact⟨o,p b o k e⟩
  ·by_cases k:b=P
   ·subst k;rw[g] at e;cases e;exact⟨_,by show upd (upd H b _) d _ b=_;rw[pI (rm g l),qP]⟩
   ·exact⟨#[],by show upd (upd H P _) d _ b=_;rw[pI (rm e l),pI k,e];simp⟩
  ·obtain⟨o,es,ep,e,r⟩:=hm;exact⟨o,es,ep,p _ o (B I.free) e,r⟩
  ·intro b u e;by_cases Ud:b=d
   ·subst Ud;have e':AX H P b f pos (X.env.qual ++ "<lambda>") b=_:=qP;rw[e'] at e;cases e;refine⟨Ax,?_,λha ua za zk=>SM za zk⟩;obtain⟨c2,o,vs,t,z,ho,_⟩:=Ax;cases z;exact⟨o,ho⟩
   ·have U:upd H P (.tbl (f ++ #[bR pos.line,bR pos.col,.ref d])) b=KB u:=(pI Ud).symm.trans e;by_cases k:b=P
    ·subst k;rw[qP] at U;cases U;exact yz
    ·have e2:H b=KB u:=(pI k).symm.trans U;refine(I.hok b u e2).stay (λx u2 xS z=>p x u2 (λzz=>?_) z) (λx z=>CG g l z (by intro f z;cases z)) λx xs z=>CG g l z (by intro f z;cases z);rcases xS with rfl|xS
     ·exact k zz
     ·rw[zz,g] at xS;cases xS
end
abbrev wI(q:Str)(scope:c8)(L f:ae)(cd:ab)(cl:List (Str×ae)):Env:={ scope,locals:=L,globals:=bI,cells:=cl,qual:=q ++ ".<locals>.",func:=KB f,code:=cd,frame:=KB L,builtins:=builtinsNs }
section
end
def cxL(CX:wF)(P:aN)(w:aY)(K:ai)(mg:Str->Option ab)(base:aX)(N:List Str)(env:Env)(A:ba)(outer:List Env)(s:ag)(H:Hp)(E:XK):Cx where
 prog:=P
 w:=w
 K:=K
 mg:=mg
 base:=base
 A:=A.deeper env
 N:=N
 s₀:=s
 H₀:=H
 env:=env
 outer:=outer
 stack:=env::outer
 ex:=[]
 calm:=KM
 fn:=λ_=>K7
 pn:=[]
 xe:=λe s'=>am (av P w) (A.deeper env) (leaving env e) (λ_ yW=>CX outer H s E e yW) (λe' yW=>CX outer H s E e' yW) s'
section
variable{h0:aX}{H:Hp}
def Kp.refl:Kp h0 H fs h h:=⟨λ_ _ e _ _=>e,λb o e _=>⟨o.slots,e⟩,λ_ o e=>⟨o,e⟩,aF _⟩
def Kp.trans(x:Kp h0 H fs h h1)(y:Kp h0 H fs h1 h2):Kp h0 H fs h h2:=
 ⟨λb o e n k=>y.keep b o (x.keep b o e n k) n k,λb o e n=>by
  obtain⟨g,a⟩:=x.slot b o e n;obtain⟨c,d⟩:=y.slot b _ a n;exact⟨c,d⟩,λb o e=>by
  obtain⟨f,a⟩:=x.there b o e;exact y.there b f a,aM x.size y.size⟩
end
section
variable{X:Cx}{Y1:List (ae×Obj)}{σ:St}{H:Hp}{s:ag}
abbrev Cx.mk'(X:Cx)(a:ae):Cx:={ X with A:=X.A.mark (KB (.ref a)),calm:=K7,xe:=λ_ _=>False }
def Inv.mk'(I:L2.Inv X Y1 σ H s)(a:ae):L2.Inv (Cx.mk' X a) Y1 σ H s:=
 ⟨⟨I.ok.mod,I.ok.kind,I.ok.glob,I.ok.blt,I.ok.above,I.ok.inj,I.ok.has,I.ok.cab,λz=>absurd (show K7=KM from z) 'u',I.ok.frames,I.ok.stk,I.ok.exf,I.ok.bs,I.ok.bsz,I.ok.noex,I.ok.exfs,I.ok.funs,I.ok.frf⟩,I.os,I.bare,I.base,I.loc,I.cell,I.free,I.freeC,I.pin,I.hok,I.len,I.tk⟩
end
section
end
section
end
section
end
structure zpI(nf n y xT:Str)(p0 p1 p2 p3 p5 p6 p7 pq pc:Pos)(kc):Prop where
 hfd:(nf==("__debug__":Str))=K7:=by decide
 hfcd:(nf==("__classdict__":Str))=K7:=by decide
 hnd:(n==("__debug__":Str))=K7:=by decide
 hncd:(n==("__classdict__":Str))=K7:=by decide
 hTd:(xT==("__debug__":Str))=K7:=by decide
 hs0:∀env:Env,swapsWith (.Call (.Name nf p1) [] [] p2) KF p3.line env=pure K7:=by intro _;rfl
 hsA:∀env:Env,swapsWith (.Constant .none kc pc) (KB (.Name y pq)) p0.line env=pure K7:=by intro _;rfl
 hs:∀env:Env,gJ [.Name y p5] (.Name n p6) p7.line env=pure K7:=by intro _;rfl
 hw:∀env:Env,gK [.Name y p5] (.Name n p6) env=pure KF:=by intro _;rfl
section
end
section
end
section
end
section
variable{X:Cx}{Y1:List (ae×Obj)}{σ:St}{H:Hp}{s s2:ag}
def PY(a:Un fs [] H H h h')(z:h.IsCell c v)(n:H c=KF):h'.IsCell c v:=by obtain⟨o,b,d⟩:=z;obtain⟨f,e⟩:=a.any b n 'k';exact⟨_,e,d⟩
def zcw{b:List (Str×ae)}(I:L2.Inv X Y1 σ H s)(d:Un (um X.stack) [] H H s.heap s2.heap)(a:∀x c,b.lookup x=KB c->X.env.cells.lookup x=KB c):∀x c,b.lookup x=KB c->(∃v,s2.heap.IsCell c v)/\H c=KF:=λx c e=>by
 obtain⟨v,z⟩:=I.cell x c (a x c e);exact⟨⟨v,PY d z (I.freeC x c (a x c e))⟩,I.freeC x c (a x c e)⟩
def zfR{a:List (Str×ae)}(I:L2.Inv X Y1 σ H s)(b:∀x c,a.lookup x=KB c->X.env.cells.lookup x=KB c):∀x y c,a.lookup x=KB c->a.lookup y=KB c->x=y:=λx y c d e=>I.ok.inj x y c (b x c d) (b y c e)
def zfj{a:List (Str×ae)}{scope:c8}(I:L2.Inv X Y1 σ H s)(h:Un (um X.stack) [] H H s.heap s2.heap)(j:∀x c,a.lookup x=KB c->X.env.cells.lookup x=KB c)(b:∀x,scope.names.lookup x=KB .free->∃c,a.lookup x=KB c)
  (e:∀x,scope.names.lookup x=KB .free->X.env.scope.names.lookup x=KB .cell\/X.env.scope.names.lookup x=KB .free):
  ∀(i:Nat)x v,X.N[i]?=KB x->σ[i]?=KB (KB v)->scope.names.lookup x=KB .free->∃u c,RelV v u/\a.lookup x=KB c/\s2.heap.IsCell c (KB u):=λi x v k n d=>by
 obtain⟨m,w,o⟩:=I.loc;obtain⟨u,r,l⟩:=o i x v k n (.inr (e x d));obtain⟨c,f⟩:=b x d;refine⟨u,c,r,f,?_⟩;rcases l with⟨z,_⟩|⟨_,y,g,p⟩
 ·have t:X.env.scope.names.lookup x=KB .local:=z;rcases e x d with q|q<;>(rw[t] at q;cases q)
 ·have:=j x c f;rw[g] at this;cases this;exact PY h p (I.freeC x _ g)
end
structure zh3(out sc:c8):Prop where
 kind:sc.kind=.function
 co:sc.isCoroutine=K7
 gen:sc.isGenerator=K7
 nd:(sc.names.map (·.1)).Nodup
 cell:∀x∈sc.names,x.2 ≠ .cell
 loc:∀x∈sc.names,x.2 ≠ .local
 frees:∀y∈sc.names,y.2=.free->out.names.lookup y.1=KB .cell\/out.names.lookup y.1=KB .free
section
end
def Xu{K:ai}{Ec:XK->Nat->Hp->Prop}{Pt:ae}{F:List D->Ow->R D}{H:Hp}{a:ae}{ns:List Int}(h:∃O,F [.lst (ns.map .int)] []=.ok (.bl KM) O)(b:H Pt=KB (.tbl #[]))(c:qz K H a (ns.map V.int)):yI K Ec 1 Pt F [.ref a] H (λv _=>v=.bl KM) λ_ _ _=>False:=by
 obtain⟨O,h⟩:=h;have d:∀(l:List Int),n8 K H [] [] (l.map D.int) (l.map V.int):=λl=>by
  induction l with
  |nil=>exact .nil
  |cons x r ih=>exact .cons sN ih
 refine⟨rfl,[],[],[.lst (ns.map .int)],[],.cons ?_ .nil,⟨rfl,by simp,by simp,by simp,λk a e=>by simp at e⟩,oz.empty b,?_⟩
 ·unfold Y2;exact⟨a,_,rfl,c.imp (λz=>⟨z,by simp,by simp⟩) id,d ns⟩
 ·rw[h];intro v f g _ _ r;unfold Y2 at r;exact r
section
variable{X:Cx}{Ex:Nat->Hp->Prop}
def Cf:Ow->D->D->R D:=λO x y=>match x,y with
 |.str [c],.int i=>if 0<=i/\i<=16 then .ok (.str (aw i.toNat c)) O else .bad
 |_,_=>.bad
theorem RZ(c:Nat):∀(k:Nat)(K4:List Nat),(aw k (#[c]:Array Nat)).foldl (· ++ ·) K4.toArray=(K4++aw k c).toArray
 |0,K4=>by simp
 | k+1,K4=>by
  rw[i6,fE];have e:K4.toArray ++ #[c]=(K4++[c]).toArray:=by simp
  rw[e,RZ c k];rw[i6];simp
def Z5(c:Nat)(i:Int):Txt.mul (⟨#[c]⟩:Str) i=⟨(aw i.toNat c).toArray⟩:=by
 unfold Txt.mul;by_cases a:i<1
 ·rw[qb a];have:i.toNat=0:=by lia
  rw[this];rfl
 ·rw[qq a];by_cases b:i=1
  ·subst b;rfl
  ·have d:(i==1||(⟨#[c]⟩:Str).length==0)=K7:=by
    have:(i==1)=K7:=by simpa using b
    rw[this];rfl
   rw[qq (by rw[d];decide)];have:=RZ c i.toNat [];simp only[cQ] at this;rw[this]
def Zf:qm X (eM .Mult) (λx y H Q=>∃c i,x=.str ⟨#[c]⟩/\y=.int i/\0<=i/\i<=16/\Q (.str ⟨(aw i.toNat c).toArray⟩) H):=by
 intro a s m H x y v u Q I b d h;obtain⟨c,i,rfl,rfl,o,p,q⟩:=h;obtain⟨t,rfl⟩:=b;obtain⟨r,rfl⟩:=d;refine wT I (SB.mul ?_ λw k z=>⟨.str (Txt.mul ⟨#[c]⟩ i),H,I.tok k,⟨_,rfl⟩,by rw[Z5];exact q⟩);refine⟨?_,λf g=>?_,λf g=>?_⟩
 ·have j:decide (i < -(2 ^ 63:Int))=K7:=by simp;lia
  have l:decide (i ≥ 2 ^ 63)=K7:=by simp;lia
  rw[j,l];rfl
 ·have e:((⟨#[c]⟩:Str).length:Int)=1:=rfl;rw[e];have:(1:Int)<=(2 ^ 63-1)/i:=by
   rw[Int.le_ediv_iff_mul_le 'd'];lia
  lia
 ·have e:(⟨#[c]⟩:Str).length*i.toNat=i.toNat:=by
   show 1*_=_;lia
  rw[e];have:i.toNat<=16:=by lia
  generalize i.toNat=n at this;revert n;decide
def zh9:rD X Ex (λx y H Q=>∃c i,x=.str ⟨#[c]⟩/\y=.int i/\0<=i/\i<=16/\Q (.str ⟨(aw i.toNat c).toArray⟩) H) Cf:=by
 intro H e g O x y v w Q c a b q;unfold Cf at q;split at q
 ·rename_i f i;unfold Y2 at a b;subst a;subst b;obtain⟨d,q⟩:=post.ite q;refine⟨f,i,rfl,rfl,d.1,d.2,post.here q c ?_⟩;unfold Y2;rfl
 ·exact aj q
end
def zJ(h:sc.names.lookup z=KF):¬ uE sc z:=by intro v;rcases v with v|v|v<;>(rw[h] at v;cases v)
def XD{K:ai}{x name d:Str}{f c Pt:ae}{b:iI}{body:List eJ}{scope:c8}{i j e k l m g:ab}{n o h:Option ae}{p q:Array (Option ab)}{vs:Array ab}(a:gu K bI x=KB (KB (.ref f)))
  (r:K.lookup f=KB ⟨m,o,.func (cF name d b body scope i j e k n (.ref c) l),p⟩) (s:K.lookup c=KB ⟨g,h,.fields vs,q⟩) (t:vs[11]?=KB (.ref Pt)):jx K x=KB (c,Pt):=by unfold jx;rw[a];simp only[r];show(match K.lookup c with|some ⟨_,_,.fields vs,_⟩=>_|_=>KF)=_;simp only[s,t]
structure oD(P:aN)(w:aY)(ia:ae)(fp:List ae)(n:Nat)(Pv:Nat->ab->Prop)(Sx:Nat->aX->Prop):Prop where
 stab:∀i h h',Sx i h->(∀b∈ia::fp,∀o,h.get? b=KB o->h'.get? b=KB o)->Sx i h'
 item:∀(A:ba)(i:Nat)(s:ag)(Q:ab->ag->Prop)(E:ab->ag->Prop),i<n->Sx i s.heap->(∀v h' tk,Pv i v->Sx (i+1) h'->cS ia s.heap h'->Q v { s with heap:=h',toks:=tk })->am (av P w) A (cj (.ref ia)) Q E s
 done:∀(A:ba)(i:Nat)(s:ag)(Q:ab->ag->Prop)(E:ab->ag->Prop),A.handled=KF->n<=i->Sx i s.heap->(∀h' e,jj ia s.heap h'->(∃o,h'.get? e=KB o/\o.cls=.type "StopIteration")->E (.ref e) { s with heap:=h' })->am (av P w) A (cj (.ref ia)) Q E s
section
variable{P:aN}{w:aY}{A:ba}{E:ab->ag->Prop}{s:ag}
def QO{α:Type}{Q:α->ag->Prop}(c:A.handled=KF)(h:∀h' e,(∀b o,s.heap.get? b=KB o->h'.get? b=KB o)->(∃o,h'.get? e=KB o/\o.cls=.type "StopIteration")->E (.ref e) { s with heap:=h' }):
  am (av P w) A (newExc (.type "StopIteration") [] >>= λe=>(raiseNew e:Sem α)) Q E s:=by refine aa ?_;simp only[newExc,newTuple];refine aa (b9 (?_) (by size_fits));refine aa (m:=firstArgMember _ _) (ji (a:=.none) (by first|rfl|(simp only[firstArgMember];rfl)) (b9 ?_ (by size_fits)));simp only[raiseNew];refine aa (wpAny_handled ?_);rw[c];refine aa (ah (wpAny_throw (h _ _ (λb o e=>af _ (af _ e)) ⟨_,aC _ rfl,rfl⟩)))
def zfo(j f:ae)(items:Array ab)(I:f≠j):oD P w j [f] items.size (λi v=>items[i]?=KB v) (λi h=>h.IsTupleIter j f i/\h.IsTuple f items) where
 stab:=by
  rintro i h y ⟨⟨o,e,c,d⟩,⟨B,J,r⟩⟩ k;exact⟨⟨o,k j 'k' o e,c,d⟩,⟨B,k f 'k' B J,r⟩⟩
 item:=by
  rintro A i s Q E q ⟨a,t⟩ u;obtain⟨K,l,C,g⟩:=id a;obtain⟨D,m,F,G,n⟩:=id t;have p:items[i]?=KB items[i]:=aU q;unfold cj;refine aa (cb (name := "__next__") a.typeIs fK (bL fK a.typeIs jo ?_ (jc _)));show am _ _ (field (.ref j) 0 >>= _) _ _ s;refine aa (bO l g (x:=.ref f) rfl ?_);show am _ _ (if (fx f==gD)=KM then _ else _) _ _ s;rw[qq (by exact cf)];show am _ _ (field (.ref j) 1 >>= _) _ _ s;refine aa (bO l g (x:=.int i 0) rfl ?_);show am _ _ (seqItems? (.ref f) >>= _) _ _ s;refine aa (cH m n ?_);simp only[fM,p];refine aa (jd l g 'k' (ah ⟨_,rfl,ah (u _ _ s.toks p ⟨?_,?_⟩ (cU ..))⟩))
  ·exact⟨_,bJ _ l (kX (hU g _)),(mC ..).trans C,by rw[hU g];simp[bR]⟩
  ·exact⟨D,(cU ..).extBut _ _ I m,F,G,n⟩
 done:=by
  rintro A i s Q E H q ⟨a,t⟩ u;obtain⟨K,l,C,g⟩:=id a;obtain⟨D,m,F,G,n⟩:=id t;have p:items[i]?=KF:=by simp[q]
  unfold cj;refine aa (cb (name := "__next__") a.typeIs fK (bL fK a.typeIs jo ?_ (jc _)));show am _ _ (field (.ref j) 0 >>= _) _ _ s;refine aa (bO l g (x:=.ref f) rfl ?_);show am _ _ (if (fx f==gD)=KM then _ else _) _ _ s;rw[qq (by exact cf)];show am _ _ (field (.ref j) 1 >>= _) _ _ s;refine aa (bO l g (x:=.int i 0) rfl ?_);show am _ _ (seqItems? (.ref f) >>= _) _ _ s;refine aa (cH m n ?_);simp only[fM,p];refine aa (c9 (aa (jd l g 'k' ?_)));refine QO (by first|exact H|(show A.in1.handled=KF;exact H)) λy e k L=>u y e (λb o M z=>k b o ((cU ..).extBut _ _ M z)) L
def zfs(j:ae)(x:Str)(t:Tok):oD P w j [] x.cps.size (λi v=>∃c tk,x.cps[i]?=KB c/\v=.str ⟨#[c]⟩ tk) (λi h=>h.IsStrIter j "str_ascii_iterator" x t i) where
 stab:=by
  rintro i h p ⟨o,e,c,d⟩ k;exact⟨o,k j 'k' o e,c,d⟩
 item:=by
  rintro A i s Q E m a n;obtain⟨u,g,q,f⟩:=id a;have l:x.cps[i]?=KB x.cps[i]:=aU m;unfold cj;refine aa (cb (name := "__next__") a.typeIs eQ (bL eQ a.typeIs iM ?_ (iA _)));show am _ _ (field (.ref j) 0 >>= _) _ _ s;refine aa (bO g f (x:=.str x t) rfl ?_);show am _ _ (field (.ref j) 1 >>= _) _ _ s;refine aa (bO g f (x:=.int i 0) rfl ?_);simp only[fM,l];refine aa (jd g f 'k' (aa (wpAny_mkStr (ah ⟨_,rfl,ah (n _ _ _ ⟨_,_,l,rfl⟩ ?_ (cU ..))⟩) (by show 1<=qN;decide))));exact⟨_,bJ _ g (kX (hU f _)),(mC ..).trans q,by rw[hU f];simp[bR]⟩
 done:=by
  rintro A i s Q E r m a n;obtain⟨u,g,q,f⟩:=id a;have l:x.cps[i]?=KF:=by simp[m]
  unfold cj;refine aa (cb (name := "__next__") a.typeIs eQ (bL eQ a.typeIs iM ?_ (iA _)));show am _ _ (field (.ref j) 0 >>= _) _ _ s;refine aa (bO g f (x:=.str x t) rfl ?_);show am _ _ (field (.ref j) 1 >>= _) _ _ s;refine aa (bO g f (x:=.int i 0) rfl ?_);simp only[fM,l];refine aa (c9 (aa (jd g f 'k' (aa (d7 ?_)))));refine QO (by first|exact r|(show A.in1.handled=KF;exact r)) λp e k y=>n p e (λb o B z=>k b o ((cU ..).extBut _ _ B z)) y
def zeg(b l:ae)(items:Array ab)(q:l≠b):oD P w b [l] items.size (λi v=>items[i]?=KB v) (λi h=>h.IsListIter b l i/\h.IsList l items) where
 stab:=by
  rintro i h f ⟨⟨o,e,c,d⟩,⟨n,t,r⟩⟩ k;exact⟨⟨o,k b 'k' o e,c,d⟩,⟨n,k l 'k' n t,r⟩⟩
 item:=by
  rintro A i s Q E g ⟨a,j⟩ m;obtain⟨u,x,r⟩:=id j;exact wpAny_nextOf_list_item a j (aU g) λf y p=>m _ f s.toks (aU g) ⟨y,⟨u,p.extBut _ _ q x,r⟩⟩ p
 done:=by rintro A i s Q E z g ⟨a,j⟩ m;exact wpAny_nextOf_list_end z a j (by simp[g]) λf e B C=>m f e B C
end
structure FU(z ti to:ae)(i1 i2:ae)(sI sj:List ae):Prop where
 a1:ti≠z
 a2:to≠z
 a3:ti≠to
 b1:∀b∈i1::sI,b≠z/\b≠to
 b2:∀b∈i2::sj,b≠z/\b≠to
 c1:i1∉i2::sj
 c2:i2∉i1::sI
 d1:ti≠i1
 d2:ti≠i2
section
variable{P:aN}{w:aY}{A:ba}{E:ab->ag->Prop}{s:ag}{z ti to i1 i2:ae}{sI sj:List ae}{n1 n2 k:Nat}{P1 P2:Nat->ab->Prop}{S1 S2:Nat->aX->Prop}{a b:ab}
def oD.but(J:oD P w ia fp n Pv Sx)(x:Sx i h)(e:jj c h h')(d:∀b∈ia::fp,b≠c):Sx i h':=J.stab i h h' x λb f o z=>e b o (d b f) z
def Zz{Q:ab->ag->Prop}(j:oD P w i1 sI n1 P1 S1)(l:oD P w i2 sj n2 P2 S2)(D:FU z ti to i1 i2 sI sj)(hz:gj s.heap z ti to .none)(xD:er s.heap ti (.ref i1) (.ref i2))(Bx:er s.heap to a b)(h1:S1 k s.heap)(h2:S2 k s.heap)(l1:k<n1)(l2:k<n2)
  (hq:∀x y h' tk,P1 k x->P2 k y->gj h' z ti to (bR s.heap.objs.size)->er h' to x y->S1 (k+1) h'->S2 (k+1) h'->er h' s.heap.objs.size x y->
   (∀c o,c≠z->c≠to->c≠i1->c≠i2->s.heap.get? c=KB o->h'.get? c=KB o)->Q (.ref s.heap.objs.size) { s with heap:=h',toks:=tk }):
  am (av P w) A (dH.«zip.__next__» ⟨[.ref z],[]⟩) (λf s'=>∃v,f=.done (.ret v)/\Q v s') E s:=by
 have h:∀b∈i1::sI,b≠z:=λb d=>(D.b1 b d).1;have i:∀b∈i2::sj,b≠z:=λb d=>(D.b2 b d).1;have J:∀b∈i1::sI,b≠to:=λb d=>(D.b1 b d).2;have K:∀b∈i2::sj,b≠to:=λb d=>(D.b2 b d).2;have Lj:∀b∈i2::sj,b≠i1:=λb d e=>D.c1 (e▸d);have L:∀b∈i1::sI,b≠i2:=λb d e=>D.c2 (e▸d);have W:i1∈i1::sI:=au;have X:i2∈i2::sj:=au;show am _ _ (field (.ref z) 2 >>= _) _ _ s;refine aa (bO hz rfl (x:=(.bool K7)) rfl ?_);show am _ _ (field (.ref z) 3 >>= _) _ _ s;refine aa (bO hz rfl (x:=(.ref ti)) rfl (aa (cH xD rfl ?_)));show am _ _ (cI (.ref z) >>= _) _ _ s;refine aa ?_;unfold cI;refine aa (bO hz rfl (x:=(.none)) rfl (ah ?_));simp only[if_true];refine aa (c9 (aa (bO hz rfl (x:=(.ref to)) rfl ?_)));refine aa (bE hz 'k' λha M m=>?_);have M:gj ha z ti to .ellipsis:=M;refine aa ?_;simp only[iB,nk,gg,kS];refine aa (aa (jy ?_));show am _ _ (cj (.ref i1) >>= _) _ _ _;refine aa (j.item _ k _ _ _ l1 (j.but h1 m.extBut h) λx d ug px Ti n=>ah ?_);have Y:er d to a b:=n.extBut _ _ (bB (J _ W)) (m.extBut _ _ D.a2 Bx);refine aa (cH Y rfl (aa (iV Y λhc N p=>?_)));have N:er hc to x b:=N;refine aa (d7 (ah (aa (aa (jy ?_)))));show am _ _ (cj (.ref i2) >>= _) _ _ _;refine aa (l.item _ k _ _ _ l2 (l.but (l.but (l.but h2 m.extBut i) n.extBut Lj) p.extBut K) λy hd tk2 py O r=>ah ?_);have Z:er hd to x b:=r.extBut _ _ (bB (K _ X)) N;refine aa (cH Z rfl (aa (iV Z λg B t=>?_)));have B:er g to x y:=B;refine aa (d7 (ah (ah (aa (cH B rfl (aa (ic ?_)))))));have u:g.objs.size=s.heap.objs.size:=by rw[t.1,r.1,p.1,n.1,m.1]
 have ze:gj g z ti to .ellipsis:=t.extBut _ _ (bB D.a2) (r.extBut _ _ (bB (i _ X)) (p.extBut _ _ (bB D.a2) (n.extBut _ _ (bB (h _ W)) M)));have ke:∀c o,c≠z->c≠to->c≠i1->c≠i2->s.heap.get? c=KB o->g.get? c=KB o:=λc o C F R S e=>t.extBut _ _ F (r.extBut _ _ S (p.extBut _ _ F (n.extBut _ _ R (m.extBut _ _ C e))));have T:S1 (k+1) g:=j.but (j.but (j.but Ti p.extBut J) r.extBut L) t.extBut J;have U:S2 (k+1) g:=l.but O t.extBut K;have NS:z<g.objs.size:=aI ze;show am _ _ (dW (.ref z) (.ref g.objs.size) >>= _) _ _ _;refine aa ?_;unfold dW;have zf:gj (g.push { cls:=.type "tuple",data:=.seq #[x,y] }) z ti to .ellipsis:=af _ ze;refine aa (bE zf 'k' λhg V sg=>?_);have V:gj hg z ti to (bR g.objs.size):=V;refine bE V 'k' λG H si=>?_;have H:gj G z ti to (bR g.objs.size):=H;have I:∀c o,c≠z->g.get? c=KB o->G.get? c=KB o:=λc o q e=>si.extBut _ _ q (sg.extBut _ _ q (af _ e));have pi:er G g.objs.size x y:=si.extBut _ _ (dU NS) (sg.extBut _ _ (dU NS) (aC _ rfl));rw[u] at H pi;refine ah ⟨_,rfl,?_⟩;show Q (.ref g.objs.size) _;rw[u];exact hq x y G _ px py H (I _ _ D.a2 B) (j.stab _ _ _ T λb d o e=>I b o (h b d) e) (l.stab _ _ _ U λb d o e=>I b o (i b d) e) pi λc o C F R S e=>I c o C (ke c o C F R S e)
def ZZ(K:A.handled=KF)(t:oD P w i1 sI n1 P1 S1)(u:oD P w i2 sj n2 P2 S2)(D:FU z ti to i1 i2 sI sj)(hz:gj s.heap z ti to .none)(T:er s.heap ti (.ref i1) (.ref i2))(U:er s.heap to a b)(L:S1 k s.heap)(V:S2 k s.heap)(j:n1<=k\/(k<n1/\n2<=k))
  (M:∀h' tk e,(∀c o,c≠z->c≠to->c≠i1->c≠i2->s.heap.get? c=KB o->h'.get? c=KB o)->(∃o,h'.get? e=KB o/\o.cls=.type "StopIteration")->E (.ref e) { s with heap:=h',toks:=tk }):
  am (av P w) A (dH.«zip.__next__» ⟨[.ref z],[]⟩) Q E s:=by
 have f:∀b∈i1::sI,b≠z:=λb d=>(D.b1 b d).1;have l:∀b∈i2::sj,b≠z:=λb d=>(D.b2 b d).1;have W:∀b∈i1::sI,b≠to:=λb d=>(D.b1 b d).2;have X:∀b∈i2::sj,b≠to:=λb d=>(D.b2 b d).2;have Y:∀b∈i2::sj,b≠i1:=λb d e=>D.c1 (e▸d);have C:i1∈i1::sI:=au;have Z:i2∈i2::sj:=au;show am _ _ (field (.ref z) 2 >>= _) _ _ s;refine aa (bO hz rfl (x:=(.bool K7)) rfl ?_);show am _ _ (field (.ref z) 3 >>= _) _ _ s;refine aa (bO hz rfl (x:=(.ref ti)) rfl (aa (cH T rfl ?_)));show am _ _ (cI (.ref z) >>= _) _ _ s;refine aa ?_;unfold cI;refine aa (bO hz rfl (x:=(.none)) rfl (ah ?_));simp only[if_true];refine aa (c9 (aa (bO hz rfl (x:=(.ref to)) rfl ?_)));refine aa (bE hz 'k' λha v g=>?_);have v:gj ha z ti to .ellipsis:=v;refine aa ?_;simp only[iB,nk,gg,kS];refine aa (aa (jy ?_));show am _ _ (cj (.ref i1) >>= _) _ _ _;have m:∀{h:aX}{e:ae},gj h z ti to .ellipsis->(∃o,h.get? e=KB o/\o.cls=.type "StopIteration")->e≠z:=λ{h e}hz ⟨o,ho,y⟩ q=>by subst q;rw[hz] at ho;cases ho;simp at y
 rcases j with j|⟨l1,j⟩
 ·refine aa (t.done _ k _ _ _ K j (t.but L g.extBut f) λd e n p=>?_);have N:gj d z ti to .ellipsis:=n _ _ (bB (f _ C)) v;have F:=m N p;obtain⟨G,H,I⟩:=p;exact bE N 'k' λy _ i=>M y _ e (λc o r _ J _ x=>i.extBut _ _ r (n _ _ J (g.extBut _ _ r x))) ⟨G,i.extBut _ _ F H,I⟩
 ·refine aa (t.item _ k _ _ _ l1 (t.but L g.extBut f) λx d ug px Ti B=>ah ?_);have O:er d to a b:=B.extBut _ _ (bB (W _ C)) (g.extBut _ _ D.a2 U);refine aa (cH O rfl (aa (iV O λy HH i=>?_)));refine aa (d7 (ah (aa (aa (jy ?_)))));show am _ _ (cj (.ref i2) >>= _) _ _ _;refine aa (u.done _ k _ _ _ K j (u.but (u.but (u.but V g.extBut l) B.extBut Y) i.extBut X) λhd e n p=>?_);have R:gj hd z ti to .ellipsis:=n _ _ (bB (l _ Z)) (i.extBut _ _ (bB D.a2) (B.extBut _ _ (bB (f _ C)) v));have F:=m R p;obtain⟨G,H,I⟩:=p;exact bE R 'k' λhf _ S=>M hf _ e (λc o r q2 J q4 x=>S.extBut _ _ r (n _ _ q4 (i.extBut _ _ q2 (B.extBut _ _ J (g.extBut _ _ r x))))) ⟨G,S.extBut _ _ F H,I⟩
def XX{Q:Option ab->ag->Prop}(e:oD P w i1 sI n1 P1 S1)(f:oD P w i2 sj n2 P2 S2)(D:FU z ti to i1 i2 sI sj)(hz:gj s.heap z ti to .none)(g:er s.heap ti (.ref i1) (.ref i2))(h:er s.heap to a b)(i:S1 k s.heap)(j:S2 k s.heap)(l:k<n1)(m:k<n2)
  (n:∀x y h' tk,P1 k x->P2 k y->gj h' z ti to (bR s.heap.objs.size)->er h' to x y->S1 (k+1) h'->S2 (k+1) h'->er h' s.heap.objs.size x y->
   (∀c o,c≠z->c≠to->c≠i1->c≠i2->s.heap.get? c=KB o->h'.get? c=KB o)->Q (KB (.ref s.heap.objs.size)) { s with heap:=h',toks:=tk }):am (av P w) A (pyNext (.ref z)) Q E s:=by have d:s.TypeIs (.ref z) "zip":=⟨_,hz,rfl⟩;unfold pyNext;exact aa (fJ (cb (name := "__next__") d iW (bL iW d mS (Zz e f D hz g h i j l m λx y h' tk p q r t u v B C=>ah (n x y h' tk p q r t u v B C)) (mD _))))
def VY(f:A.handled=KF)(g:oD P w i1 sI n1 P1 S1)(h:oD P w i2 sj n2 P2 S2)(D:FU z ti to i1 i2 sI sj)(hz:gj s.heap z ti to .none)(i:er s.heap ti (.ref i1) (.ref i2))(j:er s.heap to a b)(l:S1 k s.heap)(m:S2 k s.heap)(n:n1<=k\/(k<n1/\n2<=k))
  (p:∀h' tk,(∀c o,c≠z->c≠to->c≠i1->c≠i2->s.heap.get? c=KB o->h'.get? c=KB o)->Q KF { s with heap:=h',toks:=tk }):am (av P w) A (pyNext (.ref z)) Q E s:=by have d:s.TypeIs (.ref z) "zip":=⟨_,hz,rfl⟩;unfold pyNext;refine aa (fJ (cb (name := "__next__") d iW (bL iW d mS (ZZ f g h D hz i j l m n λh' tk e q r=>?_) (mD _))));obtain⟨t,u,v⟩:=r;exact aa (iC (T := "StopIteration") (b:=KM) ⟨t,u,v⟩ kY (ah (p _ tk q)))
end
inductive ZK where
 |tup (t:ae) (items:Array ab)
 |str (x:Str) (t:Tok)
 |lst (l:ae) (items:Array ab)
def ZK.val:ZK->ab
 |.tup t _=>.ref t
 |.str x t=>.str x t
 |.lst l _=>.ref l
noncomputable def ZK.obj:ZK->Obj
 |.tup t _=>{ cls:=.type "tuple_iterator",data:=.fields #[.ref t,.int 0 0] }
 |.str x t=>{ cls:=.type "str_ascii_iterator",data:=.fields #[.str x t,.int 0 0] }
 |.lst l _=>{ cls:=.type "list_iterator",data:=.fields #[.ref l,.int 0 0] }
def ZK.pre(h:aX):ZK->Prop
 |.tup t items=>h.IsTuple t items
 |.str x _=>x.cps.all (· < 128)=KM
 |.lst l items=>h.IsList l items
def ZK.keep(k:∀b o,h.get? b=KB o->h'.get? b=KB o):∀(q:ZK),q.pre h->q.pre h'
 |.tup t items,⟨o,e,r⟩=>⟨o,k _ _ e,r⟩
 |.str x t,e=>e
 |.lst l items,⟨o,e,r⟩=>⟨o,k _ _ e,r⟩
def ZK.iter(q:ZK)(h:q.pre s.heap)(a:Q (.ref s.heap.objs.size) { s with heap:=s.heap.push q.obj }):am (av P w) A (pyIter q.val) Q E s:=by
 cases q with
 |tup t items=>exact jm h a
 |str x t=>exact wpAny_pyIter_ascii h a
 |lst l items=>exact fO h a
abbrev zH(h:aX)(a b:ZK):aX:=(((((h.push a.obj).push b.obj).push { cls:=.type "tuple",data:=.seq #[.ref h.objs.size,.ref (h.push a.obj).objs.size] }).push { cls:=.type "tuple",data:=.seq #[.none,.none] }).push
 { cls:=.type "zip",data:=.fields #[.none,.bool K7,.bool K7,.ref ((h.push a.obj).push b.obj).objs.size,.ref (((h.push a.obj).push b.obj).push { cls:=.type "tuple",data:=.seq #[.ref h.objs.size,.ref (h.push a.obj).objs.size] }).objs.size] })
abbrev zA(h:aX)(a b:ZK):ae:=((((h.push a.obj).push b.obj).push { cls:=.type "tuple",data:=.seq #[.ref h.objs.size,.ref (h.push a.obj).objs.size] }).push { cls:=.type "tuple",data:=.seq #[.none,.none] }).objs.size
def X8(a b:ZK)(k l:ab)(n:a.val=k)(p:b.val=l):Meets (dH.«zip.__new__» ⟨[.type "zip",k,l],[]⟩) (λ_ R s=>a.pre s.heap/\b.pre s.heap/\R (.ok (.ret (.ref (zA s.heap a b)))) { s with heap:=zH s.heap a b }):=
 .of_wp λP w A R s h=>by
  obtain⟨f,g,d,i,j⟩:=s;obtain⟨q,r,h⟩:=h;have v:=sub_zip;have t:∀{E:ab->ag->Prop}{Q:ab->ag->Prop},Q (.ref f.objs.size) ⟨f.push a.obj,g,d,i,j⟩->am (av P w) A.in1 (pyIter k) Q E ⟨f,g,d,i,j⟩:=λ{E Q}hq=>by rw[<- n];exact a.iter (s:=⟨f,g,d,i,j⟩) q hq
  have m:b.pre (f.push a.obj):=b.keep (λc o e=>af _ e) r;have u:∀{E:ab->ag->Prop}{Q:ab->ag->Prop},Q (.ref (f.push a.obj).objs.size) ⟨(f.push a.obj).push b.obj,g,d,i,j⟩->am (av P w) A.in1 (pyIter l) Q E ⟨f.push a.obj,g,d,i,j⟩:=λ{E Q}hq=>by rw[<- p];exact b.iter (s:=⟨f.push a.obj,g,d,i,j⟩) m hq
  wp_walk using t,u
  exact⟨_,rfl,h⟩
section
variable{P:aN}{w:aY}{A:ba}{E:ab->ag->Prop}{s:ag}
def zfD(a b:ZK)(n:a.pre s.heap)(p:b.pre s.heap)
  (h:∀h',gj h' (s.heap.objs.size+4) (s.heap.objs.size+2) (s.heap.objs.size+3) .none->er h' (s.heap.objs.size+2) (.ref s.heap.objs.size) (.ref (s.heap.objs.size+1))->er h' (s.heap.objs.size+3) .none .none->
   h'.get? s.heap.objs.size=KB a.obj->h'.get? (s.heap.objs.size+1)=KB b.obj->(∀c o,s.heap.get? c=KB o->h'.get? c=KB o)->Q (.ref (s.heap.objs.size+4)) { s with heap:=h' }):
  am (av P w) A (call (.type "zip") [a.val,b.val]) Q E s:=by
 refine callType_new F.called_zip 'u' (F.typeCall_zip_2 _ _) (F.newCall_zip_2 _ _) (λd=>F.args_object_init_3 d _ _) F.entry_zip_new (X8 a b _ _ rfl rfl) ⟨n,p,?_⟩;have q:a.obj.isFreed=K7:=by cases a<;>rfl
 have r:b.obj.isFreed=K7:=by cases b<;>rfl
 have e:(s.heap.push a.obj).objs.size=s.heap.objs.size+1:=cu ..;have f:((s.heap.push a.obj).push b.obj).objs.size=s.heap.objs.size+2:=by rw[cu,e]
 have g:(((s.heap.push a.obj).push b.obj).push { cls:=.type "tuple",data:=.seq #[.ref s.heap.objs.size,.ref (s.heap.push a.obj).objs.size] }).objs.size=s.heap.objs.size+3:=by rw[cu,f]
 have j:zA s.heap a b=s.heap.objs.size+4:=by show Array.size _=_;rw[cu,g]
 have i:(zH s.heap a b).get? (zA s.heap a b)=KB _:=aC _ rfl;have k:(zH s.heap a b).get? (((s.heap.push a.obj).push b.obj).push { cls:=.type "tuple",data:=.seq #[.ref s.heap.objs.size,.ref (s.heap.push a.obj).objs.size] }).objs.size=KB _:=af _ (aC _ rfl);have l:(zH s.heap a b).get? ((s.heap.push a.obj).push b.obj).objs.size=KB _:=af _ (af _ (aC _ rfl));have m:(zH s.heap a b).get? (s.heap.push a.obj).objs.size=KB _:=af _ (af _ (af _ (aC _ r)));have t:(zH s.heap a b).get? s.heap.objs.size=KB _:=af _ (af _ (af _ (af _ (aC _ q))));show _/\_;rw[f,g,j] at i;rw[g] at k;rw[e,f] at l;rw[e] at m;rw[j];exact⟨⟨_,i,rfl⟩,h _ i l k t m λc o x=>af _ (af _ (af _ (af _ (af _ x))))⟩
end
def Held(X:Cx)(H:Hp)(h:aX)(b:ae):Prop:=H b≠KF \/ ∃o,X.base.get? b=KB o
def Held.far{X:Cx}{a:List (ae×Obj)}{σ:St}{H:Hp}{s:ag}{b q:ae}(I:L2.Inv X a σ H s)(x:Held X H s.heap b)(f:rE X a H q):b≠q:=by
 rintro rfl;rcases x with x|⟨o,e⟩
 ·exact x f.1
 ·rcases f.2.2.2.1 with z|z
  ·exact I.ok.noex b o e z
  ·exact absurd (bb (aI e) I.ok.bsz) (Nat.not_lt.mpr z)
structure AM(P:aN)(w:aY)(K:ai)(J:It)(ia:ae)(S:Nat->aX->Prop):Prop where
 obj:∀i h,S i h->∃o,h.get? ia=KB o/\∀v,o.data ≠ .cell v
 keep:∀i h h',S i h->(∀o,h.get? ia=KB o->h'.get? ia=KB o)->S i h'
 got:∀(X:Cx),X.prog=P->X.w=w->X.K=K->∀(i:Nat)(Y1:List (ae×Obj))(s:ag)(σ:St)(H:Hp),L2.Inv X Y1 σ H s->rE X Y1 H ia->S i s.heap->(J.go i H\/J.stop i H)->
  ∃fp n Pv Sx,oD P w ia fp n Pv Sx/\Sx i s.heap/\(∀j h,Sx j h->S j h)/\(J.go i H->i<n)/\(J.stop i H->n<=i)/\(∀v,Pv i v->∃x,RelV x v/\J.yld i H x H)/\∀b∈fp,Held X H s.heap b
section
variable{P:aN}{w:aY}{K:ai}
def N_{X:Cx}{b:List (ae×Obj)}{σ:St}{H:Hp}{s:ag}{a:ae}{xs:List V}(I:L2.Inv X b σ H s)(h:qT X.K H a xs):Held X H s.heap a:=by
 rcases h with h|⟨o,d,n,c,_⟩
 ·exact .inl (by rcases h with h|⟨_,h⟩<;>(rw[h];simp))
 ·exact .inr ⟨o,I.ok.mod.kin a o c⟩
def Oz{X:Cx}{b:List (ae×Obj)}{σ:St}{H:Hp}{s:ag}{a:ae}{xs:List V}(I:L2.Inv X b σ H s)(h:qz X.K H a xs):Held X H s.heap a:=by
 rcases h with h|⟨o,d,n,c,_⟩
 ·exact .inl (by rcases h with h|⟨_,h⟩<;>(rw[h];simp))
 ·exact .inr ⟨o,I.ok.mod.kin a o c⟩
def RT{xs:List V}{a:List ab}{i:Nat}{v:ab}(r:oa xs a)(e:a[i]?=KB v):∃x,xs[i]?=KB x/\RelV x v:=by
 have f:=r.length;have b:i<xs.length:=by have:=(ar.mp e).1;lia
 obtain⟨u,c,d⟩:=r.get (ao b);rw[e] at c;cases c;exact⟨_,ao b,d⟩
def Wi(a l:ae):AM P w K (MR K a) l (λi h=>h.IsTupleIter l a i) where
 obj:=λi h ⟨o,e,c,d⟩=>⟨o,e,λv z=>by rw[d] at z;cases z⟩
 keep:=λi h R ⟨o,e,c,d⟩ k=>⟨o,k o e,c,d⟩
 got:=by
  intro X A B C i n s S H I D E F;subst A B C;have G:∃g,qT X.K H a g:=by
   rcases F with⟨g,x,h,_⟩|⟨g,h,_⟩<;>exact⟨g,h⟩
  obtain⟨g,f⟩:=G;obtain⟨q,r,p,T⟩:=I.tuple f;have U:=r.length;refine⟨[a],_,_,_,zfo l a q.toArray ((N_ I f).far I D),⟨E,p⟩,λj h z=>z.1,λ⟨t,y,m,u⟩=>?_,λ⟨t,m,u⟩=>?_,λv J=>?_,λb L=>?_⟩
  ·have e:=I.tuple_inj m f;subst e;have:=(ar.mp u).1;simp;lia
  ·have e:=I.tuple_inj m f;subst e;simp;lia
  ·have M:q[i]?=KB v:=by simpa using J
   obtain⟨x,N,O⟩:=RT r M;exact⟨x,O,rfl,λt Q=>by rw[I.tuple_inj Q f];exact N⟩
  ·have:b=a:=by simpa using L
   subst this;exact N_ I f
def N5(a l:ae):AM P w K (IG K a) l (λi h=>h.IsListIter l a i) where
 obj:=λi h ⟨o,e,c,d⟩=>⟨o,e,λv z=>by rw[d] at z;cases z⟩
 keep:=λi h R ⟨o,e,c,d⟩ k=>⟨o,k o e,c,d⟩
 got:=by
  intro X A B C i n s S H I D E F;subst A B C;have G:∃g,qz X.K H a g:=by
   rcases F with⟨g,x,h,_⟩|⟨g,h,_⟩<;>exact⟨g,h⟩
  obtain⟨g,f⟩:=G;obtain⟨q,r,p,T⟩:=I.list f;have U:=r.length;refine⟨[a],_,_,_,zeg l a q.toArray ((Oz I f).far I D),⟨E,p.isList⟩,λj h z=>z.1,λ⟨t,y,m,u⟩=>?_,λ⟨t,m,u⟩=>?_,λv J=>?_,λb L=>?_⟩
  ·have e:=I.list_inj m f;subst e;have:=(ar.mp u).1;simp;lia
  ·have e:=I.list_inj m f;subst e;simp;lia
  ·have M:q[i]?=KB v:=by simpa using J
   obtain⟨x,N,O⟩:=RT r M;exact⟨x,O,rfl,λt Q=>by rw[I.list_inj Q f];exact N⟩
  ·have:b=a:=by simpa using L
   subst this;exact Oz I f
def in_str(x:Str)(t:Tok)(a:ae):AM P w K (IE x) a (λi h=>h.IsStrIter a "str_ascii_iterator" x t i) where
 obj:=λi h ⟨o,e,c,d⟩=>⟨o,e,λv z=>by rw[d] at z;cases z⟩
 keep:=λi h r ⟨o,e,c,d⟩ k=>⟨o,k o e,c,d⟩
 got:=by intro X g l m i f s u H I y n A;subst g l m;refine⟨[],_,_,_,zfs a x t,n,λj h z=>z,λz=>z,λz=>z,λv ⟨c,B,e,p⟩=>?_,λb q=>by cases q⟩;subst p;exact⟨.str ⟨#[c]⟩,⟨_,rfl⟩,rfl,c,e,rfl⟩
end
def UI(J1 J2:It):It:=
 ⟨λi H=>J1.go i H/\J2.go i H,λi H v H'=>∃p x y,H p=KF/\v=.ref p/\J1.yld i H x H/\J2.yld i H y H/\H'=upd H p (.tup [x,y]),λi H=>J1.stop i H/\(J2.go i H\/J2.stop i H)\/J1.go i H/\J2.stop i H⟩
def Vc(z t o i j:ae)(S1 S2:Nat->aX->Prop)(n:Nat)(h:aX):Prop:=gj h z t o .none/\er h t (.ref i) (.ref j)/\(∃a b,er h o a b)/\S1 n h/\S2 n h
def zfm(z t o i j:ae)(ap:[z,t,o,i,j].Nodup)(W:AM P w K J1 i S1)(Y:AM P w K J2 j S2):wK P w K (.Tuple es kt pt) (UI J1 J2) [z,t,o,i,j] z (Vc z t o i j S1 S2):=by
 simp only[bG,aq,aZ,or_false,not_or,ie,and_true] at ap;obtain⟨⟨a1,a2,a3,a4⟩,⟨b1,b2,b3⟩,⟨c1,c2⟩,d1,_⟩:=ap;have Q0:∀{X:Cx}{d:List (ae×Obj)}{s:ag}{C:St}{H:Hp}{Z sj:List ae},L2.Inv X d C H s->(∀b∈[z,t,o,i,j],rE X d H b)->(∀b∈Z,Held X H s.heap b)->(∀b∈sj,Held X H s.heap b)->FU z t o i j Z sj:=λ{X d s C H Z sj}I r h1 h2=>
  ⟨bB a1,bB a2,b1,λb f=>(aq.mp f).elim (λe=>by rw[e];exact⟨bB a3,bB c1⟩) λf=>⟨(h1 b f).far I (r z 'k'),(h1 b f).far I (r o 'k')⟩,
   λb f=>(aq.mp f).elim (λe=>by rw[e];exact⟨bB a4,bB c2⟩) λf=>⟨(h2 b f).far I (r z 'k'),(h2 b f).far I (r o 'k')⟩,
   λf=>(aq.mp f).elim d1 λf=>(h2 i f).far I (r i 'k') rfl,λf=>(aq.mp f).elim (bB d1) λf=>(h1 j f).far I (r j 'k') rfl,b2,b3⟩
 refine⟨by simp,λn h F b f=>?_,λn h h' F k=>?_,?_,?_,λA n s Q E F q=>wpAny_pyIter_zip F.1 q⟩
 ·obtain⟨J,G,⟨a,b',L⟩,M,N⟩:=F;simp only[aq,aZ,or_false] at f;rcases f with rfl|rfl|rfl|rfl|rfl
  ·exact⟨_,J,λv e=>by cases e⟩
  ·exact⟨_,G,λv e=>by cases e⟩
  ·exact⟨_,L,λv e=>by cases e⟩
  ·exact W.obj n h M
  ·exact Y.obj n h N
 ·obtain⟨J,G,⟨a,b',L⟩,M,N⟩:=F;exact⟨k z 'k' _ J,k t 'k' _ G,⟨a,b',k o 'k' _ L⟩,W.keep n h h' M (k i 'k'),Y.keep n h h' N (k j 'k')⟩
 ·intro X O R S l n d s C H E I r F hg;obtain⟨g1,g2⟩:=hg;obtain⟨J,G,⟨a,b,L⟩,M,N⟩:=F;obtain⟨Z,n1,P1,T1,Z1,s1,u1,C7,qw,y1,f1⟩:=W.got X O R S n d s C H I (r i 'k') M (.inl g1);obtain⟨sj,n2,P2,T2,Z2,s2,u2,Uo,p9,y2,f2⟩:=Y.got X O R S n d s C H I (r j 'k') N (.inl g2);have D:=Q0 I r f1 f2;subst O R S;refine wT I (XX Z1 Z2 D J G L s1 s2 (C7 g1) (Uo g2) λx y h' tk px py q1 q2 q3 q4 q5 hk qp=>⟨_,rfl,?_⟩);obtain⟨vx,rx,yx⟩:=y1 x px;obtain⟨vy,ry,yy⟩:=y2 y py;refine wpAny_letOwnedTupleGo_zip q1 λT e1 U=>?_;have nb:∀q∈[z,t,o,i,j],s.heap.objs.size≠q:=λq hq e=>by
   have:∃m,s.heap.get? q=KB m:=by
    simp only[aq,aZ,or_false] at hq;rcases hq with rfl|rfl|rfl|rfl|rfl
    ·exact⟨_,J⟩
    ·exact⟨_,G⟩
    ·exact⟨_,L⟩
    ·obtain⟨m,g,_⟩:=W.obj n _ M;exact⟨_,g⟩
    ·obtain⟨m,g,_⟩:=Y.obj n _ N;exact⟨_,g⟩
   obtain⟨m,g⟩:=this;exact absurd (aI g) (by rw[e];exact bN _)
  have B:∀c m,c∉[z,t,o,i,j]->s.heap.get? c=KB m->T.get? c=KB m:=λc m l e=>by
   simp only[aq,aZ,or_false,not_or] at l;exact U.extBut _ _ l.1 (hk c m l.1 l.2.2.1 l.2.2.2.1 l.2.2.2.2 e)
  have I1:L2.Inv X d C H { s with heap:=T,toks:=tk }:=Inv.turns [z,t,o,i,j] I B r;have xI:T.get? s.heap.objs.size=KB { cls:=.type "tuple",data:=.seq #[x,y] }:=U.extBut _ _ (nb z 'k') q5;have V:H s.heap.objs.size=KF:=I.hok.fresh (aF _);have I2:L2.Inv X d C (upd H s.heap.objs.size (.tup [vx,vy])) { s with heap:=T,toks:=tk }:=by
   have un:Un (um X.stack) [z,t,o,i,j] H (upd H s.heap.objs.size (.tup [vx,vy])) s.heap T:=by
    refine⟨λc m e _ _ l=>B c m l e,λc m e _ _ l=>⟨m.slots,B c m l e⟩,λc m e hn _=>?_,λc m e l=>⟨m,B c m l e⟩,λc zs e=>?_,λc m u e=>?_,λc ps e=>⟨#[],?_⟩⟩
    ·rw[pI (bh (aI e))];exact hn
    ·rw[pI (rm e V)];exact e
    ·rw[pI (rm e V)];exact e
    ·rw[pI (rm e V),e];simp
   have hok:HOk X.prog X.w (upd H s.heap.objs.size (.tup [vx,vy])) T:=by
    intro c u' e;by_cases l:c=s.heap.objs.size
    ·subst l;rw[qP] at e;cases e;exact⟨by show 2<=qN;decide,[x,y],.cons rx (.cons ry .nil),⟨_,xI,rfl,⟨_,rfl⟩,rfl⟩⟩
    ·rw[pI l] at e;refine(I1.hok c u' e).stay (λ_ _ _ q=>q) (λp q=>?_) λp zs q=>?_
     ·by_cases hp:p=s.heap.objs.size
      ·subst hp;rw[V] at q;cases q
      ·rw[pI hp];exact q
     ·by_cases hp:p=s.heap.objs.size
      ·subst hp;rw[V] at q;cases q
      ·rw[pI hp];exact q
   exact I.call (t':=tk) (d':=s.drawn) un hok I.bare λb f=>let ⟨_,f1,_,f3,f4,f5⟩:=r b f;⟨f3,f1,f4,f5⟩
  refine⟨.ref s.heap.objs.size,_,I2,rfl,⟨_,vx,vy,V,rfl,yx,yy,rfl⟩,⟨e1,?_,⟨_,_,U.extBut _ _ D.a2 q2⟩,?_,?_⟩,λb f=>?_⟩
  ·exact U.extBut _ _ D.a1 (hk _ _ D.a1 D.a3 D.d1 D.d2 G)
  ·exact u1 _ _ (Z1.but q3 U.extBut λb f=>(D.b1 b f).1)
  ·exact u2 _ _ (Z2.but q4 U.extBut λb f=>(D.b2 b f).1)
  ·rw[pI (bB (nb b f))];exact(r b f).1
 ·intro X O R S l n d s C H E I r F hg;obtain⟨J,G,⟨a,b,L⟩,M,N⟩:=F;have k1:J1.go n H\/J1.stop n H:=hg.elim (λz=>.inr z.1) λz=>.inl z.1;have k2:J2.go n H\/J2.stop n H:=hg.elim (λz=>z.2) λz=>.inr z.2;obtain⟨Z,n1,P1,T1,Z1,s1,u1,C7,qw,y1,f1⟩:=W.got X O R S n d s C H I (r i 'k') M k1;obtain⟨sj,n2,P2,T2,Z2,s2,u2,Uo,p9,y2,f2⟩:=Y.got X O R S n d s C H I (r j 'k') N k2;have D:=Q0 I r f1 f2;subst O R S;refine wT I (VY (I.ok.hd l) Z1 Z2 D J G L s1 s2 (hg.elim (λq=>.inl (qw q.1)) λq=>.inr ⟨C7 q.1,p9 q.2⟩) λh' tk hk qp=>⟨rfl,?_⟩);refine Inv.turns (t':=tk) [z,t,o,i,j] I (λc m l e=>?_) r;simp only[aq,aZ,or_false,not_or] at l;exact hk c m l.1 l.2.2.1 l.2.2.2.1 l.2.2.2.2 e
noncomputable def vk:D->Option Src
 |.lst ds=>KB (.val ds)
 |.own k=>KB (.own k)
 |.tup ds=>KB (.val ds)
 |.str cs=>if cs.all (· < 128)=KM then KB (.val (cs.map λc=>.str [c])) else KF
 |_=>KF
def ya(t:DA):DI:=λσ O=>(t σ O).bnd λxs O1=>match xs with
 | [x,y]=>match vk x,vk y with
  |some p,KB q=>.ok (.zip p q) O1
  |_,_=>.bad
 |_=>.bad
def oi.zipW(n:oi K J1 s1 H XV μ)(o:oi K J2 s2 H XV μ):oi K (UI J1 J2) (.zip s1 s2) H XV μ:=by
 intro b h k e m c i;have f:=n b h k e m c i;have a:=o b h k e m c i;show match (match s1.get e i,s2.get e i with|some x,KB y=>KB (D.tup [x,y])|_,_=>KF) with|some d=>_|none=>_
 cases l:s1.get e i with
 | none=>
  rw[l] at f;refine .inl ⟨f,?_⟩;cases g:s2.get e i with
  |none=>rw[g] at a;exact .inr a
  |some d=>rw[g] at a;exact .inl a.1
 | some d1=>
  rw[l] at f;cases g:s2.get e i with
  |none=>rw[g] at a;exact .inr ⟨f.1,a⟩
  | some d2=>
   rw[g] at a;refine⟨⟨f.1,a.1⟩,λv t q=>?_⟩;obtain⟨p,x,y,j,rfl,r,s,rfl⟩:=q;exact⟨.laid j,c.laid j,Y2.newT c j (.cons (f.2 x h r).2.2 (.cons (a.2 y h s).2.2 .nil))⟩
section
variable{X:Cx}{Ex:Nat->Hp->Prop}{pos:Pos}{a b c e:aT}{Y1:List (ae×Obj)}{c_:St}{H:Hp}{s:ag}{XV μ:List ae}{O:Ow}
def I8(I:L2.Inv X Y1 c_ H s)(c:n6 X.K H XV μ O)(h:Y2 X.K H XV μ d v)(r:RelV v u)(e:vk d=KB src):
  ∃(k:ZK)(J:It),k.val=u/\k.pre s.heap/\oi X.K J src H XV μ/\∀f,∃S,AM X.prog X.w X.K J f S/\∀h:aX,h.get? f=KB k.obj->S 0 h:=by
 cases d with
 | lst o=>
  unfold Y2 at h;obtain⟨q,j,rfl,l,m⟩:=h;cases e;cases r;obtain⟨g,_,p,_⟩:=I.list l.sq;exact⟨.lst q g.toArray,_,rfl,p.isList,.val l m,λf=>⟨_,N5 q f,λh z=>⟨_,z,rfl,rfl⟩⟩⟩
 | own k=>
  unfold Y2 at h;obtain⟨q,rfl,x⟩:=h;cases e;cases r;obtain⟨o,j,A,y,B⟩:=c.at_ k q x;obtain⟨g,_,p,_⟩:=I.list (a:=q) (xs:=j) (.of y);exact⟨.lst q g.toArray,_,rfl,p.isList,.own x,λf=>⟨_,N5 q f,λh z=>⟨_,z,rfl,rfl⟩⟩⟩
 | tup o=>
  unfold Y2 at h;obtain⟨q,j,rfl,l,m⟩:=h;cases e;cases r;obtain⟨g,_,p,_⟩:=I.tuple l.sq;exact⟨.tup q g.toArray,_,rfl,p,.tup l m,λf=>⟨_,Wi q f,λh z=>⟨_,z,rfl,rfl⟩⟩⟩
 | str cs=>
  unfold Y2 at h;subst h;obtain⟨t,rfl⟩:=r;have i:(if cs.all (· < 128)=KM then KB (Src.val (cs.map λc=>D.str [c])) else KF)=KB src:=e;by_cases n:cs.all (· < 128)=KM
  ·rw[qb n] at i;cases i;refine⟨.str ⟨cs.toArray⟩ t,_,rfl,?_,.str,λf=>⟨_,in_str _ t f,λh z=>⟨_,z,rfl,rfl⟩⟩⟩;show cs.toArray.all (· < 128)=KM;simpa using n
  ·rw[qq n] at i;cases i
 |_=>cases e
def zgH(C:Gl X "zip")(D:X.mg "zip" = KF)(E:tJ X Ex [a,b] t)(F:aV [a,b] X.env=[(K7,eval a X.env),(K7,eval b X.env)]:=by rfl)(r:aV [b] X.env=[(K7,eval b X.env)]:=by rfl):
  sC X Ex (.Tuple es' kt pt) (.Call (.Name "zip" p) [a,b] [] pos) (ya t):=by
 refine⟨?_⟩;rintro Y1 s c_ H G I ⟨XV,μ,σ,O,m,L,q⟩;refine lj (AY I C D zhj (fy (pG (E.out pos Y1 s c_ H _ I (uh.go m L q (Q1:=λo g=>∃XV h i j,n6 X.K g XV h i/\n8 X.K g XV h j o/\
   post Ex X.K (λH' M s J=>oi X.K J s H' XV M) g XV h (match j with|[x,y]=>(match vk x,vk y with|some p,KB q=>.ok (.zip p q) i|_,_=>.bad)|_=>.bad) G)
  λj i o g h u x k d p=>⟨XV,h,i,j,k,d,p⟩)) λus f ⟨o,g,l,N,XV,h,i,j,k,d,p⟩=>?_) (by rw[F,r]) (by rw[r];rfl)))
 split at p
 ·rename_i x y;split at p
  ·rename_i sp sq m u;obtain⟨v,w,rfl,P,Q⟩:=zU d;obtain⟨u1,u2,rfl,R,S⟩:=Cb N;obtain⟨T,J1,U,V,W,Y⟩:=I8 l k P R m;obtain⟨Z,J2,v2,p2,t2,i2⟩:=I8 l k Q S u;rw[<- U,<- v2];refine zfD T Z V p2 λh' z g3 g4 g1 g2 hk=>?_;refine wpAny_pyIter_zip z ?_;have I2:L2.Inv X Y1 c_ g { f with heap:=h',toks:=f.toks }:=l.kept hk;obtain⟨S1,N1,z1⟩:=Y f.heap.objs.size;obtain⟨S2,N2,z2⟩:=i2 (f.heap.objs.size+1);refine⟨f.heap.objs.size+4,[f.heap.objs.size+4,f.heap.objs.size+2,f.heap.objs.size+3,f.heap.objs.size,f.heap.objs.size+1],_,_,g,rfl,I2,zfm _ _ _ _ _ ?_ N1 N2,⟨z,g3,⟨_,_,g4⟩,z1 _ g1,z2 _ g2⟩,λb A=>?_,post.here p k (.zipW W t2)⟩
   ·have nn:∀(n:ae),[n+4,n+2,n+3,n,n+1].Nodup:=λn=>by
     simp only[bG,aq,aZ,or_false,not_or,ie,and_true];refine⟨⟨?_,?_,?_,?_⟩,⟨?_,?_,?_⟩,⟨?_,?_⟩,?_,not_false⟩<;>simp[ae] at * <;> lia
    exact nn _
   ·have B:f.heap.objs.size<=b:=by
     simp only[aq,aZ,or_false] at A;rcases A with rfl|rfl|rfl|rfl|rfl<;>lia
    exact l.fpOk (H':=g) B (l.hok.fresh B)
  ·exact aj p
 ·exact aj p
end
end DL
namespace DL
open PySem L2
open AutoSeq1 (wpAny_loadPart')
section
variable{P:aN}{w:aY}{A:ba}{E:ab->ag->Prop}{s:ag}
variable{ea ia:ae}{fp:List ae}{n k:Nat}{Pv:Nat->ab->Prop}{Sx:Nat->aX->Prop}{old:ab}
def zhu(J:oD P w ia fp n Pv Sx)(v:hV s.heap ea ia (k:Nat) old)(X:Sx k s.heap)(Y:k<n)(j:∀b∈ia::fp,b≠ea)
  (Z:∀x h' tk ti,Pv k x->IsEnumOut h' ea ia ((k:Int)+1) x s.heap.objs.size->Sx (k+1) h'->h'.get? s.heap.objs.size=KB { cls:=.type "tuple",data:=.seq #[.int (k:Nat) ti,x] }->(∀b o,b≠ea->b≠ia->s.heap.get? b=KB o->h'.get? b=KB o)->Q (KB (.ref s.heap.objs.size)) { s with heap:=h',toks:=tk }):
  am (av P w) A (pyNext (.ref ea)) Q E s:=by
 have T:s.TypeIs (.ref ea) "enumerate":=⟨_,v,rfl⟩;have D:ea≠ia:=bB (j ia au);unfold pyNext;refine aa (fJ (cb (name := "__next__") T fF (bL fF T kH ?_ (kh _))));obtain⟨e,g,d,tk,f⟩:=s;show am _ _ (field (.ref ea) 2 >>= _) _ _ _;refine aa (bO v rfl (x:=.ref ia) rfl (aa (J.item _ k _ _ _ Y X λx h a px F l=>?_)));have l:cS ia e h:=l;have G:hV h ea ia (k:Nat) old:=(l.2 ea D).trans v;show am _ _ (field (.ref ea) 3 >>= _) _ _ ⟨h,g,d,a,f⟩;refine aa (bO G rfl (x:=bR (k:Nat)) rfl ?_);show am _ _ (field (.ref ea) 4 >>= _) _ _ ⟨h,g,d,a,f⟩;refine aa (bO G rfl (x:=(.none)) rfl ?_);show am _ _ (mkInt (k:Nat) >>= _) _ _ ⟨h,g,d,a,f⟩;refine aa (wpAny_mkInt ?_);show am _ _ (setField (.ref ea) 3 (bR ((k:Int)+1)) >>= _) _ _ ⟨h,g,d,a+1,f⟩;refine aa (bE G 'k' λy H m=>?_);have m:cS ea h y:=m;have H:hV y ea ia ((k:Int)+1) old:=H;show am _ _ (setField (.ref ea) 4 .none >>= _) _ _ ⟨y,g,d,a+1,f⟩;refine aa (bE H 'k' λc I p=>?_);have p:cS ea y c:=p;have I:hV c ea ia ((k:Int)+1) old:=I;show am _ _ (newTuple [.int (k:Nat) a,x] >>= _) _ _ ⟨c,g,d,a+1,f⟩;refine aa (ic ?_);have B:hV (c.push { cls:=.type "tuple",data:=.seq #[.int (k:Nat) a,x] }) ea ia ((k:Int)+1) old:=af _ I;have q:c.objs.size=e.objs.size:=by rw[p.1,m.1,l.1]
 have K:ea<e.objs.size:=aI v;have U:(c.push { cls:=.type "tuple",data:=.seq #[.int (k:Nat) a,x] }).get? e.objs.size=KB { cls:=.type "tuple",data:=.seq #[.int (k:Nat) a,x] }:=by rw[<- q];exact aC _ rfl
 have V:∀b o,b≠ea->b≠ia->e.get? b=KB o->(c.push { cls:=.type "tuple",data:=.seq #[.int (k:Nat) a,x] }).get? b=KB o:=λb o i L z=>af _ (p.extBut b o i (m.extBut b o i (l.extBut b o L z)));have W:Sx (k+1) (c.push { cls:=.type "tuple",data:=.seq #[.int (k:Nat) a,x] }):=J.stab _ _ _ (J.but (J.but F m.extBut j) p.extBut j) λb _ o z=>af _ z;generalize c.push { cls:=.type "tuple",data:=.seq #[.int (k:Nat) a,x] } = h4 at B U V W;show am _ _ (cI (.ref ea) >>= _) _ _ ⟨h4,g,d,a+1,f⟩;rw[q];refine aa ?_;unfold cI;refine aa (bO B rfl (x:=(.none)) rfl (ah ?_));simp only[if_true];refine aa (c9 (aa (bO B rfl (x:=old) rfl (aa (bE B 'k' λC M r=>?_)))));have r:cS ea h4 C:=r;have M:hV C ea ia ((k:Int)+1) x:=M;show am _ _ (dW (.ref ea) (.ref e.objs.size) >>= _) _ _ ⟨C,g,d,a+1,f⟩;refine aa ?_;unfold dW;refine aa (bE M 'k' λN O t=>?_);have t:cS ea C N:=t;have O:IsEnumOut N ea ia ((k:Int)+1) x e.objs.size:=O;refine bE O 'k' λR S u=>?_;have u:cS ea N R:=u;have S:IsEnumOut R ea ia ((k:Int)+1) x e.objs.size:=S;refine aa (d7 (ah ⟨_,rfl,ah (Z x R _ a px S (J.but (J.but (J.but W r.extBut j) t.extBut j) u.extBut j) ?_ λb o i L z=>u.extBut b o i (t.extBut b o i (r.extBut b o i (V b o i L z))))⟩));exact u.extBut _ _ (dU K) (t.extBut _ _ (dU K) (r.extBut _ _ (dU K) U))
def Yv(d:A.handled=KF)(J:oD P w ia fp n Pv Sx)(a:hV s.heap ea ia (k:Nat) old)(f:Sx k s.heap)(g:n<=k)(h:∀h',jj ia s.heap h'->Q KF { s with heap:=h' }):am (av P w) A (pyNext (.ref ea)) Q E s:=by have c:s.TypeIs (.ref ea) "enumerate":=⟨_,a,rfl⟩;unfold pyNext;refine aa (fJ (cb (name := "__next__") c fF (bL fF c kH ?_ (kh _))));show am _ _ (field (.ref ea) 2 >>= _) _ _ _;refine aa (bO a rfl (x:=.ref ia) rfl (aa (J.done _ k _ _ _ d g f λh' e i j=>?_)));obtain⟨l,m,o⟩:=j;exact aa (iC (T := "StopIteration") (b:=KM) ⟨l,m,o⟩ kY (ah (h _ i)))
end
end DL
namespace DL
open PySem L2
def UK(J:It):It:=⟨J.go,λi H v H'=>∃p x,H p=KF/\v=.ref p/\J.yld i H x H/\H'=upd H p (.tup [.int (i:Nat),x]),J.stop⟩
def Vh(ea ia:ae)(S:Nat->aX->Prop)(n:Nat)(h:aX):Prop:=(∃old,hV h ea ia (n:Nat) old)/\S n h
def zdw(i j:ae)(ap:i≠j)(N:AM P w K J j S)(E6:∀(A:ba)(n:Nat)(s:ag)(Q E:ab->ag->Prop),(∃o,hV s.heap i j (n:Nat) o)->Q (.ref i) s->am (av P w) A (pyIter (.ref i)) Q E s):wK P w K (.Tuple es kt pt) (UK J) [i,j] i (Vh i j S):=by
 refine⟨by simp,λn h t b r=>?_,λn h W t k=>?_,?_,?_,λA n s Q E t q=>E6 A n s Q E t.1 q⟩
 ·obtain⟨⟨o,z⟩,B⟩:=t;simp only[aq,aZ,or_false] at r;rcases r with rfl|rfl
  ·exact⟨_,z,λv e=>by cases e⟩
  ·exact N.obj n h B
 ·obtain⟨⟨o,z⟩,B⟩:=t;exact⟨⟨o,k i 'k' _ z⟩,N.keep n h W B (k j 'k')⟩
 ·intro X G L M d n f s O H E I C t y;have y:J.go n H:=y;obtain⟨⟨o,z⟩,B⟩:=t;obtain⟨fp,m,Pv,T,Z,Y,u1,C7,qw,y1,U⟩:=N.got X G L M n f s O H I (C j 'k') B (.inl y);subst G L M;have ne:∀b∈j::fp,b≠i:=λb r=>(aq.mp r).elim (λe=>by rw[e];exact bB ap) λr=>(U b r).far I (C i 'k');refine wT I (zhu Z z Y (C7 y) ne λx W tk Tc px q1 q2 q3 hk qp=>⟨_,rfl,?_⟩);obtain⟨V,rx,yx⟩:=y1 x px;refine wpAny_letOwnedTupleGo_enum q1 λD e1 e2=>?_;have nb:∀q∈[i,j],s.heap.objs.size≠q:=λq hq e=>by
   have:∃a,s.heap.get? q=KB a:=by
    simp only[aq,aZ,or_false] at hq;rcases hq with rfl|rfl
    ·exact⟨_,z⟩
    ·obtain⟨a,g,_⟩:=N.obj n _ B;exact⟨_,g⟩
   obtain⟨a,g⟩:=this;exact absurd (aI g) (by rw[e];exact bN _)
  have l:∀c a,c∉[i,j]->s.heap.get? c=KB a->D.get? c=KB a:=λc a d e=>by
   simp only[aq,aZ,or_false,not_or] at d;exact e2.extBut _ _ d.1 (hk c a d.1 d.2 e)
  have I1:L2.Inv X f O H { s with heap:=D,toks:=tk }:=Inv.turns [i,j] I l C;have xI:D.get? s.heap.objs.size=KB { cls:=.type "tuple",data:=.seq #[.int (n:Nat) Tc,x] }:=e2.extBut _ _ (nb i 'k') q3;have F:H s.heap.objs.size=KF:=I.hok.fresh (aF _);have I2:L2.Inv X f O (upd H s.heap.objs.size (.tup [.int (n:Nat),V])) { s with heap:=D,toks:=tk }:=by
   have un:Un (um X.stack) [i,j] H (upd H s.heap.objs.size (.tup [.int (n:Nat),V])) s.heap D:=by
    refine⟨λc a e _ _ d=>l c a d e,λc a e _ _ d=>⟨a.slots,l c a d e⟩,λc a e hn _=>?_,λc a e d=>⟨a,l c a d e⟩,λc zs e=>?_,λc a u e=>?_,λc ps e=>⟨#[],?_⟩⟩
    ·rw[pI (bh (aI e))];exact hn
    ·rw[pI (rm e F)];exact e
    ·rw[pI (rm e F)];exact e
    ·rw[pI (rm e F),e];simp
   have hok:HOk X.prog X.w (upd H s.heap.objs.size (.tup [.int (n:Nat),V])) D:=by
    intro c u' e;by_cases d:c=s.heap.objs.size
    ·subst d;rw[qP] at e;cases e;exact⟨by show 2<=qN;decide,[.int (n:Nat) Tc,x],.cons ⟨_,rfl⟩ (.cons rx .nil),⟨_,xI,rfl,⟨_,rfl⟩,rfl⟩⟩
    ·rw[pI d] at e;refine(I1.hok c u' e).stay (λ_ _ _ q=>q) (λp q=>?_) λp zs q=>?_
     ·by_cases R:p=s.heap.objs.size
      ·subst R;rw[F] at q;cases q
      ·rw[pI R];exact q
     ·by_cases R:p=s.heap.objs.size
      ·subst R;rw[F] at q;cases q
      ·rw[pI R];exact q
   exact I.call (t':=tk) (d':=s.drawn) un hok I.bare λb r=>let ⟨_,U,_,f3,f4,f5⟩:=C b r;⟨f3,U,f4,f5⟩
  refine⟨.ref s.heap.objs.size,_,I2,rfl,⟨_,V,F,rfl,yx,rfl⟩,⟨⟨_,by exact_mod_cast e1⟩,?_⟩,λb r=>?_⟩
  ·exact u1 _ _ (Z.but q2 e2.extBut ne)
  ·rw[pI (bB (nb b r))];exact(C b r).1
 ·intro X G L M d n f s O H E I C t y;have y:J.stop n H:=y;obtain⟨⟨o,z⟩,B⟩:=t;obtain⟨fp,m,Pv,T,Z,Y,u1,C7,qw,y1,U⟩:=N.got X G L M n f s O H I (C j 'k') B (.inr y);subst G L M;refine Yv (I.ok.hd d) Z z Y (qw y) λW eb=>⟨rfl,?_⟩;refine Inv.turns (t':=s.toks) [i,j] I (λc a d e=>?_) C;simp only[aq,aZ,or_false,not_or] at d;exact eb c a d.2 e
def vq(ds:List D):List D:=ds.zipIdx.map λq=>.tup [.int (q.2:Nat),q.1]
def Kw(ds:List D)(i:Nat):(vq ds)[i]?=(ds[i]?).map λd=>D.tup [.int (i:Nat),d]:=by unfold vq;rw[a8,List.getElem?_zipIdx];cases ds[i]?<;>simp
def oi.enum(l:oi K J (.val ds) H XV μ):oi K (UK J) (.val (vq ds)) H XV μ:=by
 intro a b e j m c i;have f:match ds[i]? with|some d=>J.go i b/\∀x g,J.yld i b x g->Ext b e g e/\n6 K g a e j/\Y2 K g a e d x|none=>J.stop i b:=l a b e j m c i
 show match (vq ds)[i]? with|some d=>_|none=>_
 rw[Kw];cases k:ds[i]? with
 |none=>rw[k] at f;exact f
 | some d1=>
  rw[k] at f;refine⟨f.1,λv g n=>?_⟩;obtain⟨p,x,h,rfl,o,rfl⟩:=n;exact⟨.laid h,c.laid h,Y2.newT c h (.cons sN (.cons (f.2 x b o).2.2 .nil))⟩
section
variable{s:ag}
def zeA:bA "enumerate" = KB (.type "enumerate"):=by boot_by_name
def RA(a d:ae)(A:ba)(n:Nat)(s:ag)(Q E:ab->ag->Prop)(h:∃b,hV s.heap a d (n:Nat) b)(q:Q (.ref a) s):am (av P w) A (pyIter (.ref a)) Q E s:=by obtain⟨b,h⟩:=h;have c:s.TypeIs (.ref a) "enumerate":=⟨_,h,rfl⟩;refine jI c kZ (bL kZ c F.entry_enumerate_iter ?_ (F.args_enumerate_iter_1 _));show am _ _ (ret (.ref a)) _ _ s;exact ah ⟨_,rfl, "enumerate",_,c,fF.lookup,q⟩
end
end DL
namespace DL
open PySem L2
open PyProof.Rows hiding St
section
variable{X:Cx}{Ex:Nat->Hp->Prop}{pos:Pos}{a c e:aT}{te:DE}{Y1:List (ae×Obj)}{c_:L2.St}{H:Hp}{s:ag}{XV μ:List ae}{O:Ow}
def zpK:Ow->D->D->R D:=λO x y=>match x,y with
 |.bl p,.bl q=>.ok (.bl (p==q)) O
 |_,_=>.bad
def zW:Ow->D->D->R D:=λO x y=>match x,y with
 |.bl p,.bl q=>.ok (.bl (!(p==q))) O
 |_,_=>.bad
def zfQ(p q:Bool):(jL p==jL q)=(p==q):=by cases p<;>cases q<;>decide
def P0:qm X (cm .IsNot) (λx y H Q=>∃p q,x=.bl p/\y=.bl q/\Q (.bl (!(p==q))) H):=by intro Y1 s g H x y v u Q I b d h;obtain⟨p,q,rfl,rfl,f⟩:=h;cases b;cases d;exact wpAny_isNot_plain (by rfl) ⟨.bl (!(p==q)),H,I,by rw[zfQ];rfl,f⟩
def QZ:rD X Ex (λx y H Q=>∃p q,x=.bl p/\y=.bl q/\Q (.bl (!(p==q))) H) zW:=by
 intro H XV μ O x y v w Q c b d q;unfold zW at q;split at q
 ·unfold Y2 at b d;subst b;subst d;exact⟨_,_,rfl,rfl,post.here q c tN⟩
 ·exact aj q
def zpn:Ow->D->D->R D:=λO x y=>match x,y with
 |.tup [],.tup ys=>.ok (.tup ys) O
 |x,y=>rX O x y
noncomputable def Np(K:ai):V->Option Int->Option Int->Hp->VK->Prop:=λx lo hi H Q=>∃a xs,x=.ref a/\qT K H a xs/\(HT.sIx xs.length 0 lo=0/\HT.sIx xs.length xs.length hi=xs.length)/\Q (.ref a) H
def z7b{P:aN}{w:aY}{A:ba}{E:ab->ag->Prop}{s:ag}{t sl:ae}{items:Array ab}{g i:ab}{lo d:Option Int}{Q:ab->ag->Prop}(b:IsTup s.heap t items)(j:s.heap.IsSliceOf sl g i .none)(pl:g9 g lo)(l:g9 i d)
  (k:HT.sIx items.size 0 lo=0/\HT.sIx items.size items.size d=items.size) (h:Q (.ref t) s):am (av P w) A (getItem (.ref t) (.ref sl)) Q E s:=by
 obtain⟨n,o,f,r⟩:=id j;have p:s.TypeIs (.ref sl) "slice":=⟨n,o,f⟩;unfold getItem
 try with_reducible refine bz ?_
 first|refine aa (ah ?_)|skip
 refine aa (wpAny_sequenceKey b.typeIs 'u' (aa (cb (name := "__getitem__") b.typeIs cL (bL cL b.typeIs lL ?_ (lW _ _)))));show am _ _ (jw (.ref t) >>= _) _ _ s;refine aa (tupleItemsOf_ b (aa (iS p ?_)));rw[qb 'u'];refine aa (HT.sliceApplied_gen j pl l ?_);have q:(((HT.sIx items.size 0 lo:Nat):Int)==0&&(1:Int)==1&&(HT.sIx items.size items.size d-HT.sIx items.size 0 lo)==items.size)=KM:=by
  rw[k.1,k.2];simp
 show am _ _ (if (((HT.sIx items.size 0 lo:Nat):Int)==0&&(1:Int)==1&&(HT.sIx items.size items.size d-HT.sIx items.size 0 lo)==items.size)=KM then _ else _) _ _ s;rw[qb q];refine aa (m:=jz (.ref t)) ?_;unfold jz;refine aa (iS b.typeIs (ah ?_));rw[qb 'u'];exact aa (c9 (ah ⟨_,rfl,ah h⟩))
def zgE:vK X (Np X.K):=by
 intro Y1 s o H x v t u w y z Q I f g i j h;obtain⟨p,k,rfl,l,m,q⟩:=h;cases f;obtain⟨n,r,d,A⟩:=I.tuple l;have b:n.toArray.size=k.length:=by rw[aH];exact r.length.symm
 exact⟨"tuple",_,cL.lookup,d.typeIs,z7b d g i j (by rw[b];exact m) ⟨.ref p,H,I,rfl,q⟩⟩
def UQ(O:Ow)(x:D)(lo hi:Option Int):R D:=match x with
 |.tup ds=>if HT.sIx ds.length 0 lo=0/\HT.sIx ds.length ds.length hi=ds.length then .ok (.tup ds) O else .ok (.tup (xX ds lo hi)) O
 |x=>MC O x lo hi
def zI(te:DE)(tl th:DO):DE:=λσ O=>(te σ O).bnd λx O1=>(tl σ O1).bnd λlo O2=>(th σ O2).bnd λhi O3=>UQ O3 x lo hi
def WW{lo w:Option aT}{D E:DO}{I:Pos}(J:PD X Ex e te)(L:zC X Ex lo D)(M:zC X Ex w E):PD X Ex (.Subscript e (.Slice lo w KF I) pos) (zI te D E):=
 q9 (Qp (r:=λx lo w H Q=>Np X.K x lo w H Q\/M4 X.K x lo w H Q) (vK.or zgE (vK.or Og (vK.or Oo P6))) J.out L.out M.out) λXV μ σ O c_ H Q N P q=>rd.go N P q λd O1 v H1 g_ R x S r p=>Bk.go R S p λl O2 H2 pF T U V W=>Bk.go T V W λu j z A e4 Y h y=>by
  have m:=(r.ext U).ext Y;cases d with
  | tup b=>
   have Z:=m;unfold Y2 at m;obtain⟨o,t,rfl,F,n⟩:=m;have f:qy Ex X.K z XV A (if HT.sIx b.length 0 l=0/\HT.sIx b.length b.length u=b.length then .ok (.tup b) j else .ok (.tup (xX b l u)) j) Q:=y;split at f
   ·rename_i B;exact .inl ⟨o,t,rfl,F.sq,by rw[<- n.length];exact B,post.here f h Z⟩
   ·rename_i B;exact .inr (.inr (.inl ⟨o,t,rfl,F.sq,by rw[<- n.length];exact B,λG g=>post.ok f (.laid g) (h.laid g) (Y2.newT h g (DY n l u))⟩))
  | str i=>
   unfold Y2 at m;subst m;have f:qy Ex X.K z XV A (if i.length<=4000000 then .ok (.str (nM ⟨i.toArray⟩ l u).cps.toList) j else .bad) Q:=y;obtain⟨Ic,f⟩:=post.ite f;refine .inr (.inl ⟨_,rfl,?_,post.here f h ?_⟩)
   ·show i.toArray.size<=_;rw[aH];exact xv Ic
   ·unfold Y2;rw[JQ]
  | lst b=>
   have f:qy Ex X.K z XV A (.ok (.lst (xX b l u)) j) Q:=y;obtain⟨o,t,rfl,C,n⟩:=uX h m (show rJ j (.lst b)=KB b from rfl);exact .inr (.inr (.inr ⟨o,t,rfl,C,λG g=>post.ok f (.laid g) (h.laid g) (Y2.newL h g (DY n l u))⟩))
  | own k=>
   have f:qy Ex X.K z XV A (match j[k]? with|some b=>.ok (.lst (xX b l u)) j|none=>.bad) Q:=y;split at f
   ·rename_i b MI;obtain⟨o,t,rfl,C,n⟩:=uX h m (show rJ j (.own k)=KB b from MI);exact .inr (.inr (.inr ⟨o,t,rfl,C,λG g=>post.ok f (.laid g) (h.laid g) (Y2.newL h g (DY n l u))⟩))
   ·exact aj f
  |_=>exact aj y
end
end DL
namespace DL
open PySem L2
section
variable{X:Cx}{Ex:Nat->Hp->Prop}
noncomputable def BY:Ow->D->D->R D:=λO x y=>match x,y with
 |.int i,.int j=>.ok (.bl (decide (i<j))) O
 |.str p,.str q=>.ok (.bl (decide (p<q))) O
 |_,_=>.bad
def WR:qm X (cm .Lt) (λx y H Q=>(∃i j,x=.str i/\y=.str j/\Q (.bl (decide (i.cps.toList<j.cps.toList))) H)\/vF (λi j=>.bl (decide (i<j))) x y H Q):=qm.or ze3 Jd
def Yh:rD X Ex (λx y H Q=>(∃i j,x=.str i/\y=.str j/\Q (.bl (decide (i.cps.toList<j.cps.toList))) H)\/vF (λi j=>.bl (decide (i<j))) x y H Q) BY:=by
 intro H a e O x y v w Q c b d q;unfold BY at q;split at q
 ·rename_i i j;exact .inr (Jw H a e O (.int i) (.int j) v w Q c b d q)
 ·unfold Y2 at b d;subst b;subst d;exact .inl ⟨_,_,rfl,rfl,post.here q c tN⟩
 ·exact aj q
end
section
variable{X:Cx}{Ex:Nat->Hp->Prop}{pos:Pos}{c_:St}{H:Hp}{XV μ:List ae}{O:Ow}
structure IU(mg:Str->Option ab)(x:Str)(i:Int):Prop where
 ex:∃t,mg x=KB (.int i t)
def Zg(h:IU X.mg x i)(a:Gl X x:=by rfl)(b:(x==("__debug__":Str))=K7:=by decide):PD X Ex (.Name x pos) (dC (.int i)):=by obtain⟨t,h⟩:=h.ex;exact q9 (GA (v:=.int i) a h ⟨_,rfl⟩ b) λXV μ d O c_ H Q e c q=>post.here q c sN
end
section
variable{X:Cx}{Ex:Nat->Hp->Prop}{pos:Pos}{tg e:aT}{te:DE}
def Df(g:Tg)(te:DE):DS:=λσ O=>(te σ O).bnS λd O1=>match g.put d σ with
 |some σ'=>.nx σ' O1
 |none=>.bad
def X7(b:PD X Ex e te)(f:PG X tg (g.rd X.K))(h:gJ [tg] e pos.line X.env=pure K7:=by rfl)(i:gK [tg] e X.env=pure KF:=by rfl)(j:(gE [tg] X.env).map (·.2)=[assign tg X.env]:=by rfl):rK X Ex (.Assign [tg] e pos) (Df g te):=
 xl (OD b.out f h i j) λk y l O E z H m n q=>rd.goS m n q λd A v o s t x c r p=>by
  cases a:g.put d l with
  |none=>rw[a] at p;exact aj p
  | some σ'=>
   rw[a] at p;exact g.ok2 t r a λu w _=>p u o s .refl w c
end
end DL
namespace DL
open PySem L2 PySem.Spec PyProof.Rows
end DL
namespace DL
open PySem L2 PySem.Spec PyProof.Rows
open Sem (wp)
end DL
namespace DL
open PySem L2 PySem.Spec PyProof.Rows
end DL
namespace DL
open PySem L2
open AutoSeq1 (wpAny_loadPart')
section
variable{X:Cx}{Ex:Nat->Hp->Prop}{b e o:aT}{to:DE}
def zel(l:ae)(xs:Array ab)(n:Nat)(b:ae)(a:Array ab)(m:Nat)(sl:Array (Option ab))(i:¬(!xs.isEmpty&&f9 (xs.size+a.size))=KM)(j:xs.size<=qN)(k:xs.size+a.size<=qN+1):
  Meets (dH.«list.extend» ⟨[.ref l,.ref b],[]⟩) (λ_ R s=>s.heap.get? l=KB { cls:=.type "list",data:=.seq xs n }/\s.heap.get? b=KB { cls:=.type "list",data:=.seq a m,slots:=sl }/\R (.ok (.ret .none)) { s with heap:=s.heap.update l (br λx=>x++a) }):=
 .of_wp λc w A R s h=>by
  obtain⟨q,g,d,r,t⟩:=s;obtain⟨f,p,h⟩:=h;have u:=jX;have v:=AutoSeq1.sub_list_list;have y:=AutoSeq1.sub_tuple_list;have z:=AutoSeq1.sub_list_tuple;have hz:(xs++a).size<=qN+1:=by rw[gk];exact k
  wp_walk using(eo f rfl (hz:=j) (_hz':=hz)),wpAny_loadPart' f,wpAny_loadPart' p
  exact⟨_,rfl,h⟩
def U5(K:ai):V->List V->Hp->VK->Prop:=λx vs H Q=>∃l b xs zs,x=.ref l/\vs=[.ref b]/\H l=KB (.lst xs)/\qz K H b zs/\xs.length+zs.length<=qN/\Q .non (upd H l (.lst (xs++zs)))
def WC:UH X "list.extend" (U5 X.K):=by
 intro k s M H x N v O Q I w y h;obtain⟨l,b,P,R,rfl,rfl,m,A,S,q⟩:=h;cases w;obtain⟨u,rfl,B⟩:=y.one;cases B;obtain⟨z,c,n,r,T,e⟩:=I.lstM m;obtain⟨d,p,⟨C,t,D,f,a,g⟩,_⟩:=I.list A;obtain⟨E,i,G,J⟩:=C;have f:E=.type "list":=f;have a:i=KF:=a;have g:G=.seq d.toArray t:=g;subst f;subst a;subst g;have U:=p.length;have j:c.toArray.size+d.toArray.size<=qN:=by rw[aH,aH];lia
 have L:¬ (!c.toArray.isEmpty&&f9 (c.toArray.size+d.toArray.size))=KM:=by
  rw[zg9 j,nD];exact cf
 refine call_meets k7 ⟨_,e,rfl⟩ F.entry_list_extend (F.args_list_extend_2 _ _)
  (zel l c.toArray n b d.toArray t J L (by rw[aH];lia) 'd') ⟨e,D,?_⟩
 refine⟨.non,_,I.lset (its':=c++d) m e 'k' (r.append p) ?_,rfl,q⟩;rw[aE];lia
def AI(to:DE)(t:DA):DE:=λσ O=>(to σ O).bnd λx O1=>match x with
 | .own k=>(t σ O1).bnd λys O2=>match ys,O2[k]? with
  | [y],KB ds=>match rJ O2 y with
   |some es=>if ds.length+es.length<=4000000 then .ok .non (O2.set k (ds++es)) else .bad
   |none=>.bad
  |_,_=>.bad
 |_=>.bad
def zf3(m:PD X Ex o to)(n:tJ X Ex (e::es) t)(s:attributeBase o "extend" X.env (eval o X.env)=eval o X.env:=by rfl)
  (u:((backTo pK (aV (e::es) X.env)).all (λx=>!x.1)&&(backToKw pK (keywordEach [] X.env)).all (λx=>x.1.isSome)&&decide ((e::es).length+([]:List fY).length+(if ([]:List fY).isEmpty then 0 else 1)<30))=KM:=by rfl)
  (z:(apos.endLine==pK.line)=KM:=by rfl) (B:aV (e::es) X.env=(K7,eval e X.env)::aV es X.env:=by rfl) (C:(backTo pK (aV es X.env)).any (·.1)=K7:=by rfl):
  PD X Ex (.Call (.Attribute o "extend" apos) (e::es) [] pK) (AI to t):=
 q9 (Gj kg k7 PySem.F.type_list_extend WC m.out n.out s u z B C) λD μ σ O c_ H Q E G q=>rd.go E G q λd O1 v H1 g_ I x g r p=>by
  cases d with
  | own k=>
   have J:=r;unfold Y2 at r;obtain⟨A,rfl,K⟩:=r;obtain⟨ds,L,h1,M,h3⟩:=g.at_ k A K;refine⟨.inl ⟨rfl,L,.of M⟩,uh.go I g p λys O2 ws H2 N e3 P c R a=>?_⟩;split at a
   ·rename_i y S T;split at a
    ·rename_i zs U;obtain⟨V,a⟩:=post.ite a;obtain⟨w,rfl,W⟩:=uf R;have f:N[k]?=KB A:=by
      have:=J.ext P;unfold Y2 at this;obtain⟨A',Y,Z⟩:=this;cases Y;exact Z
     obtain⟨FP,Bd,h,i,j⟩:=c.at_ k A f;rw[T] at h;cases h;obtain⟨pb,vz,rfl,sq,l⟩:=uX c W U;refine⟨A,pb,Bd,vz,rfl,rfl,i,sq,aM (by rw[<- j.length,<- l.length];exact V) 'u',?_⟩;exact post.ok a (.put (aL f) ⟨_,i⟩) (c.put f (j.append l)) GK
    ·exact aj a
   ·exact aj a
  |_=>exact aj p
end
set_option maxHeartbeats 1000000 in
def ze1(q:ZK)(b:ab)(i:q.val=b):
  Meets (dH.«enumerate.__new__» ⟨[.type "enumerate",b],[]⟩) (λ_ R s=>q.pre s.heap/\
   R (.ok (.ret (.ref (s.heap.push q.obj).objs.size))) { s with heap:=(s.heap.push q.obj).push { cls:=.type "enumerate",data:=.fields #[.none,.bool K7,.ref s.heap.objs.size,bR 0,.none,.none] } }):=
 .of_wp λP w A R s h=>by
  obtain⟨a,g,d,c,e⟩:=s;obtain⟨j,h⟩:=h;have l:=sub_enumerate;have f:∀{A:ba}{E:ab->ag->Prop}{Q:ab->ag->Prop},Q (.ref a.objs.size) ⟨a.push q.obj,g,d,c,e⟩->am (av P w) A (pyIter b) Q E ⟨a,g,d,c,e⟩:=λ{A E Q}hq=>by rw[<- i];exact q.iter (s:=⟨a,g,d,c,e⟩) j hq
  wp_walk
  refine wpAny_stack_any λm=>ah (?_);split
  ·rename_i k _ _ _ _ _;cases (k==fo "enumerate")
   ·wp_walk using f
    exact⟨_,rfl,h⟩
   ·wp_walk using f
    exact⟨_,rfl,h⟩
  ·wp_walk using f
   exact⟨_,rfl,h⟩
section
variable{P:aN}{w:aY}{A:ba}{E:ab->ag->Prop}{s:ag}
def zcv(q:ZK)(e:q.pre s.heap)
  (h:∀h',hV h' (s.heap.objs.size+1) s.heap.objs.size 0 .none->h'.get? s.heap.objs.size=KB q.obj->(∀b o,s.heap.get? b=KB o->h'.get? b=KB o)->Q (.ref (s.heap.objs.size+1)) { s with heap:=h' }):
  am (av P w) A (call (.type "enumerate") [q.val]) Q E s:=by
 refine callType_new F.called_enumerate 'u' (F.typeCall_enumerate_1 _) (F.newCall_enumerate_1 _) (λa=>F.args_object_init_2 a _) F.entry_enumerate_new (ze1 q _ rfl) ⟨e,?_⟩;have f:q.obj.isFreed=K7:=by cases q<;>rfl
 have c:(s.heap.push q.obj).objs.size=s.heap.objs.size+1:=cu ..;show _/\_;rw[c];have d:hV ((s.heap.push q.obj).push { cls:=.type "enumerate",data:=.fields #[.none,.bool K7,.ref s.heap.objs.size,bR 0,.none,.none] }) (s.heap.objs.size+1) s.heap.objs.size 0 .none:=by
  have q:=aC (s.heap.push q.obj) (o:={ cls:=.type "enumerate",data:=.fields #[.none,.bool K7,.ref s.heap.objs.size,bR 0,.none,.none] }) rfl;rw[c] at q;exact q
 exact⟨⟨_,d,rfl⟩,h _ d (af _ (aC _ f)) λb o x=>af _ (af _ x)⟩
end
def DG(t:DA):DI:=λσ O=>(t σ O).bnd λxs O1=>match xs with
 | [x]=>match vk x with
  |some (.val ds)=>.ok (.val (vq ds)) O1
  |_=>.bad
 |_=>.bad
section
variable{X:Cx}{Ex:Nat->Hp->Prop}{pos:Pos}{a b:aT}{Y1:List (ae×Obj)}{c_:St}{H:Hp}{s:ag}{XV μ:List ae}{O:Ow}
def zeJ(o:Gl X "enumerate")(r:X.mg "enumerate" = KF)(u:tJ X Ex [a] t)(w:aV [a] X.env=[(K7,eval a X.env)]:=by rfl):
  sC X Ex (.Tuple es' kt pt) (.Call (.Name "enumerate" p) [a] [] pos) (DG t):=by
 refine⟨?_⟩;rintro Y1 s c_ H y I ⟨XV,μ,W,O,z,A,q⟩;refine lj (AY I o r zeA (fy (pG (u.out pos Y1 s c_ H _ I (uh.go z A q (Q1:=λk e=>∃XV g h f,n6 X.K e XV g h/\n8 X.K e XV g f k/\
   post Ex X.K (λH' B s J=>oi X.K J s H' XV B) e XV g (match f with|[x]=>(match vk x with|some (.val f)=>.ok (.val (vq f)) h|_=>.bad)|_=>.bad) y)
  λf h k e g Y x i d p=>⟨XV,g,h,f,i,d,p⟩)) λZ c ⟨k,e,j,C,XV,g,h,f,i,d,p⟩=>?_) (by rw[w];rfl) (by rfl)))
 split at p
 ·rename_i x;split at p
  ·rename_i ts D;obtain⟨v,rfl,E⟩:=uf d;obtain⟨u1,rfl,F⟩:=uI C;obtain⟨G,J1,L,M,N,P⟩:=I8 j i E F D;rw[<- L];refine zcv G M λQ l R S=>?_;refine RA (c.heap.objs.size+1) c.heap.objs.size _ 0 _ _ _ ⟨_,l⟩ ?_;have T:L2.Inv X Y1 c_ e { c with heap:=Q,toks:=c.toks }:=j.kept S;obtain⟨S1,U,V⟩:=P c.heap.objs.size;refine⟨c.heap.objs.size+1,[c.heap.objs.size+1,c.heap.objs.size],_,_,e,rfl,T,zdw _ _ (Nat.succ_ne_self _) U (RA _ _),⟨⟨_,l⟩,V _ R⟩,λb m=>?_,post.here p i (.enum N)⟩;have n:c.heap.objs.size<=b:=by
    simp only[aq,aZ,or_false] at m;rcases m with rfl|rfl<;>lia
   exact j.fpOk (H':=e) n (j.hok.fresh n)
  ·exact aj p
 ·exact aj p
end
end DL
namespace TS
open PySem PyProof.Rows
abbrev G1:=Bool->bd->Array bd->Nat->Nat->Nat->StateT cg Sem (Option Nat)
abbrev M1:=Array bd->Array bd->StateT cg Sem (Array bd)
def lay(xs:Array bd)(at_:Nat)(m:List bd):Array bd:=m.zipIdx.foldl (λa x=>a.setIfInBounds (at_+x.2) x.1) xs
structure oJ where
 g:G1
 lo:M1
 hi:M1
 at_:∀{M:iP}{A:ba}{E:ab->ag->Prop}{s:ag}{i:Nat}{st:cg}{Q:Bool->cg->Prop}{sa na pw sb nb HP:Nat}{kb:bd},
  (qx st)[i]?=KB (sa,na,pw)->(qx st)[i+1]?=KB (sb,nb,HP)->(qt st)[sb]?=KB kb->
  wpS M A E s (g K7 kb (qt st) sa na 0) (λr qw=>∃k,r=KB k/\(na-k=0->Q KM qw)/\(na-k≠0->∃ka,(qt st)[sa+k+(na-k)-1]?=KB ka/\
   wpS M A E s (g KM ka (qt st) sb nb (nb-1)) (λr2 p9=>∃m,r2=KB m/\(m=0->Q KM p9)/\(m≠0->
    wpS M A E s (if na-k<=m then lo ((qt st).extract (sa+k) sb) ((qt st).extract sb (sb+m)) else hi ((qt st).extract (sa+k) sb) ((qt st).extract sb (sb+m)))
     (λmg pN=>Q (failedOf pN).isNone (setArr pN (lay (qt pN) (sa+k) mg.toList))) p9)) qw)) (setPending st (((qx st).setIfInBounds i (sa,na+nb,pw)).eraseIdxIfInBounds (i+1)))->
  wpS M A E s (mergeAt' i) Q st
def sD{M:iP}{A:ba}{E:ab->ag->Prop}{s:ag}{st:cg}{a:Array bd}{i:Nat}{x:bd}{Q:bd->cg->Prop}(h:a[i]?=KB x)(q:Q x st):wpS M A E s (elem' a i) Q st:=by rw[elem'_eq,h];exact aK q
def Zt{M:iP}{A:ba}{E:ab->ag->Prop}{s:ag}{σ:Type}{st a:σ}{Q:PUnit->σ->Prop}(q:Q ⟨⟩ a):wpS M A E s (set a) Q st:=fV (f:=λ_=>a) q
noncomputable def oM:oJ:=by
 apply oJ.mk
 case at_=>
  intro M A E s i st Q sa na pw sb nb HP kb h1 h2 h3 h;show wpS M A E s (get >>= _) Q st;refine aD (gR ?_);rw[show(qx st)[i]?=_ from h1,show(qx st)[i+1]?=_ from h2];refine aD (Zt (aD (sD h3 (aD (dN h ?_)))));rintro _ qw ⟨k,rfl,e0,e1⟩;by_cases hk:na-k=0
  ·show wpS M A E s (if (na-k==0)=KM then _ else _) Q qw;rw[qb (by rw[hk];rfl)];exact aK (e0 hk)
  ·show wpS M A E s (if (na-k==0)=KM then _ else _) Q qw;rw[qq (by simpa using hk)];obtain⟨ka,q1,q2⟩:=e1 hk;refine aD (sD q1 (aD (dN q2 ?_)));rintro _ p9 ⟨m,rfl,f0,f1⟩;by_cases hm:m=0
   ·subst hm;exact aK (f0 rfl)
   ·show wpS M A E s (if (m==0)=KM then _ else _) Q p9;rw[qq (by simpa using hm)];have f2:=f1 hm;by_cases hc:na-k<=m
    ·rw[qb hc] at f2;show wpS M A E s (if na-k<=m then _ else _) Q p9;rw[qb hc];exact aD (dN f2 λmg pN q=>aD (fV (aD (gR (aK q)))))
    ·rw[qq hc] at f2;show wpS M A E s (if na-k<=m then _ else _) Q p9;rw[qq hc];exact aD (dN f2 λmg pN q=>aD (fV (aD (gR (aK q)))))
section
variable{prog:aN}{w:aY}{A:ba}{E:ab->ag->Prop}{s:ag}{κ:a7}{st:cg}{kd:KT}
def ky(κ:a7)(x:bd):κ.α:=(κ.keyOf x.1).getD κ.dflt
def sT(κ:a7)(x:bd):Prop:=∃a,κ.keyOf x.1=KB a
abbrev Ty{α β:Type}(_:α->β):Type:=β
abbrev KT:Type:=Ty kindOf
def vd(prog:aN)(w:aY)(A:ba)(s:ag)(κ:a7)(kd:KT):Prop:=∀(x y:bd)(E':ab->ag->Prop){Q:Bool->ag->Prop},sT κ x->sT κ y->Q (κ.blt (ky κ x) (ky κ y)) s->am (av prog w) A (keyLt' kd x.1 y.1) Q E' s
def vd.one(e:κ.OneLt):vd prog w A s κ oneType':=λx y f Q ⟨a,c⟩ ⟨b,d⟩ q=>by
 have g:ky κ x=a:=by unfold ky;rw[c];rfl
 have h:ky κ y=b:=by unfold ky;rw[d];rfl
 rw[g,h] at q;rw[keyLt'_oneType];exact e prog w A f s x.1 y.1 a b c d q
def DF(a:vd prog w A s κ kd)(b:kindOf st=kd)(c:sT κ x)(d:sT κ y)(q:Q (KB (κ.blt (ky κ x) (ky κ y))) st):wpS (av prog w) A E s (lt' x y) Q st:=by rw[lt'_eq];refine aD (gR (aD (je (fJ ?_))));rw[b];exact a x y _ c d ⟨rfl,aK q⟩
def tu(κ:a7)(left:Bool)(key x:bd):Bool:=if left=KM then κ.blt (ky κ x) (ky κ key) else !κ.blt (ky κ key) (ky κ x)
set_option hygiene false in
local macro_rules|`(tactic| walk_at "tail")=>`(tactic| (
 refine aD (dN (cT (I:=λk c Bg=>Bg=i_/\∃ lo hi,c=(none,lo,hi)/\lo<=hi/\hi<=n/\hi-lo<=n-k/\(∀ i,i<lo->b i=true)/\(∀ i,hi<=i->i<n->b i=false)) (Q:=λc Bg=>Bg=i_/\∃ m,c=(none,m,m)/\m<=n/\(∀ i,i<m->b i=true)/\(∀ i,m<=i->i<n->b i=false)) ?_ ?_ ?_) ?_)
 ·rintro k c p9 _ uO ⟨rfl,lo,hi,rfl,g1,g2,g3,g4,g5⟩
  show wpS _ _ _ _ (if lo ≥ hi then _ else _) _ p9
  by_cases hc:lo ≥ hi
  ·rw[if_pos hc]
   have:lo=hi:=by lia
   subst this
   exact aK ⟨rfl,lo,rfl,g2,g4,g5⟩
  ·rw[if_neg hc]
   refine aD (one (lo+(hi-lo)/2) (by lia) ?_)
   cases tj:b (lo+(hi-lo)/2) with
   | true=>exact aK ⟨rfl,lo+(hi-lo)/2+1,hi,rfl,by lia,g2,by lia,λi vJ=>mono i (lo+(hi-lo)/2) (by lia) (by lia) tj,g5⟩
   | false=>exact aK ⟨rfl,lo,lo+(hi-lo)/2,rfl,by lia,by lia,by lia,g4,λi vJ qZ=>down (lo+(hi-lo)/2) i vJ (by lia) qZ tj⟩
 ·rintro c p9 ⟨rfl,lo,hi,rfl,g1,g2,g3,g4,g5⟩
  rw[dZ] at g3
  have:lo=hi:=by lia
  subst this
  exact⟨rfl,lo,rfl,g2,g4,g5⟩
 ·exact⟨rfl,lo,hi,rfl,hl,hn,by lia,ht,hf⟩
 ·rintro c p9 ⟨rfl,m,rfl,g2,g4,g5⟩
  exact aK (q m g2 g4 g5)))
def ZG(ho:vd prog w A s κ kd){left:Bool}{key:bd}{arr:Array bd}{base n hint:Nat}{b:Nat->Bool}(hk:kindOf st=kd)(r9:sT κ key)(hb:∀i,i<n->∃x,arr[base+i]?=KB x/\sT κ x/\tu κ left key x=b i)(hh:hint<n)(mono:∀i j,i<=j->j<n->b j=KM->b i=KM)
  {Q:Option Nat->cg->Prop} (q:∀k,k<=n->(∀i,i<k->b i=KM)->(∀i,k<=i->i<n->b i=K7)->Q (KB k) st):wpS (av prog w) A E s ((oJ.g oM) left key arr base n hint) Q st:=by
 have one:∀i,i<n->∀{Q:Option Bool->cg->Prop},Q (KB (b i)) st->wpS (av prog w) A E s (elem' arr (base+i) >>= λx=>if left=KM then lt' x key else lt' key x >>= λr=>pure (r.map λx=>!x)) Q st:=λi hi Q hq=>by
  obtain⟨x,h1,h2,h3⟩:=hb i hi;refine aD (sD h1 ?_);unfold tu at h3;cases left with
  | true=>
   rw[qb rfl] at h3;rw[qb rfl];exact DF ho hk h2 r9 (by rw[h3];exact hq)
  | false=>
   rw[qq 'u'] at h3;rw[qq 'u'];exact aD (DF ho hk r9 h2 (aK (by show Q (KB (!κ.blt (ky κ key) (ky κ x))) st;rw[h3];exact hq)))
 have down:∀i j,i<=j->i<n->j<n->b i=K7->b j=K7:=λi j xM hi hj hf=>by
  cases e:b j with
  |false=>rfl
  |true=>rw[mono i j xM hj e] at hf;cases hf
 show wpS _ _ _ _ (_ >>= _) Q st;refine aD (one hint hh ?_);cases Uc:b hint with
 | true=>
  refine aD (dN (cT (I:=λk c i_=>i_=st/\∃l o,c=(KF,l,o)/\l<o/\k+1<=o/\hint+l<n/\b (hint+l)=KM) (Q:=λc i_=>i_=st/\∃l o,c=(KF,l,o)/\l<o/\hint+l<n/\b (hint+l)=KM/\(hint+o<n->b (hint+o)=K7)) ?_ ?_ ?_) ?_)
  ·rintro k c i_ _ uO ⟨rfl,l,o,rfl,h1,h2,h3,h4⟩;show wpS _ _ _ _ (if o ≥ n-hint then _ else _) _ i_;by_cases hc:o ≥ n-hint
   ·rw[qb hc];exact aK ⟨rfl,l,o,rfl,h1,h3,h4,λh=>by lia⟩
   ·rw[qq hc];refine aD (one (hint+o) 'd' ?_);cases FD:b (hint+o) with
    |true=>exact aK ⟨rfl,o,2*o+1,rfl,by lia,by lia,by lia,FD⟩
    |false=>exact aK ⟨rfl,l,o,rfl,h1,h3,h4,λ_=>FD⟩
  ·rintro c i_ ⟨rfl,l,o,rfl,h1,h2,h3,h4⟩;exact⟨rfl,l,o,rfl,h1,h3,h4,λh=>by rw[dZ] at h2;lia⟩
  ·exact⟨rfl,0,1,rfl,by lia,by lia,by lia,Uc⟩
  ·rintro c i_ ⟨rfl,l,o,rfl,h1,h3,h4,h5⟩;have hl:hint+l+1<=hint+min o (n-hint):=by lia
   have hn:hint+min o (n-hint)<=n:=by lia
   have ht:∀i,i<hint+l+1->b i=KM:=λi hi=>mono i (hint+l) 'd' h3 h4;have hf:∀i,hint+min o (n-hint)<=i->i<n->b i=K7:=λi hi qZ=>by
    have:hint+o<n:=by lia
    exact down (hint+o) i 'd' this qZ (h5 this)
   show wpS _ _ _ _ (forIn [:n] (KF,hint+l+1,hint+min o (n-hint)) _ >>= _) Q i_;generalize hint+l+1=lo at *;generalize hint+min o (n-hint)=hi at *;walk_at "tail"
 | false=>
  refine aD (dN (cT (I:=λk c i_=>i_=st/\∃l o,c=(KF,l,o)/\l<o/\k+1<=o/\l<=hint/\b (hint-l)=K7) (Q:=λc i_=>i_=st/\∃l o,c=(KF,l,o)/\l<o/\l<=hint/\b (hint-l)=K7/\(o<=hint->b (hint-o)=KM)) ?_ ?_ ?_) ?_)
  ·rintro k c i_ _ uO ⟨rfl,l,o,rfl,h1,h2,h3,h4⟩;show wpS _ _ _ _ (if o ≥ hint+1 then _ else _) _ i_;by_cases hc:o ≥ hint+1
   ·rw[qb hc];exact aK ⟨rfl,l,o,rfl,h1,h3,h4,λh=>by lia⟩
   ·rw[qq hc];refine aD (one (hint-o) 'd' ?_);cases FD:b (hint-o) with
    |true=>exact aK ⟨rfl,l,o,rfl,h1,h3,h4,λ_=>FD⟩
    |false=>exact aK ⟨rfl,o,2*o+1,rfl,by lia,by lia,by lia,FD⟩
  ·rintro c i_ ⟨rfl,l,o,rfl,h1,h2,h3,h4⟩;exact⟨rfl,l,o,rfl,h1,h3,h4,λh=>by rw[dZ] at h2;lia⟩
  ·exact⟨rfl,0,1,rfl,by lia,by lia,by lia,Uc⟩
  ·rintro c i_ ⟨rfl,l,o,rfl,h1,h3,h4,h5⟩;have hl:hint+1-min o (hint+1)<=hint-l:=by lia
   have hn:hint-l<=n:=by lia
   have ht:∀i,i<hint+1-min o (hint+1)->b i=KM:=λi hi=>by
    have:o<=hint:=by lia
    exact mono i (hint-o) 'd' 'd' (h5 this)
   have hf:∀i,hint-l<=i->i<n->b i=K7:=λi hi qZ=>down (hint-l) i hi 'd' qZ h4;show wpS _ _ _ _ (forIn [:n] (KF,hint+1-min o (hint+1),hint-l) _ >>= _) Q i_;generalize hint+1-min o (hint+1)=lo at *;generalize hint-l=hi at *;walk_at "tail"
end
section
variable{κ:a7}
def Le(κ:a7)(x y:bd):Prop:=κ.blt (ky κ y) (ky κ x)=K7
def Le.refl(x:bd):Le κ x x:=κ.irrefl _
def Le.trans(a:Le κ x y)(b:Le κ y z):Le κ x z:=by
 unfold Le at *;cases e:κ.blt (ky κ z) (ky κ x) with
 |false=>rfl
 | true=>
  rcases κ.negTrans _ (ky κ y) _ e with h|h
  ·rw[b] at h;cases h
  ·rw[a] at h;cases h
def Le.of(h:κ.blt (ky κ x) (ky κ y)=KM):Le κ x y:=by
 unfold Le;cases e:κ.blt (ky κ y) (ky κ x) with
 |false=>rfl
 | true=>
  have:=κ.trans _ _ _ h e;rw[κ.irrefl] at this;cases this
def qi(κ:a7)(l:List bd):Prop:=l.Pairwise (Le κ)
structure Out(κ:a7)(a b r:List bd):Prop where
 perm:r.Perm (a++b)
 srt:qi κ r
structure Mg(κ:a7)(a b o:List bd)(i j:Nat):Prop where
 perm:o.Perm (a.take i++b.take j)
 srt:qi κ o
 la:∀x∈o,∀y∈a.drop i,Le κ x y
 lb:∀x∈o,∀y∈b.drop j,Le κ x y
variable{a b o:List bd}{i j:Nat}
def Mg.len(h:Mg κ a b o i j)(c:i<=a.length)(d:j<=b.length):o.length=i+j:=by rw[h.perm.length_eq,aE,cq,cq];lia
def Qu{α:Type}(l:List α)(i k:Nat){x:α}(h:x∈l.drop (i+k)):x∈l.drop i:=by rw[<- eF] at h;exact de h
def qi.take_drop(h:qi κ l)(k:Nat):∀x∈l.take k,∀y∈l.drop k,Le κ x y:=by unfold qi at h;rw[<- cw k l,bX] at h;exact h.2.2
def Mg.addA(h:Mg κ a b o i j)(f:qi κ a)(k:Nat)(d:∀y∈(a.drop i).take k,∀z∈b.drop j,Le κ y z):Mg κ a b (o++(a.drop i).take k) (i+k) j:=by
 have e:qi κ (a.drop i):=f.sublist (dj i a);refine⟨?_,?_,λx hx y c=>?_,λx hx y c=>?_⟩
 ·rw[nN];refine(h.perm.append_right _).trans ?_;rw[a9,a9];exact(cV).append_left _
 ·unfold qi;rw[bX];exact⟨h.srt,e.sublist (cK k _),λx hx y c=>h.la x hx y (cD c)⟩
 ·rcases aP.mp hx with hx|hx
  ·exact h.la x hx y (Qu a i k c)
  ·exact e.take_drop k x hx y (by rw[eF];exact c)
 ·rcases aP.mp hx with hx|hx
  ·exact h.lb x hx y c
  ·exact d x hx y c
def Mg.addB(h:Mg κ a b o i j)(f:qi κ b)(k:Nat)(d:∀y∈(b.drop j).take k,∀z∈a.drop i,Le κ y z):Mg κ a b (o++(b.drop j).take k) i (j+k):=by
 have e:qi κ (b.drop j):=f.sublist (dj j b);refine⟨?_,?_,λx hx y c=>?_,λx hx y c=>?_⟩
 ·rw[nN];refine(h.perm.append_right _).trans ?_;rw[a9]
 ·unfold qi;rw[bX];exact⟨h.srt,e.sublist (cK k _),λx hx y c=>h.lb x hx y (cD c)⟩
 ·rcases aP.mp hx with hx|hx
  ·exact h.la x hx y c
  ·exact d x hx y c
 ·rcases aP.mp hx with hx|hx
  ·exact h.lb x hx y (Qu b j k c)
  ·exact e.take_drop k x hx y (by rw[eF];exact c)
def Mg.fin(h:Mg κ a b o i j)(d:qi κ a)(e:qi κ b)(f:∀x∈a.drop i,∀y∈b.drop j,Le κ x y):Out κ a b (o++a.drop i++b.drop j):=by
 refine⟨?_,?_⟩
 ·refine((h.perm.append_right _).append_right _).trans ?_
  conv=>rhs;rw[<- cw i a,<- cw j b]
  simp only[a9];refine fG _ ?_;rw[<- a9,<- a9];exact cV.append_right _
 ·unfold qi;rw[bX,bX];refine⟨⟨h.srt,d.sublist (dj i a),h.la⟩,e.sublist (dj j b),λx g y c=>?_⟩;rcases aP.mp g with h'|h'
  ·exact h.lb x h' y c
  ·exact f x h' y c
def Mg.fin'(h:Mg κ a b o i j)(c:qi κ a)(d:qi κ b)(e:∀y∈b.drop j,∀x∈a.drop i,Le κ y x):Out κ a b (o++b.drop j++a.drop i):=by have f:Mg κ b a o j i:=⟨h.perm.trans cV,h.srt,h.lb,h.la⟩;have:=f.fin d c e;exact⟨this.perm.trans cV,this.srt⟩
def Ae{l:List bd}{i:Nat}{x:bd}(h:l[i]?=KB x):(l.drop i).take 1=[x]:=by obtain⟨c,rfl⟩:=ar.mp h;rw[dh c];rfl
def Cr(h:qi κ l)(e:l[i]?=KB x):∀y∈l.drop i,Le κ x y:=by
 obtain⟨c,rfl⟩:=ar.mp e;intro y hy;rw[dh c] at hy;have d:qi κ (l.drop i):=h.sublist (dj i l);rw[dh c] at d;rcases aq.mp hy with rfl|hy
 ·exact Le.refl _
 ·exact(bT.mp d).1 y hy
end
structure oj(st i_:cg):Prop where
 kind:kindOf i_=kindOf st
 arr:qt i_=qt st
 pend:qx i_=qx st
 failed:failedOf i_=failedOf st
def oj.refl(st:cg):oj st st:=⟨rfl,rfl,rfl,rfl⟩
def oj.trans{a b c:cg}(h:oj a b)(g:oj b c):oj a c:=⟨g.kind.trans h.kind,g.arr.trans h.arr,g.pend.trans h.pend,g.failed.trans h.failed⟩
section
variable{prog:aN}{w:aY}{A:ba}{E:ab->ag->Prop}{s:ag}{κ:a7}{st:cg}{kd:KT}
def v7{a:Array bd}{i:Nat}(h:i<a.size):∃x,a[i]?=KB x/\a.toList[i]?=KB x:=⟨a[i],by simp[h],by simp[h]⟩
def O9{M:iP}{f:cg->cg}{Q:PUnit->cg->Prop}(b:oj st (f st))(h:∀a,oj st a->Q ⟨⟩ a):wpS M A E s (modify f) Q st:=fV (h _ b)
def Gq(a:Array bd)(i:Nat):(a.extract i).toList=a.toList.drop i:=by simp only[lu,jP];exact cO 'k'
def Jl(a:Array bd)(i k:Nat):(a.extract i (i+k)).toList=(a.toList.drop i).take k:=by simp
def NW{a b:List bd}{c:Array bd}{d e:Nat}{x:bd}(m:Mg κ a b c.toList d e)(g:qi κ a)(f:a[d]?=KB x)(h:∀z∈b.drop e,Le κ x z):Mg κ a b (c.push x).toList (d+1) e:=by have:=m.addA g 1 (by rw[Ae f];intro y i;rw[dF.mp i];exact h);rw[Ae f] at this;rw[eU];exact this
def Nr{a b:List bd}{c:Array bd}{d e:Nat}{x:bd}(m:Mg κ a b c.toList d e)(g:qi κ b)(f:b[e]?=KB x)(h:∀z∈a.drop d,Le κ x z):Mg κ a b (c.push x).toList d (e+1):=by have:=m.addB g 1 (by rw[Ae f];intro y i;rw[dF.mp i];exact h);rw[Ae f] at this;rw[eU];exact this
def Cz(C:vd prog w A s κ kd){left:Bool}{key:bd}{c:Array bd}{base n hint:Nat}{L:List bd}(B:(c.toList.drop base).take n=L)(D:kindOf st=kd)(F:sT κ key)(O:base+n<=c.size)(G:hint<n)(r:∀x∈L,sT κ x)(t:qi κ L)
  {Q:Option Nat->cg->Prop} (q:∀k,k<=n->(∀x∈L.take k,tu κ left key x=KM)->(∀x∈L.drop k,tu κ left key x=K7)->Q (KB k) st):wpS (av prog w) A E s ((oJ.g oM) left key c base n hint) Q st:=by
 have H:L.length=n:=by
  rw[<- B,cq,cB,az];lia
 have l:∀i,i<n->∃x,c[base+i]?=KB x/\L[i]?=KB x:=λi d=>by
  obtain⟨x,u,f⟩:=v7 (a:=c) (i:=base+i) 'd';refine⟨x,u,?_⟩;rw[<- B,f7 d,jp];exact f
 refine ZG C (b:=λi=>match L[i]? with|some x=>tu κ left key x|none=>K7) D F (λi d=>?_) G (λi j P I e=>?_) λk J K M=>q k J (λx m=>?_) λx m=>?_
 ·obtain⟨x,u,f⟩:=l i d;exact⟨x,u,r x (aL f),by rw[f]⟩
 ·obtain⟨x,_,m⟩:=l i 'd';obtain⟨y,_,p⟩:=l j I;rw[p] at e;rw[m]
  replace e:tu κ left key y=KM:=e
  show tu κ left key x=KM;by_cases h:i=j
  ·subst h;rw[m] at p;cases p;exact e
  have o:Le κ x y:=by
   obtain⟨v,rfl⟩:=ar.mp m;obtain⟨z,rfl⟩:=ar.mp p;exact di.mp t i j v z 'd'
  unfold tu at e ⊢;cases left with
  | true=>
   rw[qb rfl] at e ⊢;rcases κ.negTrans _ (ky κ x) _ e with h|h
   ·rw[show κ.blt (ky κ y) (ky κ x)=K7 from o] at h;cases h
   ·exact h
  | false=>
   rw[qq 'u'] at e ⊢;have N:Le κ y key:=by unfold Le;simpa using e
   have:Le κ x key:=o.trans N;unfold Le at this;rw[this];rfl
 ·obtain⟨i,d,e⟩:=lO m;have v:i<k:=by rw[cq] at d;lia
  have:=K i v;have f:L[i]?=KB x:=by rw[<- e,mE];exact ao (by rw[cq] at d;lia)
  rw[f] at this;exact this
 ·obtain⟨i,d,e⟩:=lO m;rw[cB] at d;have:=M (k+i) 'd' 'd';have f:L[k+i]?=KB x:=by rw[<- e,mF];exact ao 'd'
  rw[f] at this;exact this
def NZ{α:Type}{G:Prop}(P:α->Prop)(h:(∀x,P x)->G)(k:∀x,P x):G:=h k
def Je{α a:Type}{G:Prop}{H:α->a->Prop}(P:α->a->Prop)(h:(∀x y,H x y->P x y)->G)(k:∀x y,H x y->P x y):G:=h k
def Wj(ho:vd prog w A s κ kd){a b:Array bd}(hk:kindOf st=kd)(ha:∀x∈a.toList,sT κ x)(hb:∀x∈b.toList,sT κ x)(U:qi κ a.toList)(R:qi κ b.toList)(pa:1<=a.size)(pb:1<=b.size)
  (h0:∀x∈b.toList.take 1,∀y∈a.toList,Le κ x y) (hl:∀y∈b.toList,∀x∈a.toList.drop (a.size-1),Le κ y x) {Q:Array bd->cg->Prop} (q:∀r D,oj st D->Out κ a.toList b.toList r.toList->Q r D):wpS (av prog w) A E s ((oJ.lo oM) a b) Q st:=by
 have Ln:a.toList.length=a.size:=az;have Lm:b.toList.length=b.size:=az;have sv:∀{l:Array bd}{d f:Nat},Mg κ a.toList b.toList l.toList d f->(f=b.size\/d=a.size)->Out κ a.toList b.toList (l++a.extract d++b.extract f).toList:=λ{l d f}m h=>by
  rw[bU,bU,Gq,Gq];refine m.fin U R λx n y N=>?_;rcases h with rfl|rfl
  ·rw[fu 'd'] at N;cases N
  ·rw[fu 'd'] at n;cases n
 have su:∀{l:Array bd}{d f:Nat},Mg κ a.toList b.toList l.toList d f->d+1=a.size->Out κ a.toList b.toList (l++b.extract f++a.extract d).toList:=λ{l d f}m h=>by
  rw[bU,bU,Gq,Gq];refine m.fin' U R λy N x n=>hl y (de N) x ?_;have:a.size-1=d:=by lia
  rw[this];exact n
 obtain⟨b0,g0,l0⟩:=v7 (a:=b) (i:=0) 'd';have m0:Mg κ a.toList b.toList (#[b0]:Array bd).toList 0 1:=by
  have e:b.toList.take 1=[b0]:=by
   have:=Ae l0;simpa using this
  refine⟨by rw[e];exact eH _,ki _ _,λx n y N=>h0 x (by rw[e];exact n) y N,λx n y N=>?_⟩;have:x=b0:=by simpa using n
  subst this;exact Cr R l0 y (de N)
 show wpS _ _ _ _ (_ >>= _) Q st;refine aD (je (c9 ⟨rfl,aD (sD g0 ?_)⟩));by_cases c1:1=b.size
 ·show wpS _ _ _ _ (if (1==b.size)=KM then _ else _) Q st;rw[qb (by simpa using c1)];exact aK (q _ st (oj.refl st) (sv m0 (.inl c1)))
 show wpS _ _ _ _ (if (1==b.size)=KM then _ else _) Q st;rw[qq (by simpa using c1)];by_cases c2:1=a.size
 ·show wpS _ _ _ _ (if (0+1==a.size)=KM then _ else _) Q st;rw[qb (by simpa using c2)];exact aK (q _ st (oj.refl st) (su m0 'd'))
 show wpS _ _ _ _ (if (0+1==a.size)=KM then _ else _) Q st;rw[qq (by simpa using c2)];refine aD (gR (aD (dN (cT (I:=λk c D=>oj st D/\∃l d f G,c=(KF,l,d,f,G)/\Mg κ a.toList b.toList l.toList d f/\d+1<a.size/\f<b.size/\k+1<=l.size) (Q:=λc D=>oj st D/\∃r,c.1=KB r/\Out κ a.toList b.toList r.toList) ?_ ?_ ?_) ?_)))
 ·rintro k c qw _ hkt ⟨sm,l,d,f,G,rfl,m,J,F,c5⟩;have xJ:kindOf qw=kd:=sm.kind.trans hk;refine aD (dN (cT (I:=λj c D=>D=qw/\∃o d f t v,c=(KF,o,d,f,t,v)/\Mg κ a.toList b.toList o.toList d f/\d+1<a.size/\f<b.size/\l.size+j<=o.size) (Q:=λc D=>D=qw/\((∃r,c.1=KB r/\Out κ a.toList b.toList r.toList) \/ ∃o d f t v,c=(KF,o,d,f,t,v)/\Mg κ a.toList b.toList o.toList d f/\d+1<a.size/\f<b.size/\l.size+1<=o.size)) ?_ ?_ ?_) ?_)
  ·rintro j c p9 _ L_ ⟨rfl,o,d,f,t,v,rfl,m,J,F,c6⟩;obtain⟨y,gy,X⟩:=v7 (a:=b) F;obtain⟨x,gx,S⟩:=v7 (a:=a) (i:=d) 'd';refine aD (sD gy (aD (sD gx (aD (DF ho xJ (hb y (aL X)) (ha x (aL S)) ?_)))));cases hc:κ.blt (ky κ y) (ky κ x) with
   | true=>
    have Y:=Nr m R X λz K=>(Le.of hc).trans (Cr U S z K);refine aD (sD gy ?_);show wpS _ _ _ _ (if (f+1==b.size)=KM then _ else _) _ p9;by_cases e:f+1=b.size
    ·rw[qb (by simpa using e)];exact aK ⟨rfl,.inl ⟨_,rfl,sv Y (.inl e)⟩⟩
    ·rw[qq (by simpa using e)];split
     ·exact aK ⟨rfl,.inr ⟨o.push y,d,f+1,0,v+1,rfl,Y,J,by lia,by rw[cA];lia⟩⟩
     ·exact aK ⟨rfl,o.push y,d,f+1,0,v+1,rfl,Y,J,by lia,by rw[cA];lia⟩
   | false=>
    have Y:=NW m U S λz K=>Le.trans (show Le κ x y from hc) (Cr R X z K);refine aD (sD gx ?_);show wpS _ _ _ _ (if (d+1+1==a.size)=KM then _ else _) _ p9;by_cases e:d+1+1=a.size
    ·rw[qb (by simpa using e)];exact aK ⟨rfl,.inl ⟨_,rfl,su Y e⟩⟩
    ·rw[qq (by simpa using e)];split
     ·exact aK ⟨rfl,.inr ⟨o.push x,d+1,f,t+1,0,rfl,Y,by lia,F,by rw[cA];lia⟩⟩
     ·exact aK ⟨rfl,o.push x,d+1,f,t+1,0,rfl,Y,by lia,F,by rw[cA];lia⟩
  ·rintro c p9 ⟨rfl,o,d,f,t,v,rfl,m,J,F,c6⟩;have:=m.len 'd' 'd';rw[az] at this;rw[dZ] at c6;lia
  ·exact⟨rfl,l,d,f,0,0,rfl,m,J,F,by lia⟩
  rintro c p9 ⟨rfl,h⟩;rcases h with⟨r,e,hr⟩|⟨o,d,f,t,v,rfl,m,J,F,c6⟩
  ·obtain⟨c,c'⟩:=c;dsimp only at e;subst e;exact aK ⟨sm,r,rfl,hr⟩
  refine aD (je (c9 ⟨rfl,aD (dN (cT (I:=λj c D=>oj st D/\∃B d f G t v,c=(KF,B,d,f,G,t,v)/\Mg κ a.toList b.toList B.toList d f/\d+1<a.size/\f<b.size/\o.size+j<=B.size) (Q:=λc D=>oj st D/\((∃r,c.1=KB r/\Out κ a.toList b.toList r.toList) \/ ∃B d f G t v,c=(KF,B,d,f,G,t,v)/\Mg κ a.toList b.toList B.toList d f/\d+1<a.size/\f<b.size/\o.size<=B.size)) ?_ ?_ ?_) ?_)⟩))
  ·rintro j c pN _ L_ ⟨T,B,d,f,G,t,v,rfl,m,J,F,c6⟩;obtain⟨y,gy,X⟩:=v7 (a:=b) F;have N:=hb y (aL X);have BQ:∀M,oj st M->∀{Q:Option Nat->cg->Prop},(∀k,k<=a.size-d->(∀x∈(a.toList.drop d).take k,Le κ x y)->(∀x∈a.toList.drop (d+k),Le κ y x)->Q (KB k) M)->wpS (av prog w) A E s ((oJ.g oM) K7 y a d (a.size-d) 0) Q M:=λM s4 Q h=>
    Cz ho (L:=a.toList.drop d) (cO (by rw[cB];lia)) (s4.kind.trans hk) N 'd' 'd' (λx n=>ha x (de n)) (U.sublist (dj d _)) λk h1 h2 h3=>h k h1 (λx n=>by
     have:=h2 x n;unfold tu at this;rw[qq 'u'] at this;unfold Le;simpa using this) λx n=>by
     rw[<- eF] at n;have:=h3 x n;unfold tu at this;rw[qq 'u'] at this;exact Le.of (by simpa using this)
   have BP:∀x{C:Nat},a.toList[C]?=KB x->∀M,oj st M->f+1<b.size->∀{Q:Option Nat->cg->Prop},(∀k,k<=b.size-(f+1)->(∀z∈(b.toList.drop (f+1)).take k,Le κ z x)->(∀z∈b.toList.drop (f+1+k),Le κ x z)->Q (KB k) M)->wpS (av prog w) A E s ((oJ.g oM) KM x b (f+1) (b.size-(f+1)) 0) Q M:=λx C S M s4 h4 Q h=>
    Cz ho (L:=b.toList.drop (f+1)) (cO (by rw[cB];lia)) (s4.kind.trans hk) (ha x (aL S)) 'd' 'd' (λx n=>hb x (de n)) (R.sublist (dj _ _)) λk h1 h2 h3=>h k h1 (λz K=>by
     have:=h2 z K;unfold tu at this;rw[qb rfl] at this;exact Le.of this) λz K=>by
     rw[<- eF] at K;have:=h3 z K;unfold tu at this;rw[qb rfl] at this;exact this
   show wpS _ _ _ _ (if G>1 then _ else _) _ pN;apply NZ (α:=Nat)
   ·intro p;split
    ·generalize G-1=ET;exact p ET
    ·exact p G
   intro ET;refine aD (O9 ⟨rfl,rfl,rfl,rfl⟩ λM s4=>aD (sD gy (aD (BQ M (T.trans s4) ?_))));have V:=T.trans s4;intro k uO kt kf;have m3:=m.addA U k λx n z K=>(kt x n).trans (Cr R X z K);rw[<- Jl,<- bU] at m3;have n3:B.size<=(B++a.extract d (d+k)).size:=by rw[gk];lia
   show wpS _ _ _ _ (if k>0 then _ else _) _ _;apply Je (H:=λ(O:Array bd)(C:Nat)=>Mg κ a.toList b.toList O.toList C f/\B.size<=O.size/\C+1<a.size/\∀x∈a.toList.drop C,Le κ y x)
   ·intro p;by_cases wu:k>0
    ·rw[qb wu];show wpS _ _ _ _ (if (d+k+1==a.size)=KM then _ else _) _ _;by_cases e1:d+k+1=a.size
     ·rw[qb (by simpa using e1)];exact aK ⟨V,.inl ⟨_,rfl,su m3 e1⟩⟩
     ·rw[qq (by simpa using e1)];show wpS _ _ _ _ (if (d+k==a.size)=KM then _ else _) _ _;by_cases e2:d+k=a.size
      ·rw[qb (by simpa using e2)];exact aK ⟨V,.inl ⟨_,rfl,sv m3 (.inr e2)⟩⟩
      ·rw[qq (by simpa using e2)];have Z:=fz m3 (fz n3 (fz (show d+k+1<a.size by lia) kf));generalize B++a.extract d (d+k)=O at Z ⊢;generalize d+k=C at Z ⊢;exact p O C Z
    ·rw[qq wu];have u_:k=0:=by lia
     rw[u_,Nat.add_zero] at kf;exact p B d ⟨m,aF _,J,kf⟩
   rintro O C ⟨m3,n3,f3,Br⟩;have m4:=Nr m3 R X Br;refine aD (sD gy ?_);show wpS _ _ _ _ (if (f+1==b.size)=KM then _ else _) _ _;by_cases e3:f+1=b.size
   ·rw[qb (by simpa using e3)];exact aK ⟨V,.inl ⟨_,rfl,sv m4 (.inl e3)⟩⟩
   ·rw[qq (by simpa using e3)];obtain⟨x,gx,S⟩:=v7 (a:=a) (i:=C) 'd';refine aD (sD gx (aD (BP x S _ V 'd' ?_)));intro P s_ Lp Au;have m5:=m4.addB R P λz K u hu=>(Lp z K).trans (Cr U S u hu);rw[<- Jl,<- bU] at m5;have n5:O.size+1<=(O.push y++b.extract (f+1) (f+1+P)).size:=by rw[gk,cA];lia
    show wpS _ _ _ _ (if P>0 then _ else _) _ _;apply Je (H:=λ(u6:Array bd)(W:Nat)=>Mg κ a.toList b.toList u6.toList C W/\O.size+1<=u6.size/\W<b.size/\∀z∈b.toList.drop W,Le κ x z)
    ·intro p;by_cases wu:P>0
     ·rw[qb wu];show wpS _ _ _ _ (if (f+1+P==b.size)=KM then _ else _) _ _;by_cases e4:f+1+P=b.size
      ·rw[qb (by simpa using e4)];exact aK ⟨V,.inl ⟨_,rfl,sv m5 (.inl e4)⟩⟩
      ·rw[qq (by simpa using e4)];have Z:=fz m5 (fz n5 (fz (show f+1+P<b.size by lia) Au));generalize O.push y++b.extract (f+1) (f+1+P)=u6 at Z ⊢;generalize f+1+P=W at Z ⊢;exact p u6 W Z
     ·rw[qq wu];have u_:P=0:=by lia
      rw[u_,Nat.add_zero] at Au;exact p (O.push y) (f+1) ⟨m4,by rw[cA];exact aF _,by lia,Au⟩
    rintro u6 W ⟨m5,n5,f5,Au⟩;have m6:=NW m5 U S Au;refine aD (sD gx ?_);show wpS _ _ _ _ (if (C+1+1==a.size)=KM then _ else _) _ _;by_cases e5:C+1+1=a.size
    ·rw[qb (by simpa using e5)];exact aK ⟨V,.inl ⟨_,rfl,su m6 e5⟩⟩
    ·rw[qq (by simpa using e5)];split
     ·exact aK ⟨V,.inr ⟨u6.push x,C+1,W,_,_,_,rfl,m6,by lia,f5,by rw[cA];lia⟩⟩
     ·exact aK ⟨V,u6.push x,C+1,W,_,_,_,rfl,m6,by lia,f5,by rw[cA];lia⟩
  ·rintro c pN ⟨T,B,d,f,G,t,v,rfl,m,J,F,c6⟩;have:=m.len 'd' 'd';rw[az] at this;rw[dZ] at c6;lia
  ·exact⟨sm,o,d,f,_,t,v,rfl,m,J,F,by lia⟩
  rintro c pN ⟨T,h⟩;rcases h with⟨r,e,hr⟩|⟨B,d,f,G,t,v,rfl,m,J,F,c7⟩
  ·obtain⟨c,c'⟩:=c;dsimp only at e;subst e;exact aK ⟨T,r,rfl,hr⟩
  ·exact aD (fV (aK ⟨⟨T.kind,T.arr,T.pend,T.failed⟩,B,d,f,_,rfl,m,J,F,by lia⟩))
 ·rintro c qw ⟨sm,l,d,f,G,rfl,m,J,F,c5⟩;have:=m.len 'd' 'd';rw[az] at this;rw[dZ] at c5;lia
 ·exact⟨oj.refl st,#[b0],0,1,_,rfl,m0,by lia,by lia,by simp⟩
 ·rintro⟨c,c'⟩ qw ⟨sm,r,e,hr⟩;dsimp only at e;subst e;exact aK (q r qw sm hr)
end
section
variable{κ:a7}
structure Mh(κ:a7)(a b o:List bd)(i j:Nat):Prop where
 perm:o.Perm (a.drop i++b.drop j)
 srt:qi κ o.reverse
 la:∀x∈a.take i,∀y∈o,Le κ x y
 lb:∀x∈b.take j,∀y∈o,Le κ x y
variable{a b o:List bd}{i j:Nat}
def Mh.len(h:Mh κ a b o i j):o.length=(a.length-i)+(b.length-j):=by rw[h.perm.length_eq,aE,cB,cB]
def Zj{α:Type}{l:List α}{i k:Nat}(h:k<=i){x:α}(c:x∈l.take k):x∈l.take i:=by
 have:l.take k=(l.take i).take k:=by rw[gz,gh h]
 rw[this] at c;exact cD c
def zga{α:Type}(l:List α)(h:k<=i):l.drop k=(l.take i).drop k++l.drop i:=by
 by_cases c:i<=l.length
 ·conv=>lhs;rw[<- cw i l]
  rw[eZ (by rw[cq];lia)]
 ·rw[cO 'd',fu (i:=i) 'd',bC]
def qi.mid(h:qi κ l)(d:k<=i):∀x∈l.take k,∀y∈(l.take i).drop k,Le κ x y:=by
 have e:qi κ (l.take i):=h.sublist (cK i l);intro x c y f;have:l.take k=(l.take i).take k:=by rw[gz,gh d]
 rw[this] at c;exact e.take_drop k x c y f
def Mh.addA(h:Mh κ a b o i j)(f:qi κ a){k:Nat}(d:k<=i)(e:∀z∈b.take j,∀y∈(a.take i).drop k,Le κ z y):Mh κ a b (o++((a.take i).drop k).reverse) k j:=by
 refine⟨?_,?_,λx c y hy=>?_,λx c y hy=>?_⟩
 ·rw[zga a d];refine(h.perm.append (mG _)).trans ?_;rw[a9];refine cV.trans ?_;rw[a9];exact cV
 ·rw[List.reverse_append,List.reverse_reverse];unfold qi;rw[bX];exact⟨(f.sublist (cK i a)).sublist (dj k _),h.srt,λx c y hy=>h.la x (de c) y (gH.mp hy)⟩
 ·rcases aP.mp hy with hy|hy
  ·exact h.la x (Zj d c) y hy
  ·exact f.mid d x c y (gH.mp hy)
 ·rcases aP.mp hy with hy|hy
  ·exact h.lb x c y hy
  ·exact e x c y (gH.mp hy)
def Mh.swap(h:Mh κ a b o i j):Mh κ b a o j i:=⟨h.perm.trans cV,h.srt,h.lb,h.la⟩
def Mh.addB(h:Mh κ a b o i j)(d:qi κ b)(e:k<=j)(c:∀z∈a.take i,∀y∈(b.take j).drop k,Le κ z y):Mh κ a b (o++((b.take j).drop k).reverse) i k:=(h.swap.addA d e c).swap
def Mh.fin(h:Mh κ a b o i j)(d:qi κ a)(e:qi κ b)(f:∀x∈a.take i,∀y∈b.take j,Le κ x y):Out κ a b (a.take i++b.take j++o.reverse):=by
 refine⟨?_,?_⟩
 ·refine(((mG o).trans h.perm).append_left _).trans ?_
  conv=>rhs;rw[<- cw i a,<- cw j b]
  simp only[a9];refine fG _ ?_;rw[<- a9,<- a9];exact cV.append_right _
 ·unfold qi;rw[bX,bX];refine⟨⟨d.sublist (cK i a),e.sublist (cK j b),f⟩,h.srt,λx g y c=>?_⟩;rcases aP.mp g with h'|h'
  ·exact h.la x h' y (gH.mp c)
  ·exact h.lb x h' y (gH.mp c)
def Mh.fin'(h:Mh κ a b o i j)(c:qi κ a)(d:qi κ b)(e:∀y∈b.take j,∀x∈a.take i,Le κ y x):Out κ a b (b.take j++a.take i++o.reverse):=by have:=h.swap.fin d c e;exact⟨this.perm.trans cV,this.srt⟩
def D9{l:List bd}{i:Nat}{x:bd}(h:l[i]?=KB x):(l.take (i+1)).drop i=[x]:=by obtain⟨c,rfl⟩:=ar.mp h;rw[nE,ei,dh c];rfl
def DW{l:List bd}(h:qi κ l){i:Nat}{x:bd}(c:l[i]?=KB x):∀y∈l.take (i+1),Le κ y x:=by
 intro y hy;have e:=D9 c;have:l.take (i+1)=l.take i++[x]:=by
  rw[ig,c];rfl
 rw[this] at hy;rcases aP.mp hy with hy|hy
 ·exact h.mid (eL i) y hy x (by rw[e];simp)
 ·rw[dF.mp hy];exact Le.refl _
def Gs{c:Array bd}{x:bd}(m:Mh κ a b c.toList (i+1) j)(e:qi κ a)(d:a[i]?=KB x)(h:∀z∈b.take j,Le κ z x):Mh κ a b (c.push x).toList i j:=by have:=m.addA e (k:=i) 'd' (by rw[D9 d];intro z f y g;rw[dF.mp g];exact h z f);rw[D9 d] at this;rw[eU];exact this
def OC{c:Array bd}{x:bd}(m:Mh κ a b c.toList i (j+1))(e:qi κ b)(d:b[j]?=KB x)(h:∀z∈a.take i,Le κ z x):Mh κ a b (c.push x).toList i j:=by have:=m.addB e (k:=j) 'd' (by rw[D9 d];intro z f y g;rw[dF.mp g];exact h z f);rw[D9 d] at this;rw[eU];exact this
def Gg(a:Array bd)(i:Nat):(a.extract 0 i).toList=a.toList.take i:=by simp
def Ny(a:Array bd)(k i:Nat):((a.extract k i).reverse).toList=((a.toList.take i).drop k).reverse:=by simp[nE]
end
section
variable{prog:aN}{w:aY}{A:ba}{E:ab->ag->Prop}{s:ag}{κ:a7}{st:cg}{kd:KT}
def GI{n:Nat}{o:Array bd}{x:bd}(h:n<=o.size):n+1<=(o.push x).size:=by rw[cA];lia
def WD(ho:vd prog w A s κ kd){a b:Array bd}(hk:kindOf st=kd)(ha:∀x∈a.toList,sT κ x)(hb:∀x∈b.toList,sT κ x)(U:qi κ a.toList)(Y:qi κ b.toList)(pa:1<=a.size)(pb:1<=b.size)
  (h0:∀x∈b.toList.take 1,∀y∈a.toList,Le κ x y) (hl:∀y∈b.toList,∀x∈a.toList.drop (a.size-1),Le κ y x) {Q:Array bd->cg->Prop} (q:∀r D,oj st D->Out κ a.toList b.toList r.toList->Q r D):wpS (av prog w) A E s ((oJ.hi oM) a b) Q st:=by
 have Ln:a.toList.length=a.size:=az;have Lm:b.toList.length=b.size:=az;have sv:∀{l:Array bd}{d f:Nat},Mh κ a.toList b.toList l.toList d f->(d=0\/f=0)->Out κ a.toList b.toList (a.extract 0 d++b.extract 0 f++l.reverse).toList:=λ{l d f}m h=>by
  rw[bU,bU,Gg,Gg,lv];refine m.fin U Y λx P y W=>?_;rcases h with rfl|rfl
  ·cases P
  ·cases W
 have su:∀{l:Array bd}{d f:Nat},Mh κ a.toList b.toList l.toList d f->f=1->Out κ a.toList b.toList (b.extract 0 f++a.extract 0 d++l.reverse).toList:=λ{l d f}m h=>by
  rw[bU,bU,Gg,Gg,lv];subst h;exact m.fin' U Y λy W x P=>h0 y W x (cD P)
 obtain⟨x0,g0,l0⟩:=v7 (a:=a) (i:=a.size-1) 'd';have m0:Mh κ a.toList b.toList (#[x0]:Array bd).toList (a.size-1) b.size:=by
  have m00:Mh κ a.toList b.toList (#[]:Array bd).toList (a.size-1+1) b.size:=by
   refine⟨?_,eS,(λx _ y W=>nomatch W),(λx _ y W=>nomatch W)⟩;rw[fu 'd',fu 'd'];exact eH _
  exact Gs m00 U l0 λz F=>hl z (cD F) x0 (by
   have:=Ae l0;exact cD (by rw[this];simp:x0∈(a.toList.drop (a.size-1)).take 1))
 show wpS _ _ _ _ (_ >>= _) Q st;refine aD (je (c9 ⟨rfl,aD (sD g0 ?_)⟩));show wpS _ _ _ _ (if (a.size-1==0)=KM then _ else _) Q st;by_cases c1:a.size-1=0
 ·rw[qb (by simpa using c1)];exact aK (q _ st (oj.refl st) (sv m0 (.inl c1)))
 rw[qq (by simpa using c1)];show wpS _ _ _ _ (if (b.size==1)=KM then _ else _) Q st;by_cases c2:b.size=1
 ·rw[qb (by simpa using c2)];exact aK (q _ st (oj.refl st) (su m0 c2))
 rw[qq (by simpa using c2)];refine aD (gR (aD (dN (cT (I:=λk c D=>oj st D/\∃d f l G,c=(KF,d,f,l,G)/\Mh κ a.toList b.toList l.toList d f/\1<=d/\d<=a.size/\2<=f/\f<=b.size/\k+1<=l.size) (Q:=λc D=>oj st D/\∃r,c.1=KB r/\Out κ a.toList b.toList r.toList) ?_ ?_ ?_) ?_)))
 ·rintro k c qw _ hkt ⟨sm,d,f,l,G,rfl,m,J,K,N,O,c5⟩;have xJ:kindOf qw=kd:=sm.kind.trans hk;refine aD (dN (cT (I:=λj c D=>D=qw/\∃d f o v B,c=(KF,d,f,o,v,B)/\Mh κ a.toList b.toList o.toList d f/\1<=d/\d<=a.size/\2<=f/\f<=b.size/\l.size+j<=o.size) (Q:=λc D=>D=qw/\((∃r,c.1=KB r/\Out κ a.toList b.toList r.toList) \/ ∃d f o v B,c=(KF,d,f,o,v,B)/\Mh κ a.toList b.toList o.toList d f/\1<=d/\d<=a.size/\2<=f/\f<=b.size/\l.size+1<=o.size)) ?_ ?_ ?_) ?_)
  ·rintro j c p9 _ L_ ⟨rfl,d,f,o,v,B,rfl,m,J,K,N,O,c6⟩;obtain⟨p,rfl⟩:∃p,d=p+1:=⟨d-1,by lia⟩;obtain⟨r,rfl⟩:∃r,f=r+1:=⟨f-1,by lia⟩;obtain⟨y,gy,Z⟩:=v7 (a:=b) (i:=r) 'd';obtain⟨x,gx,V⟩:=v7 (a:=a) (i:=p) 'd';refine aD (sD gy (aD (sD gx (aD (DF ho xJ (hb y (aL Z)) (ha x (aL V)) ?_)))));cases hc:κ.blt (ky κ y) (ky κ x) with
   | true=>
    have m':=Gs m U V λz F=>(DW Y Z z F).trans (Le.of hc);refine aD (sD gx ?_);show wpS _ _ _ _ (if (p==0)=KM then _ else _) _ p9;by_cases e:p=0
    ·rw[qb (by simpa using e)];exact aK ⟨rfl,.inl ⟨_,rfl,sv m' (.inl e)⟩⟩
    ·rw[qq (by simpa using e)];split
     ·exact aK ⟨rfl,.inr ⟨p,r+1,o.push x,v+1,0,rfl,m',by lia,by lia,N,O,by rw[cA];lia⟩⟩
     ·exact aK ⟨rfl,p,r+1,o.push x,v+1,0,rfl,m',by lia,by lia,N,O,by rw[cA];lia⟩
   | false=>
    have m':=OC m Y Z λz F=>(DW U V z F).trans (show Le κ x y from hc);refine aD (sD gy ?_);show wpS _ _ _ _ (if (r==1)=KM then _ else _) _ p9;by_cases e:r=1
    ·rw[qb (by simpa using e)];exact aK ⟨rfl,.inl ⟨_,rfl,su m' e⟩⟩
    ·rw[qq (by simpa using e)];split
     ·exact aK ⟨rfl,.inr ⟨p+1,r,o.push y,0,B+1,rfl,m',J,K,by lia,by lia,by rw[cA];lia⟩⟩
     ·exact aK ⟨rfl,p+1,r,o.push y,0,B+1,rfl,m',J,K,by lia,by lia,by rw[cA];lia⟩
  ·rintro c p9 ⟨rfl,d,f,o,v,B,rfl,m,J,K,N,O,c6⟩;have:=m.len;rw[az] at this;rw[dZ] at c6;lia
  ·exact⟨rfl,d,f,l,0,0,rfl,m,J,K,N,O,by lia⟩
  rintro c p9 ⟨rfl,h⟩;rcases h with⟨r,e,hr⟩|⟨d,f,o,v,B,rfl,m,J,K,N,O,c6⟩
  ·obtain⟨c,c'⟩:=c;dsimp only at e;subst e;exact aK ⟨sm,r,rfl,hr⟩
  refine aD (je (c9 ⟨rfl,aD (dN (cT (I:=λj c D=>oj st D/\∃d f C G v B,c=(KF,d,f,C,G,v,B)/\Mh κ a.toList b.toList C.toList d f/\1<=d/\d<=a.size/\2<=f/\f<=b.size/\o.size+j<=C.size) (Q:=λc D=>oj st D/\((∃r,c.1=KB r/\Out κ a.toList b.toList r.toList) \/ ∃d f C G v B,c=(KF,d,f,C,G,v,B)/\Mh κ a.toList b.toList C.toList d f/\1<=d/\d<=a.size/\2<=f/\f<=b.size/\o.size<=C.size)) ?_ ?_ ?_) ?_)⟩))
  ·rintro j c pN _ L_ ⟨X,d,f,C,G,v,B,rfl,m,J,K,N,O,c6⟩;obtain⟨r,rfl⟩:∃r,f=r+1:=⟨f-1,by lia⟩;obtain⟨y,gy,Z⟩:=v7 (a:=b) (i:=r) 'd';have W:=hb y (aL Z);have BQ:∀R,oj st R->∀{Q:Option Nat->cg->Prop},(∀k,k<=d->(∀x∈a.toList.take k,Le κ x y)->(∀x∈(a.toList.take d).drop k,Le κ y x)->Q (KB k) R)->wpS (av prog w) A E s ((oJ.g oM) K7 y a 0 d (d-1)) Q R:=λR s4 Q h=>
    Cz ho (L:=a.toList.take d) (by rw[k8]) (s4.kind.trans hk) W 'd' 'd' (λx P=>ha x (cD P)) (U.sublist (cK d _)) λk h1 h2 h3=>h k h1 (λx P=>by
     have:=h2 x (by rw[gz,gh h1];exact P);unfold tu at this;rw[qq 'u'] at this;unfold Le;simpa using this) λx P=>by
     have:=h3 x P;unfold tu at this;rw[qq 'u'] at this;exact Le.of (by simpa using this)
   have BP:∀x{n:Nat},a.toList[n]?=KB x->∀R,oj st R->1<=r->∀{Q:Option Nat->cg->Prop},(∀k,k<=r->(∀z∈(b.toList.take r).drop k,Le κ x z)->(∀z∈b.toList.take k,Le κ z x)->Q (KB k) R)->wpS (av prog w) A E s ((oJ.g oM) KM x b 0 r (r-1)) Q R:=λx n V R s4 h4 Q h=>
    Cz ho (L:=b.toList.take r) (by rw[k8]) (s4.kind.trans hk) (ha x (aL V)) 'd' 'd' (λx P=>hb x (cD P)) (Y.sublist (cK _ _)) λk h1 h2 h3=>h k h1 (λz F=>by
     have:=h3 z F;unfold tu at this;rw[qb rfl] at this;exact this) λz F=>by
     have:=h2 z (by rw[gz,gh h1];exact F);unfold tu at this;rw[qb rfl] at this;exact Le.of this
   show wpS _ _ _ _ (if G>1 then _ else _) _ pN;apply NZ (α:=Nat)
   ·intro S;split
    ·generalize G-1=ET;exact S ET
    ·exact S G
   intro ET;refine aD (O9 ⟨rfl,rfl,rfl,rfl⟩ λR s4=>aD (sD gy (aD (BQ R (X.trans s4) ?_))));have T:=X.trans s4;intro k uO Br kt;have m3:=m.addA U uO λz F u hu=>(DW Y Z z F).trans (kt u hu);rw[<- Ny,<- bU] at m3;have n3:C.size<=(C++(a.extract k d).reverse).size:=by rw[gk];lia
   show wpS _ _ _ _ (if d-k>0 then _ else _) _ _;apply Je (H:=λ(M:Array bd)(Bo:Nat)=>Mh κ a.toList b.toList M.toList Bo (r+1)/\C.size<=M.size/\1<=Bo/\Bo<=a.size/\∀x∈a.toList.take Bo,Le κ x y)
   ·intro S;by_cases wu:d-k>0
    ·rw[qb wu];show wpS _ _ _ _ (if (k==0)=KM then _ else _) _ _;by_cases e1:k=0
     ·rw[qb (by simpa using e1)];exact aK ⟨T,.inl ⟨_,rfl,sv m3 (.inl e1)⟩⟩
     ·rw[qq (by simpa using e1)];have hh:=fz m3 (fz n3 (fz (show 1<=k by lia) (fz (show k<=a.size by lia) Br)));generalize C++(a.extract k d).reverse=M at hh ⊢;generalize k=q3 at hh ⊢;exact S M q3 hh
    ·rw[qq wu];have u_:k=d:=by lia
     rw[u_] at Br ⊢;exact S C d ⟨m,aF _,J,K,Br⟩
   rintro M Bo ⟨m3,n3,f3,f3',Br⟩;have m4:=OC m3 Y Z Br;refine aD (sD gy ?_);show wpS _ _ _ _ (if (r==1)=KM then _ else _) _ _;by_cases e3:r=1
   ·rw[qb (by simpa using e3)];exact aK ⟨T,.inl ⟨_,rfl,su m4 e3⟩⟩
   ·rw[qq (by simpa using e3)];obtain⟨n,rfl⟩:∃n,Bo=n+1:=⟨Bo-1,by lia⟩;obtain⟨x,gx,V⟩:=v7 (a:=a) (i:=n) 'd';refine aD (sD gx (aD (BP x V _ T 'd' ?_)));intro t s_ Lp Au;have m5:=m4.addB Y s_ λz F u hu=>(DW U V z F).trans (Lp u hu);rw[<- Ny,<- bU] at m5;have n5:M.size+1<=(M.push y++(b.extract t r).reverse).size:=by rw[gk,cA];lia
    by_cases wu:r-t>0
    ·show wpS _ _ _ _ (if r-t>0 then _ else _) _ _;rw[qb wu];show wpS _ _ _ _ (if (t==1)=KM then _ else _) _ _;by_cases e4:t=1
     ·rw[qb (by simpa using e4)];exact aK ⟨T,.inl ⟨_,rfl,su m5 e4⟩⟩
     ·rw[qq (by simpa using e4)];show wpS _ _ _ _ (if (t==0)=KM then _ else _) _ _;by_cases e6:t=0
      ·rw[qb (by simpa using e6)];exact aK ⟨T,.inl ⟨_,rfl,sv m5 (.inr e6)⟩⟩
      ·rw[qq (by simpa using e6)];have f5:2<=t:=by lia
       have m6:=Gs m5 U V Au;refine aD (sD gx ?_);show wpS _ _ _ _ (if (n==0)=KM then _ else _) _ _;by_cases e5:n=0
       ·rw[qb (by simpa using e5)];exact aK ⟨T,.inl ⟨_,rfl,sv m6 (.inl e5)⟩⟩
       ·rw[qq (by simpa using e5)];split
        ·exact aK ⟨T,.inr ⟨n,t,_,_,_,_,rfl,m6,(by lia:1<=n),(by lia:n<=a.size),f5,(by lia:t<=b.size),aM (by lia:o.size<=M.size+1+1) (GI n5)⟩⟩
        ·exact aK ⟨T,n,t,_,_,_,_,rfl,m6,(by lia:1<=n),(by lia:n<=a.size),f5,(by lia:t<=b.size),aM (by lia:o.size+(j+1)<=M.size+1+1) (GI n5)⟩
    ·have u_:t=r:=by lia
     subst u_;show wpS _ _ _ _ (if t-t>0 then _ else _) _ _;rw[qq wu];have f5:2<=t:=by lia
     replace m5:=m4
     replace n5:M.size+1<=(M.push y).size:=by rw[cA];exact aF _
     have m6:=Gs m5 U V Au;refine aD (sD gx ?_);show wpS _ _ _ _ (if (n==0)=KM then _ else _) _ _;by_cases e5:n=0
     ·rw[qb (by simpa using e5)];exact aK ⟨T,.inl ⟨_,rfl,sv m6 (.inl e5)⟩⟩
     ·rw[qq (by simpa using e5)];split
      ·exact aK ⟨T,.inr ⟨n,t,_,_,_,_,rfl,m6,(by lia:1<=n),(by lia:n<=a.size),f5,(by lia:t<=b.size),aM (by lia:o.size<=M.size+1+1) (GI n5)⟩⟩
      ·exact aK ⟨T,n,t,_,_,_,_,rfl,m6,(by lia:1<=n),(by lia:n<=a.size),f5,(by lia:t<=b.size),aM (by lia:o.size+(j+1)<=M.size+1+1) (GI n5)⟩
  ·rintro c pN ⟨X,d,f,C,G,v,B,rfl,m,J,K,N,O,c6⟩;have:=m.len;rw[az] at this;rw[dZ] at c6;lia
  ·exact⟨sm,d,f,o,_,v,B,rfl,m,J,K,N,O,by lia⟩
  rintro c pN ⟨X,h⟩;rcases h with⟨r,e,hr⟩|⟨d,f,C,G,v,B,rfl,m,J,K,N,O,c7⟩
  ·obtain⟨c,c'⟩:=c;dsimp only at e;subst e;exact aK ⟨X,r,rfl,hr⟩
  ·exact aD (fV (aK ⟨⟨X.kind,X.arr,X.pend,X.failed⟩,d,f,C,_,rfl,m,J,K,N,O,by lia⟩))
 ·rintro c qw ⟨sm,d,f,l,G,rfl,m,J,K,N,O,c5⟩;have:=m.len;rw[az] at this;rw[dZ] at c5;lia
 ·exact⟨oj.refl st,a.size-1,b.size,#[x0],_,rfl,m0,by lia,by lia,by lia,by lia,by simp⟩
 ·rintro⟨c,c'⟩ qw ⟨sm,r,e,hr⟩;dsimp only at e;subst e;exact aK (q r qw sm hr)
end
theorem Oc(p:Nat):∀(m:List bd)(j:Nat)(xs:Array bd),p+j+m.length<=xs.size->((m.zipIdx j).foldl (λa x=>a.setIfInBounds (p+x.2) x.1) xs).toList=xs.toList.take (p+j)++m++xs.toList.drop (p+j+m.length)
 |[],j,xs,_=>by simp
 | x::m,j,xs,h=>by
  rw[aS] at h;rw[iB,fE,Oc p m (j+1) _ (by rw[jY];lia),jA,<- lI];have b:p+j<xs.toList.length:=by rw[az];lia
  have c:(xs.toList.set (p+j) x).take (p+j+1)=xs.toList.take (p+j)++[x]:=by
   rw[ig,bw b,List.take_set_of_le (aF _)];rfl
  rw[c,List.drop_set_of_lt 'd',aS,a9,a9,a9];have:p+j+1+m.length=p+j+(m.length+1):=by lia
  rw[this];rfl
def zhs(h:p+m.length<=xs.size):(lay xs p m).toList=xs.toList.take p++m++xs.toList.drop (p+m.length):=Oc p m 0 xs h
section
variable{prog:aN}{w:aY}{A:ba}{E:ab->ag->Prop}{s:ag}{κ:a7}{st:cg}{kd:KT}
def V4(I:vd prog w A s κ kd)(t:kindOf st=kd)(N:failedOf st=KF)(d:(qt st).toList=P++(X++(Y++R)))(h1:(qx st)[i]?=KB (P.length,X.length,pw))(h2:(qx st)[i+1]?=KB (P.length+X.length,Y.length,HP))
  (J:1<=X.length) (O:1<=Y.length) (C:qi κ X) (D:qi κ Y) (F:∀x∈X++Y,sT κ x) {Q:Bool->cg->Prop}
  (q:∀b M,kindOf b=kd->failedOf b=KF->qx b=((qx st).setIfInBounds i (P.length,X.length+Y.length,pw)).eraseIdxIfInBounds (i+1)->(qt b).toList=P++(M++R)->M.Perm (X++Y)->qi κ M->Q KM b):wpS (av prog w) A E s (mergeAt' i) Q st:=by
 have G:(qt st).size=P.length+(X.length+(Y.length+R.length)):=by
  rw[<- az,d];simp
 have S:∀x∈X,sT κ x:=λx h=>F x (bV _ h);have T:∀x∈Y,sT κ x:=λx h=>F x (ay _ h);have f:∀(j:Nat)(x:bd),(P++(X++(Y++R)))[j]?=KB x->(qt st)[j]?=KB x:=λj x h=>by
  rw[<- d] at h;rw[<- h];simp
 obtain⟨g,K⟩:∃g,Y[0]?=KB g:=⟨Y[0],ao _⟩;have gb:(qt st)[P.length+X.length]?=KB g:=f _ _ (by
  rw[bo 'd',ei,bo (aF _),iX,aJ 'd'];exact K)
 have dX:((qt st).toList.drop P.length).take X.length=X:=by rw[d];simp
 have dY:((qt st).toList.drop (P.length+X.length)).take Y.length=Y:=by rw[d,<- a9,eZ 'k',<- aE];simp
 have U:=T g (aL K);have V:∀y∈Y,Le κ g y:=λy h=>Cr D K y (by simpa using h);refine(oJ.at_ oM) h1 h2 gb ?_;refine Cz (base:=P.length) (n:=X.length) (hint:=0) I dX ?_ U 'd' 'd' S C ?_
 ·exact t
 refine λk uO kt kf=>⟨k,rfl,λwu=>?_,λwu=>?_⟩
 ·have W:k=X.length:=by lia
  refine q _ (X++Y) t N rfl (by show(qt st).toList=_;rw[d,a9]) (eH _) ?_;unfold qi;rw[bX];refine⟨C,D,λx h y c=>Le.trans ?_ (V y c)⟩;have:=kt x (by rw[W,iD];exact h);unfold tu at this;rw[qq 'u'] at this;unfold Le;simpa using this
 have Z:∀x∈X.take k,Le κ x g:=λx h=>by
  have:=kt x h;unfold tu at this;rw[qq 'u'] at this;unfold Le;simpa using this
 have TC:∀x∈X.drop k,Le κ g x:=λx h=>by
  have:=kf x h;unfold tu at this;rw[qq 'u'] at this;exact Le.of (by simpa using this)
 obtain⟨l,L⟩:∃l,X[X.length-1]?=KB l:=⟨X[X.length-1],ao _⟩;have ga:(qt st)[P.length+k+(X.length-k)-1]?=KB l:=f _ _ (by
  have:P.length+k+(X.length-k)-1=P.length+(X.length-1):=by lia
  rw[this,bo 'd',ei,aJ 'd'];exact L)
 have hka:=S l (aL L);have UC:∀x∈X,Le κ x l:=λx h=>DW C L x (by rw[cO 'd'];exact h);refine⟨l,ga,?_⟩;refine Cz (base:=P.length+X.length) (n:=Y.length) (hint:=Y.length-1) I dY ?_ hka 'd' 'd' T D ?_
 ·exact t
 refine λm hm mt mf=>⟨m,rfl,λT3=>?_,λT3=>?_⟩
 ·refine q _ (X++Y) t N rfl (by show(qt st).toList=_;rw[d,a9]) (eH _) ?_;unfold qi;rw[bX];refine⟨C,D,λx h y c=>Le.trans (UC x h) ?_⟩;have:=mf y (by rw[T3];exact c);unfold tu at this;rw[qb rfl] at this;exact this
 have Tz:∀y∈Y.take m,Le κ y l:=λy h=>by
  have:=mt y h;unfold tu at this;rw[qb rfl] at this;exact Le.of this
 have TB:∀y∈Y.drop m,Le κ l y:=λy h=>by
  have:=mf y h;unfold tu at this;rw[qb rfl] at this;exact this
 have u:((qt st).extract (P.length+k) (P.length+X.length)).toList=X.drop k:=by
  simp only[lu,jP];rw[d,<- eF,nF,eZ uO];have:P.length+X.length-(P.length+k)=(X.drop k).length:=by rw[cB];lia
  rw[this,nG]
 have v:((qt st).extract (P.length+X.length) (P.length+X.length+m)).toList=Y.take m:=by
  rw[Jl];rw[<- dY,gz,gh hm]
 have szX:((qt st).extract (P.length+k) (P.length+X.length)).size=X.length-k:=by rw[<- az,u,cB]
 have szY:((qt st).extract (P.length+X.length) (P.length+X.length+m)).size=m:=by rw[<- az,v,cq];lia
 have H:∀(B:Array bd)(o:cg),oj (setPending st (((qx st).setIfInBounds i (P.length,X.length+Y.length,pw)).eraseIdxIfInBounds (i+1))) o->Out κ (X.drop k) (Y.take m) B.toList->Q (failedOf o).isNone (setArr o (lay (qt o) (P.length+k) B.toList)):=λB o p a=>by
  have TZ:B.toList.length=(X.length-k)+m:=by rw[a.perm.length_eq,aE,cB,cq];lia
  have C4:failedOf o=KF:=p.failed.trans N;rw[C4];have uD:qt o=qt st:=p.arr;refine q _ (X.take k++(B.toList++Y.drop m)) (p.kind.trans t) C4 p.pend ?_ ?_ ?_
  ·show(lay (qt o) (P.length+k) B.toList).toList=_;rw[uD,zhs (by rw[TZ,G];lia),d,TZ];have e1:(P++(X++(Y++R))).take (P.length+k)=P++X.take k:=by
    rw[List.take_append,cO 'd',ei,List.take_append_of_le_length uO]
   have e2:(P++(X++(Y++R))).drop (P.length+k+(X.length-k+m))=Y.drop m++R:=by
    have:P.length+k+(X.length-k+m)=(P++X).length+m:=by rw[aE];lia
    rw[this,<- a9,<- eF,nF,eZ hm]
   rw[e1,e2];simp
  ·conv=>rhs;rw[<- cw k X,<- cw m Y]
   rw[a9];refine fG _ ?_;rw[<- a9];exact a.perm.append_right _
  ·unfold qi;rw[bX,bX];have EU:∀z∈B.toList,z∈X.drop k\/z∈Y.take m:=λz hz=>aP.mp (a.perm.mem_iff.mp hz);refine⟨C.sublist (cK k X),⟨a.srt,D.sublist (dj m Y),λz hz y O=>?_⟩,λx J z hz=>?_⟩
   ·rcases EU z hz with h|h
    ·exact(UC z (de h)).trans (TB y O)
    ·exact(Tz z h).trans (TB y O)
   ·rcases aP.mp hz with hz|hz
    ·rcases EU z hz with h|h
     ·exact(Z x J).trans (TC z h)
     ·exact(Z x J).trans (V z (cD h))
    ·exact(Z x J).trans (V z (de hz))
 have p1:∀x∈((qt st).extract (P.length+k) (P.length+X.length)).toList,sT κ x:=by rw[u];exact λx h=>S x (de h)
 have p2:∀x∈((qt st).extract (P.length+X.length) (P.length+X.length+m)).toList,sT κ x:=by rw[v];exact λx h=>T x (cD h)
 have p3:qi κ ((qt st).extract (P.length+k) (P.length+X.length)).toList:=by rw[u];exact C.sublist (dj k X)
 have p4:qi κ ((qt st).extract (P.length+X.length) (P.length+X.length+m)).toList:=by rw[v];exact D.sublist (cK m Y)
 have p5:∀x∈((qt st).extract (P.length+X.length) (P.length+X.length+m)).toList.take 1,∀y∈((qt st).extract (P.length+k) (P.length+X.length)).toList,Le κ x y:=by
  rw[u,v,gz];intro x h y c;have:x=g:=by
   rw[gh 'd'] at h;have e:=Ae K;rw[k8] at e;rw[e] at h;simpa using h
  rw[this];exact TC y c
 have p6:∀y∈((qt st).extract (P.length+X.length) (P.length+X.length+m)).toList,∀x∈((qt st).extract (P.length+k) (P.length+X.length)).toList.drop (((qt st).extract (P.length+k) (P.length+X.length)).size-1),Le κ y x:=by
  rw[u,v,szX,eF];intro y h x c;have:k+(X.length-k-1)=X.length-1:=by lia
  rw[this] at c;have e:=Ae L;rw[cO (by rw[cB];lia)] at e;rw[e] at c;rw[dF.mp c];exact Tz y h
 by_cases hc:X.length-k<=m
 ·rw[qb hc];refine Wj I ?_ p1 p2 p3 p4 'd' 'd' p5 p6 λr b p a=>H r b p (by rw[u,v] at a;exact a);exact t
 ·rw[qq hc];refine WD I ?_ p1 p2 p3 p4 'd' 'd' p5 p6 λr b p a=>H r b p (by rw[u,v] at a;exact a);exact t
end
structure Rl(qY:cg)(lo:Nat)(st:cg):Prop where
 perm:(qt st).Perm (qt qY)
 kind:kindOf st=kindOf qY
 failed:failedOf st=failedOf qY
 pend:qx st=qx qY
 fix:∀i,i<lo->(qt st)[i]?=(qt qY)[i]?
def Rl.refl(st:cg)(lo:Nat):Rl st lo st:=⟨iY _,rfl,rfl,rfl,λ_ _=>rfl⟩
def Rl.size{a st:cg}{lo:Nat}(r:Rl a lo st):(qt st).size=(qt a).size:=r.perm.size_eq
def Rl.rev{a st:cg}{lo i j:Nat}(r:Rl a lo st)(h:lo<=i)(b:j<=(qt a).size):Rl a lo (setArr st (mirror (qt st) i j ((j-i)/2))):=by refine⟨(mirror_perm _ _ _ _).trans r.perm,r.kind,r.failed,r.pend,λk c=>?_⟩;show(mirror (qt st) i j ((j-i)/2))[k]?=_;rw[getElem?_mirror_all (by rw[r.size];exact b),qq 'd'];exact r.fix k c
section
variable{prog:aN}{w:aY}{A:ba}{E:ab->ag->Prop}{s:ag}{κ:a7}{qY st:cg}{lo:Nat}{kd:KT}
def Up(κ:a7)(xs:Array bd)(lo n:Nat):Prop:=∀i j,lo<=i->i<=j->j<lo+n->κ.kle (KK κ xs i) (KK κ xs j)
def Dn(κ:a7)(xs:Array bd)(lo n:Nat):Prop:=∀i j,lo<=i->i<=j->j<lo+n->κ.kle (KK κ xs j) (KK κ xs i)
def Ac(a:κ.α):κ.kle a a:=κ.irrefl a
def Up.step(h:Up κ xs lo n)(f:1<=n)(a:κ.kle (KK κ xs (lo+n-1)) (KK κ xs (lo+n))):Up κ xs lo (n+1):=λi j b c g=>by
 by_cases e:j=lo+n
 ·subst e;by_cases d:i=lo+n
  ·subst d;exact Ac _
  ·exact iE (h i (lo+n-1) b 'd' 'd') a
 ·exact h i j b c 'd'
def Dn.step(h:Dn κ xs lo n)(f:1<=n)(a:κ.kle (KK κ xs (lo+n)) (KK κ xs (lo+n-1))):Dn κ xs lo (n+1):=λi j b c g=>by
 by_cases e:j=lo+n
 ·subst e;by_cases d:i=lo+n
  ·subst d;exact Ac _
  ·exact iE a (h i (lo+n-1) b 'd' 'd')
 ·exact h i j b c 'd'
def Up.one(xs:Array bd):Up κ xs lo 1:=λi j c d e=>by
 have a:i=lo:=by lia
 have b:j=lo:=by lia
 rw[a,b];exact Ac _
def Dn.one(xs:Array bd):Dn κ xs lo 1:=λi j c d e=>by
 have a:i=lo:=by lia
 have b:j=lo:=by lia
 rw[a,b];exact Ac _
def DN(f:vd prog w A s κ kd)(a:∀x∈(qt qY).toList,sT κ x)(g:kindOf qY=kd)(r:Rl qY lo st)(b:i<(qt qY).size)(c:j<(qt qY).size)(q:Q (KB (κ.blt (KK κ (qt st) i) (KK κ (qt st) j))) st):wpS (av prog w) A E s (ltAt' i j) Q st:=by
 rw[<- r.size] at b c;obtain⟨x,d,h⟩:=v7 b;obtain⟨y,e,k⟩:=v7 c;have l:=a x ((dQ.mp r.perm).mem_iff.mp (aL h));have m:=a y ((dQ.mp r.perm).mem_iff.mp (aL k));have n:KK κ (qt st) i=ky κ x:=by unfold KK ky;rw[d]
 have o:KK κ (qt st) j=ky κ y:=by unfold KK ky;rw[e]
 rw[n,o] at q;rw[ltAt'_eq];exact aD (gR (aD (sD d (aD (sD e (DF f (r.kind.trans g) l m q))))))
def Up.rev(d:Dn κ xs lo m)(h:lo+m<=xs.size):Up κ (mirror xs lo (lo+m) ((lo+m-lo)/2)) lo m:=λi j a b c=>by
 rw[KK_mirror h,KK_mirror h,qb 'd',qb 'd'];exact d _ _ 'd' 'd' 'd'
set_option hygiene false in
local macro_rules|`(tactic| walk_at "asc")=>`(tactic| (
 refine aD (dN (cT (I:=λk c i_=>i_=qw/\∃ n,c=(none,n)/\n=k/\1<=n/\n<=nrem/\Up κ (arrOf qw) lo n) (Q:=λc i_=>i_=qw/\∃ n,c=(none,n)/\1<=n/\n<=nrem/\Up κ (arrOf qw) lo n/\(n=nrem\/κ.blt (KK κ (arrOf qw) (lo+n)) (KK κ (arrOf qw) (lo+n-1))=true)) ?_ ?_ ?_) ?_)
 ·rintro k c i_ h1 h2 ⟨rfl,n,rfl,rfl,g1,g2,g3⟩
  refine aD (DN (i:=lo+n) (j:=lo+n-1) ho hs hk r1 (by lia) (by lia) ?_)
  cases e:κ.blt (KK κ (arrOf i_) (lo+n)) (KK κ (arrOf i_) (lo+n-1)) with
  | true=>exact aK ⟨rfl,n,rfl,g1,g2,g3,.inr e⟩
  | false=>exact aK ⟨rfl,n+1,rfl,rfl,by lia,by lia,g3.step (by lia) e⟩
 ·rintro c i_ ⟨rfl,n,rfl,e,g1,g2,g3⟩
  exact⟨rfl,n,rfl,g1,g2,g3,.inl (by lia)⟩
 ·exact⟨rfl,_,rfl,rfl,Fh,TX,u1⟩))
set_option hygiene false in
local macro_rules|`(tactic| walk_at "fin")=>`(tactic| (
 refine aD (kI ?_)
 have r1:=r4.rev (i:=lo) (j:=lo+n0) (aF lo) (by lia)
 have u1:Up κ (arrOf (setArr qI (mirror (arrOf qI) lo (lo+n0) ((lo+n0-lo)/2)))) lo n0:=Up.rev d4 (by rw[r4.size];lia)
 generalize setArr qI (mirror (arrOf qI) lo (lo+n0) ((lo+n0-lo)/2))=qw at *
 walk_at "asc"
 ·rintro c i_ ⟨rfl,n,rfl,g1,g2,g3,_⟩
  exact aK (q n _ r1 g1 g2 g3)))
set_option hygiene false in
local macro_rules|`(tactic| walk_at "desc")=>`(tactic| (
 refine aD (je (c9 ⟨rfl,aD (dN (cT (I:=λk c i_=>Rl qY lo i_/\∃ n rM,c=(none,n,rM)/\n=k/\n<=nrem/\Dn κ (arrOf i_) lo n/\rM+1<=n/\(∀ i,lo+n-(rM+1)<=i->i<lo+n->KK κ (arrOf i_) i=KK κ (arrOf i_) (lo+n-1))) (Q:=λc i_=>Rl qY lo i_/\∃ n rM,c=(none,n,rM)/\n<=nrem/\Dn κ (arrOf i_) lo n/\rM+1<=n/\(∀ i,lo+n-(rM+1)<=i->i<lo+n->KK κ (arrOf i_) i=KK κ (arrOf i_) (lo+n-1))) ?_ ?_ ?_) ?_)⟩))
 ·rintro k c pN h1 h2 ⟨r3,n,rM,rfl,rfl,g2,g3,g4,g5⟩
  refine aD (DN (i:=lo+n) (j:=lo+n-1) ho hs hk r3 (by lia) (by lia) ?_)
  cases e:κ.blt (KK κ (arrOf pN) (lo+n)) (KK κ (arrOf pN) (lo+n-1)) with
  | true=>
   show wpS _ _ _ _ (if rM>0 then _ else _) _ pN
   by_cases hq:rM>0
   ·rw[if_pos hq]
    refine aD (kI (aK ⟨r3.rev (i:=lo+n-(rM+1)) (j:=lo+n) (by lia) (by lia),n+1,0,rfl,rfl,by lia,?_,by lia,?_⟩))
    ·have kk:=kr (κ:=κ) (xs:=arrOf pN) (i:=lo+n-(rM+1)) (j:=lo+n) (by rw[r3.size];lia) λk a b=>g5 k a b
     have d:Dn κ (mirror (arrOf pN) (lo+n-(rM+1)) (lo+n) ((lo+n-(lo+n-(rM+1)))/2)) lo n:=λi j a b c=>by rw[kk,kk];exact g3 i j a b c
     refine d.step (by lia) ?_
     rw[kk,kk]
     exact gm e
    ·intro i a b
     have:i=lo+(n+1)-1:=by lia
     rw[this]
   ·rw[if_neg hq]
    refine aK ⟨r3,n+1,0,rfl,rfl,by lia,g3.step (by lia) (gm e),by lia,?_⟩
    intro i a b
    have:i=lo+(n+1)-1:=by lia
    rw[this]
  | false=>
   refine aD (DN (i:=lo+n-1) (j:=lo+n) ho hs hk r3 (by lia) (by lia) ?_)
   cases e':κ.blt (KK κ (arrOf pN) (lo+n-1)) (KK κ (arrOf pN) (lo+n)) with
   | true=>exact aK ⟨r3,n,rM,rfl,g2,g3,g4,g5⟩
   | false=>
    have eq:KK κ (arrOf pN) (lo+n)=KK κ (arrOf pN) (lo+n-1):=κ.total _ _ e e'
    refine aK ⟨r3,n+1,rM+1,rfl,rfl,by lia,g3.step (by lia) e',by lia,?_⟩
    intro i a b
    have:lo+(n+1)-1=lo+n:=by lia
    rw[this]
    by_cases hi:i=lo+n
    ·rw[hi]
    ·rw[eq];exact g5 i (by lia) (by lia)
 ·rintro c pN ⟨r3,n,rM,rfl,e,g2,g3,g4,g5⟩
  exact⟨r3,n,rM,rfl,g2,g3,g4,g5⟩
 ·exact⟨r2,n1+1,0,rfl,rfl,by lia,d2,by lia,λi a b=>by
   have:i=lo+(n1+1)-1:=by lia
   rw[this]⟩
 ·rintro c pN ⟨r3,n0,rM,rfl,TX,g3,g4,g5⟩
  have Fh:1<=n0:=by lia
  show wpS _ _ _ _ (if rM>0 then _ else _) Q pN
  by_cases hq:rM>0
  ·rw[if_pos hq]
   refine aD (kI ?_)
   have r4:=r3.rev (i:=lo+n0-(rM+1)) (j:=lo+n0) (by lia) (by lia)
   have kk:=kr (κ:=κ) (xs:=arrOf pN) (i:=lo+n0-(rM+1)) (j:=lo+n0) (by rw[r3.size];lia) λk a b=>g5 k a b
   have d4:Dn κ (arrOf (setArr pN (mirror (arrOf pN) (lo+n0-(rM+1)) (lo+n0) ((lo+n0-(lo+n0-(rM+1)))/2)))) lo n0:=λi j a b c=>by
    show κ.kle (KK κ (mirror _ _ _ _) j) (KK κ (mirror _ _ _ _) i)
    rw[kk,kk];exact g3 i j a b c
   generalize setArr pN (mirror (arrOf pN) (lo+n0-(rM+1)) (lo+n0) ((lo+n0-(lo+n0-(rM+1)))/2))=qI at *
   walk_at "fin"
  ·rw[if_neg hq]
   have r4:=r3
   have d4:=g3
   generalize hst4:pN=qI at *
   walk_at "fin"))
def zfB(ho:vd prog w A s κ kd)(hs:∀x∈(qt qY).toList,sT κ x)(hk:kindOf qY=kd){nrem:Nat}(TX:1<=nrem)(hN:lo+nrem<=(qt qY).size){qw:cg}(r1:Rl qY lo qw){Q:Option Nat->cg->Prop}(q:∀m i_,Rl qY lo i_->1<=m->m<=nrem->Up κ (qt i_) lo m->Q (KB m) i_):wpS (av prog w) A E s (countRun' lo nrem) Q qw:=by
 rw[countRun'_eq];have u1:Up κ (qt qw) lo 1:=Up.one _;have Fh:1<=1:=aF _;walk_at "asc";rintro c i_ ⟨rfl,n1,rfl,g1,g2,g3,g4⟩;show wpS _ _ _ _ (if (n1==nrem)=KM then _ else _) Q i_;by_cases e0:n1=nrem
 ·rw[qb (by simpa using e0)];exact aK (q n1 i_ r1 g1 g2 g3)
 rw[qq (by simpa using e0)];have pW:κ.blt (KK κ (qt i_) (lo+n1)) (KK κ (qt i_) (lo+n1-1))=KM:=by
  rcases g4 with h|h
  ·exact absurd h e0
  ·exact h
 show wpS _ _ _ _ (if n1>1 then _ else _) Q i_;by_cases hc:n1>1
 ·rw[qb hc];refine aD (DN ho hs hk r1 'd' 'd' ?_);cases e:κ.blt (KK κ (qt i_) lo) (KK κ (qt i_) (lo+n1-1)) with
  |true=>exact aK (q n1 i_ r1 g1 g2 g3)
  | false=>
   refine aD (kI ?_);have r2:=r1.rev (i:=lo) (j:=lo+n1) (aF lo) 'd';have all:∀k,lo<=k->k<lo+n1->KK κ (qt i_) k=KK κ (qt i_) (lo+n1-1):=λk a b=>
    KeyOrd.kle_antisymm (g3 k (lo+n1-1) a 'd' 'd') (iE (show κ.kle (KK κ (qt i_) (lo+n1-1)) (KK κ (qt i_) lo) from e) (g3 lo k (aF _) a b))
   have kk:=kr (κ:=κ) (xs:=qt i_) (i:=lo) (j:=lo+n1) (by rw[r1.size];lia) all;have d2:Dn κ (qt (setArr i_ (mirror (qt i_) lo (lo+n1) ((lo+n1-lo)/2)))) lo (n1+1):=by
    show Dn κ (mirror (qt i_) lo (lo+n1) ((lo+n1-lo)/2)) lo (n1+1);refine Dn.step (λi j a b c=>?_) g1 ?_
    ·rw[kk,kk,all i a 'd',all j 'd' c];exact Ac _
    ·rw[kk,kk];exact gm pW
   generalize setArr i_ (mirror (qt i_) lo (lo+n1) ((lo+n1-lo)/2))=p9 at *;walk_at "desc"
 ·rw[qq hc];have r2:=r1;have d2:Dn κ (qt i_) lo (n1+1):=by
   have e1:n1=1:=by lia
   subst e1;exact Dn.step (Dn.one _) (aF _) (gm pW)
  generalize hst2:i_=p9 at *;walk_at "desc"
end
section
variable{prog:aN}{w:aY}{A:ba}{E:ab->ag->Prop}{s:ag}{κ:a7}{qY:cg}{lo:Nat}{kd:KT}
def X3(H:vd prog w A s κ kd)(J:∀x∈(qt qY).toList,sT κ x)(K:kindOf qY=kd)(L:1<=ok)(U:ok<=n)(V:lo+n<=(qt qY).size)(M:Rl qY lo qw)(N:Up κ (qt qw) lo ok)(q:∀f,Rl qY lo f->Up κ (qt f) lo n->Q KM f):wpS (av prog w) A E s (binarySort' lo n ok) Q qw:=by
 rw[binarySort'_eq];refine aD (dN (cT (I:=λk c f=>Rl qY lo f/\c=(KF,())/\1<=k/\Up κ (qt f) lo k) (Q:=λc f=>Rl qY lo f/\c=(KF,())/\Up κ (qt f) lo n) ?_ ?_ ?_) ?_)
 ·rintro k c g _ W ⟨h,rfl,O,m⟩;refine aD (dN (cT (I:=λj c f=>f=g/\∃l r,c=(KF,l,r)/\l<=r/\r<=k/\r-l<=k-j/\(∀i,i<l->κ.kle (KK κ (qt g) (lo+i)) (KK κ (qt g) (lo+k)))/\(∀i,r<=i->i<k->κ.blt (KK κ (qt g) (lo+k)) (KK κ (qt g) (lo+i))=KM)) (Q:=λc f=>f=g/\∃l,c=(KF,l,l)/\l<=k/\(∀i,i<l->κ.kle (KK κ (qt g) (lo+i)) (KK κ (qt g) (lo+k)))/\(∀i,l<=i->i<k->κ.blt (KK κ (qt g) (lo+k)) (KK κ (qt g) (lo+i))=KM)) ?_ ?_ ?_) ?_)
  ·rintro j c d _ X ⟨rfl,l,r,rfl,P,v,z,o,p⟩;show wpS _ _ _ _ (if l ≥ r then _ else _) _ d;by_cases B:l ≥ r
   ·rw[qb B];have:l=r:=by lia
    subst this;exact aK ⟨rfl,l,rfl,v,o,p⟩
   ·rw[qq B];refine aD (DN (i:=lo+k) (j:=lo+(l+r)/2) H J K h 'd' 'd' ?_);cases e:κ.blt (KK κ (qt d) (lo+k)) (KK κ (qt d) (lo+(l+r)/2)) with
    |true=>exact aK ⟨rfl,l,(l+r)/2,rfl,by lia,by lia,by lia,o,λi y R=>KeyOrd.klt_of_klt_of_kle e (m _ _ 'd' 'd' 'd')⟩
    |false=>exact aK ⟨rfl,(l+r)/2+1,r,rfl,by lia,by lia,by lia,λi y=>iE (m _ (lo+(l+r)/2) 'd' 'd' 'd') e,p⟩
  ·rintro c d ⟨rfl,l,r,rfl,P,v,z,o,p⟩;rw[dZ] at z;have:l=r:=by lia
   subst this;exact⟨rfl,l,rfl,v,o,p⟩
  ·exact⟨rfl,0,k,rfl,by lia,by lia,by lia,λi y=>by lia,λi L Y=>by lia⟩
  ·rintro c d ⟨rfl,l,rfl,v,o,p⟩;show wpS (av prog w) A E s (moveDown' (lo+k) (lo+l) >>= _) _ d;rw[moveDown'_eq];have t:lo+k<(qt d).size:=by rw[h.size];lia
   have Z:lo+k-(lo+l)=k-l:=by lia
   refine aD (fV (aK ⟨⟨(bubble_perm _ _ _).trans h.perm,h.kind,h.failed,h.pend,λi y=>?_⟩,rfl,by lia,?_⟩))
   ·show(bubble (qt d) (lo+k) (lo+k-(lo+l)))[i]?=_;rw[getElem?_bubble t _ 'd',qq 'd',qq 'd'];exact h.fix i y
   ·show Up κ (bubble (qt d) (lo+k) (lo+k-(lo+l))) lo (k+1);have C:∀x,KK κ (bubble (qt d) (lo+k) (lo+k-(lo+l))) x=if x=lo+l then KK κ (qt d) (lo+k) else if lo+l<x/\x<=lo+k then KK κ (qt d) (x-1) else KK κ (qt d) x:=λx=>by
     rw[KK_bubble t 'd'];have:lo+k-(lo+k-(lo+l))=lo+l:=by lia
     rw[this]
    have S:∀x,lo<=x->x<lo+l->κ.kle (KK κ (qt d) x) (KK κ (qt d) (lo+k)):=λx a b=>by
     have:=o (x-lo) 'd';rw[show lo+(x-lo)=x by lia] at this;exact this
    have T:∀x,lo+l<=x->x<lo+k->κ.kle (KK κ (qt d) (lo+k)) (KK κ (qt d) x):=λx a b=>by
     have:=p (x-lo) 'd' 'd';rw[show lo+(x-lo)=x by lia] at this;exact gm this
    intro i j a b c;rw[C i,C j];by_cases D:i=lo+l
    ·rw[qb D];by_cases u:j=lo+l
     ·rw[qb u];exact Ac _
     ·rw[qq u,qb 'd'];exact T (j-1) 'd' 'd'
    ·rw[qq D];by_cases F:lo+l<i/\i<=lo+k
     ·rw[qb F,qq 'd',qb 'd'];exact m _ _ 'd' 'd' 'd'
     ·rw[qq F];by_cases u:j=lo+l
      ·rw[qb u];exact S i a 'd'
      ·rw[qq u];by_cases G:lo+l<j/\j<=lo+k
       ·rw[qb G];exact m _ _ a 'd' 'd'
       ·rw[qq G];exact m _ _ a b 'd'
 ·rintro c g ⟨h,rfl,O,m⟩;rw[show max (max ok 1) n=n by lia] at m;exact⟨h,rfl,m⟩
 ·exact⟨M,rfl,by lia,by rw[show max ok 1=ok by lia];exact N⟩
 ·rintro c g ⟨h,rfl,m⟩;exact aK (q g h m)
end
def tX:Nat->List (List bd)->List (Nat×Nat)
 |_,[]=>[]
 |b,X::S=>(b,X.length)::tX (b+X.length) S
theorem G8:∀(S T:List (List bd))(b:Nat),tX b (S++T)=tX b S++tX (b+S.flatten.length) T
 |[],T,b=>by simp[tX]
 | X::S,T,b=>by
  rw[jW,tX,tX,jW,G8 S T,ik,aE,lI]
theorem Bb:∀(S:List (List bd))(b:Nat),(tX b S).length=S.length
 |[],_=>rfl
 |X::S,b=>by rw[tX,aS,Bb S,aS]
def se(t:Nat×Nat×Nat):Nat×Nat:=(t.1,t.2.1)
structure Pn(κ:a7)(kd:KT)(L0:List bd)(st:cg)(lo:Nat)(S:List (List bd))(R:List bd):Prop where
 arr:(qt st).toList=S.flatten++R
 lo:S.flatten.length=lo
 pend:(qx st).toList.map se=tX 0 S
 ne:∀X∈S,1<=X.length
 srt:∀X∈S,qi κ X
 kind:kindOf st=kd
 failed:failedOf st=KF
 perm:(qt st).toList.Perm L0
def Pn.size{κ:a7}{kd:KT}{a:List bd}{st:cg}{lo:Nat}{S:List (List bd)}{R:List bd}(h:Pn κ kd a st lo S R):(qx st).size=S.length:=by have:=congrArg kC h.pend;rw[ax,az,Bb] at this;exact this
theorem P7:∀(S:List (List bd)),(∀X∈S,1<=X.length)->S.length<=S.flatten.length
 |[],_=>by simp
 | X::S,h=>by
  rw[ik,aE,aS];have:=h X au;have:=P7 S λY a=>h Y (al _ a);lia
theorem QK{α:Type}:∀(S:List α)(i:Nat),i+1<S.length->∃a X Y b,S=a++X::Y::b/\a.length=i
 |[],i,h=>by simp at h
 |[_],i,h=>by simp at h
 |X::Y::S,0,_=>⟨[],X,Y,S,rfl,rfl⟩
 | X::Y::S,i+1,h=>by
  obtain⟨a,A,B,b,e,l⟩:=QK (Y::S) i (by simpa using h);exact⟨X::a,A,B,b,by rw[e];rfl,by simp[l]⟩
theorem RF{α a:Type}(f:α->a):∀(l:List α)(i:Nat),(l.eraseIdx i).map f=(l.map f).eraseIdx i
 |[],_=>rfl
 |_::_,0=>rfl
 |x::l,i+1=>by simp[RF f l i]
section
variable{prog:aN}{w:aY}{A:ba}{E:ab->ag->Prop}{s:ag}{κ:a7}{L0:List bd}{st:cg}{lo:Nat}{kd:KT}
def OE(I:vd prog w A s κ kd)(J:∀x∈L0,sT κ x)(p:Pn κ kd L0 st lo S R)(K:i+1<S.length)(q:∀g r,Pn κ kd L0 g lo r R->r.length+1=S.length->Q KM g):wpS (av prog w) A E s (mergeAt' i) Q st:=by
 obtain⟨c,X,Y,d,rfl,j⟩:=QK S i K;have l:=p.pend;rw[G8,tX,tX,d0] at l;have u:∀k a b,(tX 0 c++(c.flatten.length,X.length)::(c.flatten.length+X.length,Y.length)::tX (c.flatten.length+X.length+Y.length) d)[k]?=KB (a,b)->∃v,(qx st)[k]?=KB (a,b,v):=λk a b h=>by
  rw[<- l,a8] at h;have L:(qx st)[k]?=(qx st).toList[k]?:=by simp
  cases e:(qx st).toList[k]? with
  |none=>rw[e] at h;cases h
  | some t=>
   rw[e] at h;obtain⟨x,y,z⟩:=t;injection h with h;unfold se at h;injection h with h1 h2;dsimp only at h1 h2;exact⟨z,by rw[L,e,h1,h2]⟩
 obtain⟨v,B⟩:=u i c.flatten.length X.length (by rw[bo (by rw[Bb];lia),Bb,j,iX];rfl);obtain⟨W,C⟩:=u (i+1) (c.flatten.length+X.length) Y.length (by rw[bo (by rw[Bb];lia),Bb,j,ei];rfl);have m:(qt st).toList=c.flatten++(X++(Y++(d.flatten++R))):=by rw[p.arr];simp
 have n:X∈c++X::Y::d:=by simp
 have D:Y∈c++X::Y::d:=by simp
 refine V4 I p.kind p.failed m B C (p.ne X n) (p.ne Y D) (p.srt X n) (p.srt Y D) (λx N=>J x (p.perm.mem_iff.mp (by
   rw[m];rcases aP.mp N with h|h<;>simp[h]))) λg M O P T F G U=>?_
 have o:M.length=X.length+Y.length:=by rw[G.length_eq,aE]
 refine q g (c++M::d) ⟨?_,?_,?_,?_,?_,O,P,?_⟩ (by simp;lia)
 ·rw[F];simp
 ·rw[<- p.lo];simp[o];lia
 ·rw[T,G8,tX,d0,o];have H9:i<(qx st).size:=(jB.mp B).1;have V:i+1<(qx st).size:=(jB.mp C).1;rw[Array.eraseIdxIfInBounds,dif_pos (by rw[jY];exact V),Array.toList_eraseIdx,jA,RF,List.map_set,l];have H:(tX 0 c).length=i:=by rw[Bb,j]
  rw[iJ _ _ 'd',H,iX,dg,List.eraseIdx_append_of_length_le 'd',H,ei];show _++(_::tX _ d)=_;rw[lI];rfl
 ·intro Z f;simp only[aP,aq] at f;rcases f with h|rfl|h
  ·exact p.ne Z (by simp[h])
  ·rw[o];have:=p.ne X n;lia
  ·exact p.ne Z (by simp[h])
 ·intro Z f;simp only[aP,aq] at f;rcases f with h|rfl|h
  ·exact p.srt Z (by simp[h])
  ·exact U
  ·exact p.srt Z (by simp[h])
 ·rw[F];refine List.Perm.trans ?_ p.perm;rw[m];refine fG _ ?_;rw[<- a9 X];exact G.append_right _
end
section
variable{prog:aN}{w:aY}{A:ba}{E:ab->ag->Prop}{s:ag}{κ:a7}{L0:List bd}{st:cg}{lo:Nat}{kd:KT}
def Xo(u:Up κ xs lo m)(h:lo+m<=xs.size):qi κ ((xs.toList.drop lo).take m):=by
 unfold qi;rw[di];intro i j b c d;rw[cq,cB,az] at b c;have a:∀k,k<m->∀(a:k<((xs.toList.drop lo).take m).length),ky κ ((xs.toList.drop lo).take m)[k]=KK κ xs (lo+k):=λk e a=>by
  rw[mE,mF];unfold KK ky;rw[fW,aU 'd']
 unfold Le;rw[a i 'd',a j 'd'];exact u _ _ 'd' 'd' 'd'
def Pn.run(p:Pn κ kd L0 st lo S R)(r:Rl st lo i_)(h:lo+m<=(qt st).size)(u:Up κ (qt i_) lo m):∃c,Pn κ kd L0 i_ lo S c/\c.length=R.length/\qi κ (c.take m):=by
 have d:=p.lo;have a:=r.size;have b:(qt i_).toList.length=lo+R.length:=by rw[az,a,<- az,p.arr,aE,d]
 have f:(qt i_).toList.take lo=S.flatten:=by
  have e:(qt st).toList.take lo=S.flatten:=by rw[p.arr,<- d,nG]
  rw[<- e];apply jJ;intro i;by_cases g:i<lo
  ·rw[f7 g,f7 g,dB,dB];exact r.fix i g
  ·rw[jC 'd',jC 'd']
 have j:(qt i_).toList=S.flatten++(qt i_).toList.drop lo:=by
  conv=>lhs;rw[<- cw lo (qt i_).toList]
  rw[f]
 refine⟨(qt i_).toList.drop lo,⟨j,d,by rw[r.pend];exact p.pend,p.ne,p.srt,r.kind.trans p.kind,r.failed.trans p.failed,(dQ.mp r.perm).trans p.perm⟩,by rw[cB,b];lia,?_⟩;exact Xo u (by rw[a];exact h)
def Pn.push(p:Pn κ kd L0 st lo S R)(c:1<=m)(e:m<=R.length)(d:qi κ (R.take m)):Pn κ kd L0 (setPending st ((qx st).push (lo,m,pw))) (lo+m) (S++[R.take m]) (R.drop m):=by
 have a:(R.take m).length=m:=by rw[cq];lia
 refine⟨?_,?_,?_,?_,?_,p.kind,p.failed,p.perm⟩
 ·show(qt st).toList=_;rw[p.arr];simp
 ·rw[List.flatten_append,aE,p.lo];show lo+(R.take m++[]).length=_;rw[bC,a]
 ·show((qx st).push (lo,m,pw)).toList.map se=_;rw[eU,dE,p.pend,G8,p.lo,d0,tX,tX,a];rfl
 ·intro X b;rcases aP.mp b with h|h
  ·exact p.ne X h
  ·rw[dF.mp h,a];exact c
 ·intro X b;rcases aP.mp b with h|h
  ·exact p.srt X h
  ·rw[dF.mp h];exact d
theorem R_{α a:Type}(f:α->a)(g:α->α)(h:∀x,f (g x)=f x):∀(l:List α)(i:Nat),(l.modify i g).map f=l.map f
 |[],_=>by simp
 |x::l,0=>by simp[h]
 |x::l,i+1=>by simp[R_ f g h l i]
def Pn.power(p:Pn κ kd L0 st lo S R)(a:∀x,se (g x)=se x)(i:Nat):Pn κ kd L0 (setPending st ((qx st).modify i g)) lo S R:=by refine⟨p.arr,p.lo,?_,p.ne,p.srt,p.kind,p.failed,p.perm⟩;show((qx st).modify i g).toList.map se=_;rw[Array.toList_modify,R_ se g a,p.pend]
def Xn(h:qi κ xs.toList):jq κ xs xs.size:=λi j d a=>by
 by_cases e:i=j
 ·subst e;exact Ac _
 have b:KK κ xs i=ky κ xs[i]:=by unfold KK ky;rw[aU 'd']
 have c:KK κ xs j=ky κ xs[j]:=by unfold KK ky;rw[aU a]
 rw[b,c];have:=di.mp h i j (by rw[az];lia) (by rw[az];lia) 'd';rw[fW,fW] at this;exact this
set_option hygiene false in
local macro_rules|`(tactic| walk_at "jp")=>`(tactic| (
 refine aD (gR ?_)
 cases hb:(pendingOf pN).back? with
 | none=>exact aD (fV (aK ⟨lo+m,_,_,rfl,p3.push L8 L7 s3,by lia⟩))
 | some t=>
  obtain⟨s1,n1',pw0⟩:=t
  refine aD (dN (cT (I:=λj c i_=>c=(none,())/\∃ S',Pn κ kd a₀.toList i_ lo S' R3) (Q:=λc i_=>c=(none,())/\∃ S',Pn κ kd a₀.toList i_ lo S' R3) ?_ ?_ ?_) ?_)
  ·rintro j c qI _ _ ⟨rfl,S',p4⟩
   refine aD (gR ?_)
   show wpS _ _ _ _ (match (if (pendingOf qI).size>1 then (pendingOf qI)[(pendingOf qI).size-2]? else none) with|some (fst,fst_1,Ar)=>_|x=>_) _ qI
   cases ht:(if (pendingOf qI).size>1 then (pendingOf qI)[(pendingOf qI).size-2]? else none) with
   | none=>exact aK ⟨rfl,S',p4⟩
   | some t=>
    obtain⟨x,y,Ar⟩:=t
    have hz:(pendingOf qI).size>1:=by
     by_cases hz:(pendingOf qI).size>1
     ·exact hz
     ·rw[if_neg hz] at ht;cases ht
    show wpS _ _ _ _ (if Ar<=_ then _ else _) _ qI
    split
    ·exact aK ⟨rfl,S',p4⟩
    ·exact aD (OE ho has p4 (by rw[p4.size] at *;lia) λHK S5 p5 _=>aK ⟨rfl,S5,p5⟩)
  ·rintro c qI h;exact h
  ·exact⟨rfl,S,p3⟩
  ·rintro c qI ⟨rfl,S',p4⟩
   refine aD (fV (aD (fV (aK ⟨lo+m,_,_,rfl,Pn.push (Pn.power p4 ?_ _) L8 L7 s3,by lia⟩))))
   rintro⟨a,b,c⟩
   rfl))
set_option maxHeartbeats 0 in
def QA(ho:vd prog w A s κ kd)(hs:i7 κ a₀)(bp:(qt st).Perm a₀)(bk:kindOf st=kd)(bf:failedOf st=KF)(bn:qx st = #[])(q:∀i_,(qt i_).Perm a₀->failedOf i_=KF->jq κ (qt i_) a₀.size->Q () i_):wpS (av prog w) A E s sortRuns' Q st:=by
 have has:∀x∈a₀.toList,sT κ x:=hs;have p0:Pn κ kd a₀.toList st 0 [] (qt st).toList:=⟨rfl,rfl,by rw[bn];rfl,by simp,by simp,bk,bf,dQ.mp bp⟩;have hN:(qt st).size=a₀.size:=bp.size_eq;rw[sortRuns'_eq];refine aD (gR ?_);show wpS _ _ _ _ (forIn [:(qt st).size] (KF,0) _ >>= _) Q st;rw[hN];refine aD (dN (cT (I:=λk c i_=>∃lo S R,c=(KF,lo)/\Pn κ kd a₀.toList i_ lo S R/\k<=lo) (Q:=λc i_=>∃lo S R,c=(KF,lo)/\Pn κ kd a₀.toList i_ lo S R/\a₀.size<=lo) ?_ ?_ ?_) ?_)
 ·rintro k c qw _ hk ⟨lo,S,R,rfl,p,BD⟩;have hlen:lo+R.length=a₀.size:=by
   have:=p.perm.length_eq;rw[p.arr,aE,p.lo,az] at this;exact this
  have hsz:(qt qw).size=a₀.size:=by rw[<- az,p.perm.length_eq,az]
  show wpS _ _ _ _ (if lo ≥ _ then _ else _) _ qw;by_cases hc:lo ≥ a₀.size
  ·rw[qb (by first|exact hc|(rw[hN];exact hc))];exact aK ⟨lo,S,R,rfl,p,hc⟩
  rw[qq (by first|exact hc|(rw[hN];exact hc))];have FF:∀x∈(qt qw).toList,sT κ x:=λx hx=>has x (p.perm.mem_iff.mp hx);refine aD (zfB (lo:=lo) (nrem:=a₀.size-lo) ho FF p.kind 'd' 'd' (Rl.refl qw lo) λn p9 r2 n1 n2 u2=>?_);show wpS _ _ _ _ (if n<minRun' a₀.size a₀.size 0 then _ else _) _ p9;by_cases hm:n<minRun' a₀.size a₀.size 0
  ·rw[qb hm];refine aD (je (c9 ⟨rfl,aD (X3 (lo:=lo) (n:=min (a₀.size-lo) (minRun' a₀.size a₀.size 0)) (ok:=n) ho FF p.kind n1 'd' 'd' r2 u2 λpN r3 u3=>?_)⟩));obtain⟨R3,p3,l3,s3⟩:=p.run r3 'd' u3;have L8:1<=min (a₀.size-lo) (minRun' a₀.size a₀.size 0):=by lia
   have L7:min (a₀.size-lo) (minRun' a₀.size a₀.size 0)<=R3.length:=by lia
   generalize min (a₀.size-lo) (minRun' a₀.size a₀.size 0)=m at *;walk_at "jp"
  ·rw[qq hm];obtain⟨R3,p3,l3,s3⟩:=p.run r2 'd' u2;have L8:1<=n:=n1;have L7:n<=R3.length:=by lia
   generalize E3:p9=pN at *;generalize hmn:n=m at *;walk_at "jp"
 ·rintro c qw ⟨lo,S,R,rfl,p,BD⟩;exact⟨lo,S,R,rfl,p,by rw[dZ] at BD;exact BD⟩
 ·exact⟨0,[],_,rfl,p0,aF _⟩
 ·rintro c qw ⟨lo,S,R,rfl,p,BD⟩;have hR:R=[]:=by
   have h:=p.perm.length_eq;rw[p.arr,aE,p.lo] at h;have h2:a₀.toList.length=a₀.size:=az;exact dI.mp 'd'
  refine aD (dN (cT (I:=λk c i_=>c=(KF,())/\∃S,Pn κ kd a₀.toList i_ lo S R/\S.length<=a₀.size-k) (Q:=λc i_=>c=(KF,())/\∃S,Pn κ kd a₀.toList i_ lo S R/\S.length<=1) ?_ ?_ ?_) ?_)
  ·rintro k c p9 _ hk ⟨rfl,S',p2,hS⟩;refine aD (gR ?_);show wpS _ _ _ _ (if (qx p9).size<=1 then _ else _) _ p9;by_cases hc:(qx p9).size<=1
   ·rw[qb hc];exact aK ⟨rfl,S',p2,by rw[<- p2.size];exact hc⟩
   ·rw[qq hc];have hsz:=p2.size;refine aD (OE ho has p2 ?_ λpN S3 p3 h3=>aK ⟨rfl,S3,p3,by lia⟩)
    repeat' split
    all_goals lia
  ·rintro c p9 ⟨rfl,S',p2,hS⟩;exact⟨rfl,S',p2,by rw[dZ] at hS;lia⟩
  ·refine⟨rfl,S,p,?_⟩;have h1:=P7 S p.ne;have h:=p.perm.length_eq;rw[p.arr,aE] at h;have h2:a₀.toList.length=a₀.size:=az;lia
  ·rintro c p9 ⟨rfl,S',p2,hS⟩;have uD:=p2.arr;rw[hR,bC] at uD;have hsz:(qt p9).size=a₀.size:=by rw[<- az,p2.perm.length_eq,az]
   refine aK (q p9 (dQ.mpr p2.perm) p2.failed ?_);rw[<- hsz];apply Xn;rw[uD]
   match S',hS with
   |[],_=>exact eS
   |[X],_=>rw[ik,List.flatten_nil,bC];exact p2.srt X au
end
def list_sort_big(m:κ.OneLt)(g:s.heap.get? a=KB (seqObj "list" vs.toArray n))(o:i7 κ (pairsOf vs))(p:∀r t b,vs=r::t::b->keyKind' (r::t::b).toArray=pure oneType')
  (u:vs.length<=4000000) (q:∀c:cg,(qt c).Perm (pairsOf vs)->jq κ (qt c) (pairsOf vs).size->P (Fin.done (Flow.ret gD)) { heap:=sortedHeap s.heap a vs (gC (λx=>x.snd) (qt c)),gens:=s.gens,drawn:=s.drawn,toks:=s.toks,os:=s.os }):am (av prog w) A (dH.«list.sort» { pos:=[fx a] }) P E s:=by
 by_cases v:vs.length<64
 ·exact list_sort_treeK m g o p v q
 rw[list_sort_plain];have y:(4000000:Nat)<=qN:=by decide
 obtain⟨v1,d,b,rfl⟩:∃v1 d b,vs=v1::d::b:=by
  match vs,v with
  |[],h=>exact absurd (by show 0<64;decide) h
  |[_],h=>exact absurd (by show 1<64;decide) h
  |v1::d::b,_=>exact⟨v1,d,b,rfl⟩
 generalize k:v1::d::b=vs at *;have z:=bJ (br λ_=>#[]) g rfl;have B:=af (seqObj "list" #[] 0) (af (seqObj "tuple" vs.toArray 0) z);refine aa (iZ g rfl (aa (ix g rfl (aa (jk z rfl (aa (ic (aa (gN (bz ?_) 'u')) (by simpa using aM u y))))) (by simpa using aM u y) (by show 0<=qN+1;lia))));have f:¬ vs.toArray.size<2:=by rw[aH];lia
 show am (av prog w) A (if vs.toArray.size<2 then _ else _) P E _;rw[qq f,<- k,p v1 d b k.symm,k];refine aa (ah ?_);rw[qq f];show am (av prog w) A (sortRuns'.run (lz oneType' (vs.toArray.zip vs.toArray) #[] 7 KF) >>= _) P E { heap:=((s.heap.update a (br λx=>#[])).push (seqObj "tuple" vs.toArray 0)).push (seqObj "list" #[] 0),gens:=s.gens,drawn:=s.drawn,toks:=s.toks,os:=s.os };refine aa (cG (QA (Q:=λ_ c=>(qt c).Perm (pairsOf vs)/\failedOf c=KF/\jq κ (qt c) (pairsOf vs).size) (vd.one m) (a₀:=pairsOf vs) o (iY _) rfl rfl rfl λc i j l=>⟨i,j,l⟩) ?_ λ_ _ h=>h);rintro⟨_,c⟩ C ⟨rfl,i,j,l⟩;have D:(gC (λx=>x.snd) (qt c)).size<=4000000:=by
  rw[k9,i.size_eq];show(vs.toArray.zip vs.toArray).size<=_;rw[nH,aH];lia
 refine aa (jk B rfl (aa (ix B rfl ?_ (by show 0<=qN;lia) (by show(gC _ _).size<=qN+1;lia))));dsimp only at j;show am (av prog w) A (match failedOf c with|some e=>_|x=>_) P E _;rw[j];show am (av prog w) A (if ((if _ then n else n+1) !=(if _ then n else n+1))=KM then _ else _) P E _;rw[qq 'k'];exact ah (q c i l)
def Cj:ab->Option (List Nat)
 |.str x _=>KB x.cps.toList
 |_=>KF
def allS:List ab->Option (List (List Nat))
 |[]=>KB []
 | v::vs=>match Cj v,allS vs with
  |some a,KB r=>KB (a::r)
  |_,_=>KF
def zT(h:aX):ab->Option (List (List Nat))
 | .ref t=>match h.get? t with
  | some o=>match o.data with
   |.seq h_ _=>allS h_.toList
   |_=>KF
  |none=>KF
 |_=>KF
def llt_irrefl(a:List (List Nat)):¬ a<a:=fZ a
def llt_trans{a b c:List (List Nat)}(d:a<b)(e:b<c):a<c:=iy d e
def llt_total{a b:List (List Nat)}(c:¬ a<b)(d:¬ b<a):a=b:=jZ (iu.mp d) (iu.mp c)
def Aa(h:aX):a7 where
 α:=List (List Nat)
 blt:=λa b=>decide (a<b)
 irrefl:=λa=>decide_eq_false (llt_irrefl a)
 trans:=λa b c h1 h2=>decide_eq_true (llt_trans (of_decide_eq_true h1) (of_decide_eq_true h2))
 negTrans:=λa b c h=>by
  by_cases h1:a<b
  ·exact .inl (decide_eq_true h1)
  ·right;have hac:=of_decide_eq_true h;by_cases h2:b<a
   ·exact decide_eq_true (llt_trans h2 hac)
   ·rw[<- llt_total h1 h2];exact h
 total:=λa b h1 h2=>llt_total (of_decide_eq_false h1) (of_decide_eq_false h2)
 keyOf:=zT h
 dflt:=[]
def yG:List (List Nat)->List (List Nat)->Option Bool
 |a::as,b::bs=>if a=b then yG as bs else KB (decide (a<b))
 |_,_=>KF
theorem Pb:∀c d:List (List Nat),(match yG c d with|some r=>r|none=>decide (c.length<d.length))=decide (c<d)
 |[],[]=>by simp[yG]
 |[],b::d=>by simp[yG]
 |a::c,[]=>by simp[yG]
 | a::c,b::d=>by
  unfold yG;by_cases e:a=b
  ·subst e;rw[qb rfl];have:=Pb c d;rw[aS,aS];have f:decide (c.length+1<d.length+1)=decide (c.length<d.length):=by simp
   rw[f,this];simp[lc]
  ·rw[qq e];show decide (a<b)=_;simp[lc,e]
theorem RD
  (l:∀x y i a b{Q:ForInStep (Option Bool×Unit)->ag->Prop},Cj x=KB a->Cj y=KB b->Q (if a=b then .yield (KF,()) else .done (KB (decide (a<b)),())) s->am M A (f ((x,y),i) (KF,())) Q E s):
  ∀(xs c:List ab)(as bs:List (List Nat))(j:Nat){Q:Option Bool×Unit->ag->Prop},allS xs=KB as->allS c=KB bs->Q (yG as bs,()) s->am M A (forIn ((xs.zip c).zipIdx j) (KF,()) f) Q E s
 | [],c,as,bs,j,Q,h1,h2,q=>by
  cases h1;exact ah (by cases bs<;>exact q)
 | x::xs,[],as,bs,j,Q,h1,h2,q=>by
  cases h2;exact ah (by cases as<;>exact q)
 | x::xs,y::c,as,bs,j,Q,h1,h2,q=>by
  unfold allS at h1 h2;split at h1
  ·rename_i a d m g;split at h2
   ·rename_i b h n k;cases h1;cases h2;rw[jr,iB,gg];refine aa (l x y j a b m n ?_);unfold yG at q;by_cases e:a=b
    ·rw[qb e] at q ⊢;exact RD l xs c d h (j+1) g k q
    ·rw[qq e] at q ⊢;exact ah q
   ·cases h2
  ·cases h1
theorem Pf{M:iP}{A:ba}{E:ab->ag->Prop}{s:ag}{α a:Type}{f:α->Sem a}(g:α->a):∀(l:List α){Q:List a->ag->Prop},(∀v∈l,∀(b:a->ag->Prop),b (g v) s->am M A (f v) b E s)->Q (l.map g) s->am M A (List.mapM f l) Q E s
 |[],Q,_,q=>by rw[List.mapM_nil];exact ah q
 | v::l,Q,h,q=>by
  rw[List.mapM_cons];exact aa (h v au _ (aa (Pf g l (λu c=>h u (al _ c)) (ah q))))
def P9{M:iP}{A:ba}{E:ab->ag->Prop}{s:ag}{α a:Type}{f:α->Sem a}(g:α->a)(l:List α){Q:Array a->ag->Prop}(h:∀v∈l,∀(b:a->ag->Prop),b (g v) s->am M A (f v) b E s)(q:Q (l.map g).toArray s):am M A (Array.mapM f l.toArray) Q E s:=by rw[Array.mapM_eq_mapM_toList];refine aa (Pf g l h (ah q))
section
variable{prog:aN}{w:aY}{A:ba}{E:ab->ag->Prop}{s:ag}
def DD(h:Cj v=KB a):∃x t,v=.str x t/\x.cps.toList=a:=by
 cases v with
 |str x t=>exact⟨x,t,rfl,by cases h;rfl⟩
 |_=>cases h
def Xr(c:Cj x=KB a)(d:Cj y=KB b)(q:Q (decide (a<b)) s):am (av prog w) A (oneLt' o x y) Q E s:=by
 obtain⟨x,t,rfl,rfl⟩:=DD c;obtain⟨y,u,rfl,rfl⟩:=DD d;cases o with
 |true=>exact lJ prog w A E s _ _ _ _ rfl rfl q
 | false=>
  rw[oneLt'_eq,qq 'u'];refine aa (show am (av prog w) A (cm CmpOp.Lt _ _) _ E s from P.lt_str ?_);exact ah q
structure TupS(h:aX)(v:ab)(ks:List (List Nat)):Prop where
 ok:∃t o h_ c,v=.ref t/\h.get? t=KB o/\o.cls=.type "tuple"/\o.data=.seq h_ c/\allS h_.toList=KB ks
noncomputable def A2(h:aX)(v:ab):Option ab:=match v with
 | .ref t=>match h.get? t with
  | some o=>match o.data with
   |.seq h_ _=>h_[0]?
   |_=>KF
  |none=>KF
 |_=>KF
def QG(g:h.get? t=KB o)(a:o.data=.seq h_ c):A2 h (.ref t)=h_[0]?:=by show(match h.get? t with|some o=>(match o.data with|.seq h_ _=>h_[0]?|_=>KF)|none=>KF)=_;rw[g];dsimp only;rw[a]
def OL(e:zT h v=KB ks):∃t o a c,v=.ref t/\h.get? t=KB o/\o.data=.seq a c/\allS a.toList=KB ks:=by
 cases v with
 | ref t=>
  unfold zT at e;dsimp only at e;cases g:h.get? t with
  |none=>rw[g] at e;cases e
  | some o=>
   rw[g] at e;dsimp only at e;cases b:o.data with
   |seq a c=>rw[b] at e;exact⟨t,o,a,c,rfl,g,b,e⟩
   |_=>rw[b] at e;cases e
 |_=>cases e
def Ky(ok:TupS h v ks)(d:ks≠[]):∃x tk,A2 h v=KB (.str x tk):=by
 obtain⟨t,o,f,c,rfl,g,k,i,b⟩:=ok;rw[QG g i,<- dB];cases e:f.toList with
 |nil=>rw[e] at b;cases b;exact absurd rfl d
 | cons x r=>
  rw[e] at b;unfold allS at b;split at b
  ·rename_i a l j m;obtain⟨y,tk,rfl,_⟩:=DD j;exact⟨y,tk,rfl⟩
  ·cases b
theorem J7:∀{l:List ab}{ks:List (List Nat)},allS l=KB ks->l.length=ks.length
 |[],ks,h=>by cases h;rfl
 | v::l,ks,h=>by
  unfold allS at h;split at h
  ·rename_i a r c b;cases h;rw[aS,aS,J7 b]
  ·cases h
def zaC{vs:List ab}(S:2<=vs.length)(j:∀v∈vs,∃k,TupS s.heap v k/\k≠[]){Q:KT->ag->Prop}(q:∀kd:KT,vd prog w A s (Aa s.heap) kd->Q kd s):am (av prog w) A (keyKind' vs.toArray) Q E s:=by
 show am (av prog w) A (_ >>= _) Q E s;refine aa (P9 (A2 s.heap) vs (λv f l I=>?_) ?_)
 ·obtain⟨k,⟨t,o,T,c,rfl,g,U,K,ha⟩,m⟩:=j v f;show am (av prog w) A (typeOf (.ref t) >>= _) l E s;refine aa (wpAny_typeOf_ref g ?_);rw[U];show am (av prog w) A (kJ (.ref t) >>= _) l E s;refine aa (iZ g K (ah ?_));rw[<- QG g K];exact I
 ·have V:((vs.map (A2 s.heap)).toArray.all λx=>x.isSome)=KM:=by
   rw[mT,ak];intro x d;obtain⟨v,f,rfl⟩:=aB.mp d;obtain⟨k,C,m⟩:=j v f;obtain⟨y,n,e⟩:=Ky C m;rw[e];rfl
  rw[qb V];refine aa (c9 ?_);have W:∀u∈(vs.map (A2 s.heap)).filterMap id,∃y n,u=.str y n:=λu X=>by
   obtain⟨x,d,e⟩:=gZ.mp X;obtain⟨v,f,rfl⟩:=aB.mp d;obtain⟨k,C,m⟩:=j v f;obtain⟨y,n,D⟩:=Ky C m;rw[D] at e;injection e with e;exact⟨y,n,e.symm⟩
  have F:(vs.map (A2 s.heap)).filterMap id≠[]:=by
   match vs,S,j with
   | v::_,_,j=>
    obtain⟨k,C,m⟩:=j v au;obtain⟨y,n,D⟩:=Ky C m;rw[bH,D];simp
  rw[List.filterMap_toArray];generalize (vs.map (A2 s.heap)).filterMap id=p at *;refine aa ?_;show am (av prog w) A (Array.mapM typeOf p.toArray >>= _) _ E s;refine aa (P9 (λ_=>fo "str") p (λv f l I=>?_) ?_)
  ·obtain⟨y,n,rfl⟩:=W v f;exact ah I
  ·have Y:((p.map λ_=>fo "str").toArray)[0]?=KB (fo "str"):=by
    cases p with
    |nil=>exact absurd rfl F
    |cons _ _=>rfl
   rw[Y];have J:((p.map λ_=>fo "str").toArray.all λx=>x==fo "str")=KM:=by
    rw[mT,ak];intro x d;obtain⟨_,_,rfl⟩:=aB.mp d;rfl
   show am (av prog w) A (pure (if ((p.map λ_=>fo "str").toArray.all λx=>x==fo "str")=KM then KB (fo "str") else KF)) _ E s;rw[J];refine ah (ah (q _ ?_));intro x y L l d z B;obtain⟨(G:List (List Nat)),d⟩:=d;obtain⟨(H:List (List Nat)),z⟩:=z;have Z:ky (Aa s.heap) x=G:=by unfold ky;rw[d];rfl
   have eb:ky (Aa s.heap) y=H:=by unfold ky;rw[z];rfl
   rw[Z,eb] at B;obtain⟨t,o,T,c,J,g1,d1,M⟩:=OL d;obtain⟨t2,o2,sO,c2,D,g2,d2,N⟩:=OL z;rw[J,D];show am (av prog w) A (kJ (.ref t) >>= _) l L s;refine aa (iZ g1 d1 (aa (iZ g2 d2 (aa (RD ?_ _ _ G H 0 M N ?_)))))
   ·intro x y i a b Q d z q;obtain⟨x,t,rfl,rfl⟩:=DD d;obtain⟨y,u,rfl,rfl⟩:=DD z;show am (av prog w) A (eqBool (.str x t) (.str y u) >>= _) Q L s;refine aa (wpAny_eqBool_str ?_);by_cases e:x=y
    ·subst e;rw[qb rfl] at q;rw[decide_eq_true rfl];exact ah q
    ·have ne:x.cps.toList≠y.cps.toList:=λh=>e (by
      cases x;cases y;dsimp only at h;rw[mU.mp h])
     rw[qq ne] at q;rw[decide_eq_false e];exact aa (Xr rfl rfl (ah q))
   ·have O:=J7 M;have P:=J7 N;rw[az] at O P;have R:=Pb G H;rw[<- O,<- P] at R
    replace B:l (decide (G<H)) s:=B
    rw[<- R] at B;generalize yG G H=r at *;cases r with
    |none=>exact ah B
    |some r=>exact ah B
end
def keyT(h:aX)(v:ab):List (List Nat):=(zT h v).getD []
def Rk(h:p∈(pairsOf vs).toList):p.1=p.2/\p.1∈vs:=by
 have e:(pairsOf vs).toList=vs.zip vs:=by simp[pairsOf]
 rw[e] at h;have a:vs.zip vs=vs.map λv=>(v,v):=by
  clear h e
  induction vs with
  |nil=>rfl
  |cons v r ih=>rw[jr,ih];rfl
 rw[a] at h;obtain⟨v,b,rfl⟩:=aB.mp h;exact⟨rfl,b⟩
def zdh(vs:List ab):(pairsOf vs).toList.map (λx=>x.2)=vs:=by
 have e:(pairsOf vs).toList=vs.zip vs:=by simp[pairsOf]
 rw[e]
 induction vs with
 |nil=>rfl
 |cons v r ih=>rw[jr,bH,ih (by simp[pairsOf])]
def z73(F:s.heap.get? a=KB (seqObj "list" vs.toArray n))(hv:∀v∈vs,∃f,TupS s.heap v f/\(2<=vs.length->f≠[]))(S:vs.length<=4000000)
  (q:∀d:Array ab,d.toList.Perm vs->d.toList.Pairwise (λx y=>¬ keyT s.heap y<keyT s.heap x)->P (Fin.done (Flow.ret gD)) { heap:=sortedHeap s.heap a vs d,gens:=s.gens,drawn:=s.drawn,toks:=s.toks,os:=s.os }):am (av prog w) A (dH.«list.sort» { pos:=[fx a] }) P E s:=by
 rw[list_sort_plain];have T:(4000000:Nat)<=qN:=by decide
 have U:=bJ (br λ_=>#[]) F rfl;have G:=af (seqObj "list" #[] 0) (af (seqObj "tuple" vs.toArray 0) U);have l:∀v∈vs,∃f,TupS (((s.heap.update a (br λx=>#[])).push (seqObj "tuple" vs.toArray 0)).push (seqObj "list" #[] 0)) v f/\(2<=vs.length->f≠[])/\zT (((s.heap.update a (br λx=>#[])).push (seqObj "tuple" vs.toArray 0)).push (seqObj "list" #[] 0)) v=zT s.heap v:=λv h=>by
  obtain⟨f,⟨t,o,r,c,rfl,g,K,L,M⟩,pZ⟩:=hv v h;have ne:a≠t:=λe=>by
   subst e;rw[F] at g;cases g;exact absurd K 'k'
  have V:=af (seqObj "list" #[] 0) (af (seqObj "tuple" vs.toArray 0) ((bj s.heap (br λ_=>#[]) ne).trans g));refine⟨f,⟨t,o,r,c,rfl,V,K,L,M⟩,pZ,?_⟩;show(match Heap.get? _ t with|some o=>(match o.data with|.seq r _=>allS r.toList|_=>KF)|none=>KF)=(match s.heap.get? t with|some o=>(match o.data with|.seq r _=>allS r.toList|_=>KF)|none=>KF);rw[V,g]
 refine aa (iZ F rfl (aa (ix F rfl (aa (jk U rfl (aa (ic (aa (gN (bz ?_) 'u')) (by simpa using aM S T))))) (by simpa using aM S T) (by show 0<=qN+1;lia))));show am (av prog w) A _ P E { heap:=((s.heap.update a (br λx=>#[])).push (seqObj "tuple" vs.toArray 0)).push (seqObj "list" #[] 0),gens:=s.gens,drawn:=s.drawn,toks:=s.toks,os:=s.os };generalize hH:((s.heap.update a (br λx=>#[])).push (seqObj "tuple" vs.toArray 0)).push (seqObj "list" #[] 0)=H at *;have C:∀b:cg,(qt b).Perm (pairsOf vs)->failedOf b=KF->jq (Aa H) (qt b) (pairsOf vs).size->(gC (λx=>x.snd) (qt b)).toList.Perm vs/\(gC (λx=>x.snd) (qt b)).toList.Pairwise (λx y=>¬ keyT s.heap y<keyT s.heap x):=λb u _ z=>by
  have W:=dQ.mp u;refine⟨?_,?_⟩
  ·rw[mV];have:=W.map (λx:bd=>x.2);rw[zdh] at this;exact this
  ·rw[mV,di];intro i j X I xM;rw[ax,az] at X I;rw[iF,iF];have Y:=z i j 'd' (by rw[<- u.size_eq];exact I);have Z:∀k(h:k<(qt b).size),KK (Aa H) (qt b) k=keyT s.heap ((qt b).toList[k]'(by rw[az];exact h)).2:=λk h=>by
    unfold KK;rw[aU h];have hm:(qt b)[k]∈(pairsOf vs).toList:=W.mem_iff.mp (by rw[<- fW];exact cr _);obtain⟨h1,B⟩:=Rk hm;obtain⟨f,_,_,h3⟩:=l _ B;dsimp only;show(zT H (qt b)[k].1).getD []=_;rw[h3,fW,<- h1];rfl
   rw[Z i X,Z j I] at Y;exact of_decide_eq_false Y
 have N:i7 (Aa H) (pairsOf vs):=λp J=>by
  obtain⟨h1,B⟩:=Rk J;obtain⟨f,⟨t,o,r,c,e,g,K,L,M⟩,_⟩:=l _ B;refine⟨f,?_⟩;show zT H p.1=KB f;rw[e];show(match H.get? t with|some o=>(match o.data with|.seq r _=>allS r.toList|_=>KF)|none=>KF)=_;rw[g];dsimp only;rw[L];exact M
 have up:∀d:Array ab,H.update a (br λ_=>d)=sortedHeap s.heap a vs d:=λd=>by rw[<- hH];rfl
 by_cases B:vs.length<2
 ·have m:vs.toArray.size<2:=by rw[aH];exact B
  show am (av prog w) A (if vs.toArray.size<2 then _ else _) P E _;rw[qb m];refine aa (ah ?_);rw[qb m];have pz:(pairsOf vs).size=vs.length:=by simp[pairsOf]
  obtain⟨O,R⟩:=C (lz general' (pairsOf vs) #[] 7 KF) (iY _) rfl (λi j xM I=>by
   have:i=j:=by lia
   subst this;exact Ac _)
  refine aa (ah ?_);have J:(gC (λx=>x.snd) (qt (lz general' (pairsOf vs) #[] 7 KF))).size<=4000000:=by
   rw[k9];show(pairsOf vs).size<=_;lia
  refine aa (jk G rfl (aa (ix G rfl ?_ (by show 0<=qN;lia) (by show(gC _ _).size<=qN+1;exact aM J 'd'))));show am (av prog w) A (if ((if _ then n else n+1) !=(if _ then n else n+1))=KM then _ else _) P E _;rw[qq 'k'];refine ah ?_;have:=q _ O R;rw[<- up] at this;exact this
 ·have m:¬ vs.toArray.size<2:=by rw[aH];exact B
  show am (av prog w) A (if vs.toArray.size<2 then _ else _) P E _;rw[qq m];refine aa (zaC (s:={ heap:=H,gens:=s.gens,drawn:=s.drawn,toks:=s.toks,os:=s.os }) 'd' (λv h=>by obtain⟨f,k1,k2,_⟩:=l v h;exact⟨f,k1,k2 'd'⟩) λkd ho=>?_);rw[qq m];show am (av prog w) A (sortRuns'.run (lz kd (vs.toArray.zip vs.toArray) #[] 7 KF) >>= _) P E _;refine aa (cG (QA (kd:=kd) (κ:=Aa H) (Q:=λ_ b=>(qt b).Perm (pairsOf vs)/\failedOf b=KF/\jq (Aa H) (qt b) (pairsOf vs).size) ho (a₀:=pairsOf vs) N (iY _) rfl rfl rfl λb u D z=>⟨u,D,z⟩) ?_ λ_ _ h=>h);rintro⟨_,b⟩ s' ⟨rfl,u,D,z⟩;dsimp only at u D z;obtain⟨O,R⟩:=C b u D z;have J:(gC (λx=>x.snd) (qt b)).size<=4000000:=by
   rw[k9,u.size_eq];show(vs.toArray.zip vs.toArray).size<=_;rw[nH,aH];lia
  refine aa (jk G rfl (aa (ix G rfl ?_ (by show 0<=qN;lia) (by show(gC _ _).size<=qN+1;lia))));show am (av prog w) A (match failedOf b with|some e=>_|x=>_) P E _;rw[D];show am (av prog w) A (if ((if _ then n else n+1) !=(if _ then n else n+1))=KM then _ else _) P E _;rw[qq 'k'];refine ah ?_;have:=q _ O R;rw[<- up] at this;exact this
def TupS.mono(k:∀b o,h.get? b=KB o->h'.get? b=KB o)(x:TupS h v ks):TupS h' v ks/\keyT h' v=keyT h v:=by obtain⟨t,o,a,c,rfl,g,e,f,i⟩:=x;have d:=k t o g;refine⟨⟨t,o,a,c,rfl,d,e,f,i⟩,?_⟩;show((match h'.get? t with|some o=>(match o.data with|.seq a _=>allS a.toList|_=>KF)|none=>KF):Option _).getD []=((match h.get? t with|some o=>(match o.data with|.seq a _=>allS a.toList|_=>KF)|none=>KF):Option _).getD [];rw[d,g]
def sorted_tups(u:s.heap.IsList l vs.toArray)(g:∀v∈vs,∃c,TupS s.heap v c/\(2<=vs.length->c≠[]))(i:vs.length<=4000000)
  (h:∀a:Array ab,a.toList.Perm vs->a.toList.Pairwise (λx y=>¬ keyT s.heap y<keyT s.heap x)->Q (.ref (s.heap.objs.size+1)) { heap:=sortedAll s.heap vs a,gens:=s.gens,drawn:=s.drawn,toks:=s.toks,os:=s.os }):am (av prog w) A (call (.builtin "sorted") [.ref l]) Q E s:=by
 have j:vs.length<=qN:=aM i 'u';refine gY mL ma md (me _) ?_;unfold dH.«sorted»;refine aa (m:=checkCount "sorted" 1 1 _) (ah ?_);refine aa (collect_list u (aa (gN ?_ j)) j);have k:∀b o,s.heap.get? b=KB o->(((s.heap.push (seqObj "list" #[] 0)).update s.heap.objs.size (br λx=>x++vs.toArray)).push (seqObj "list" vs.toArray 0)).get? b=KB o:=λb o e=>by
  have z:s.heap.objs.size≠b:=λq=>absurd (aI e) (by rw[<- q];exact bN _);exact af _ ((bj _ _ z).trans (af _ e))
 have n:(((s.heap.push (seqObj "list" #[] 0)).update s.heap.objs.size (br λx=>x++vs.toArray)).push (seqObj "list" vs.toArray 0)).get? ((s.heap.push (seqObj "list" #[] 0)).update s.heap.objs.size (br λx=>x++vs.toArray)).objs.size=KB (seqObj "list" vs.toArray 0):=aC _ rfl;have B:((s.heap.push (seqObj "list" #[] 0)).update s.heap.objs.size (br λx=>x++vs.toArray)).objs.size=s.heap.objs.size+1:=by rw[Heap.size_update,cu]
 refine aa (bz (bL le ⟨_,n,rfl⟩ ku (z73 n (λv d=>by
  obtain⟨c,f,p⟩:=g v d;exact⟨c,(f.mono k).1,p⟩) i λa r C=>⟨_,rfl,?_⟩) (lf _)))
 refine ah ⟨_,rfl,?_⟩;have t:∀v∈a.toList,keyT (((s.heap.push (seqObj "list" #[] 0)).update s.heap.objs.size (br λx=>x++vs.toArray)).push (seqObj "list" vs.toArray 0)) v=keyT s.heap v:=λv d=>by
  obtain⟨c,f,p⟩:=g v (r.mem_iff.mp d);exact(f.mono k).2
 have D:a.toList.Pairwise (λx y=>¬ keyT s.heap y<keyT s.heap x):=by
  refine j0 ?_ C;intro x y F G H;rw[<- t x F,<- t y G];exact H
 have:=h a r D;unfold sortedAll at this;rw[<- B] at this;exact this
end TS
namespace DL
open PySem
def Yy(t:j3)(b:Array (Int×ab))(h:Int)(x:ab):(layNew t b h x).2.1.led=t.led:=by
 unfold layNew;split
 ·rename_i a c _;show((t.put a).1.orStandIn _).led=_;unfold SetTable.orStandIn;split<;>rfl
 ·rfl
def zfn(t:j3)(a:Array (Int×ab))(n:Nat):(relayAll t a n).2.1.led=t.led/\(t.plain=K7->(relayAll t a n).2.1.plain=K7):=by
 unfold relayAll;cases h:t.relaid (a.map (·.1)) n with
 |none=>exact⟨rfl,λ_=>rfl⟩
 | some p=>
  obtain⟨c,b⟩:=p;have d:c.led=t.led/\c.plain=t.plain:=by
   unfold SetTable.relaid SetTable.laid at h;cases f:SetTable.layClean (SetTable.sizeAbove n-1) (a.map (·.1)) with
   |none=>rw[f] at h;cases h
   |some ow=>rw[f] at h;cases h;exact⟨rfl,rfl⟩
  dsimp only;split
  ·exact⟨d.1,λe=>d.2.trans e⟩
  ·exact⟨rfl,λ_=>rfl⟩
def wB(w:aY):Bool:=w.params.followText "set-order"
def sM(e:Int×ab):Str:=match e.2 with
 |.str x _=>x
 |_=>⟨#[]⟩
def oA(P:aN)(w:aY)(a:ae)(ks:List Str)(h:aX):Prop:=
 ∃o es ep t,h.get? a=KB o/\o.ExactSet/\o.data=.set es ep t/\iK (strKind P w) es.toList/\(es.toList.map sM).Perm ks/\ks.Nodup/\es.size<scanBound/\t.fits es.size=KM/\(wB w=K7->t.led=KM)/\(es.size≠0->t.plain=K7)
section
variable{P:aN}{w:aY}{A:ba}{E:ab->ag->Prop}{s:ag}{a:ae}{ks:List Str}
def oA.keep(k:∀o,h.get? a=KB o->h'.get? a=KB o):oA P w a ks h->oA P w a ks h':=λ⟨o,b,c,t,d,r⟩=>⟨o,b,c,t,k o d,r⟩
def oA.size(x:oA P w a ks h):∃o b c t,h.get? a=KB o/\o.data=.set b c t/\b.size=ks.length:=by obtain⟨o,b,c,t,d,g,e,i,f,_⟩:=x;exact⟨o,b,c,t,d,e,by rw[<- f.length_eq];simp⟩
def Kk(h:iK (strKind P w) l)(b:e∈l):∃t,e.2=.str (sM e) t:=by obtain⟨⟨k,c,_⟩,_⟩:=h e b;obtain⟨t,d⟩:=i5 (x:=k) (v:=e.2) c;exact⟨t,by unfold sM;rw[d]⟩
def OI(h:e.2=.str (sM e) t)(x:Str):(strKind P w).is x e.2=KM↔sM e=x:=by
 rw[h];constructor
 ·intro q;obtain⟨c,b⟩:=i5 (x:=x) (v:=.str (sM e) t) q;injection b
 ·intro q;rw[q];show fH x (.str x t)=KM;simp[fH]
def vn(ks:List Str)(x:Str):List Str:=if ks.contains x=KM then ks else ks++[x]
def Oj{h:aX}{o:Obj}{d es':Array (Int×ab)}{b:Nat}{t t':j3}{ks':List Str}(e:h.get? a=KB o)(f:o.ExactSet)(c:o.data=.set d b t)(i:iK (strKind P w) es'.toList)(j:(es'.toList.map sM).Perm ks')(k:ks'.Nodup)
  (l:es'.size<scanBound) (m:t'.fits es'.size=KM) (n:wB w=K7->t'.led=KM) (p:es'.size≠0->t'.plain=K7):oA P w a ks' (h.update a (lA es' t'))/\(h.update a (lA es' t')).get? a=KB { o with data:=.set es' (b+1) t' }:=by have g:=bJ (lA es' t') e (by rw[putSet_of es' t' c];rfl);rw[putSet_of es' t' c] at g;exact⟨⟨_,es',b+1,t',g,f,rfl,i,j,k,l,m,n,p⟩,g⟩
def U6{x:Str}{tk:Tok}{Q:Bool->ag->Prop}(hS:oA P w a ks s.heap)(uz:ks.length+1<scanBound)
  (h:∀b h',cS a s.heap h'->oA P w a (vn ks x) h'->Q b { s with heap:=h' }):
  am (av P w) A (setAddHashed a (.str x tk) ((strKind P w).hash x)) Q E s:=by
 obtain⟨o,i,ep,t,m,F,n,l,k,U,V,G,H,rj⟩:=hS;have W:(strKind P w).is x (.str x tk)=KM:=by show fH x (.str x tk)=KM;simp[fH]
 have hsz:i.size=ks.length:=by rw[<- k.length_eq];simp
 unfold setAddHashed setAddHashedIn;refine bz (aa (fP m n G ?_));dsimp only;rw[byScan_of (x:=.str x tk) rfl V l,qb rfl];unfold setAddByScan;refine aa (aa (c9 (aa (wpAny_setScan_of W m n G l ?_))));cases X:List.findIdx? (λe=>(strKind P w).is x e.2) i.toList with
 | some j=>
  dsimp only;obtain⟨Y,I,_⟩:=List.findIdx?_eq_some_iff_getElem.mp X;have qZ:x∈ks:=by
   obtain⟨t',J⟩:=Kk l (cr Y);have:=(OI J x).mp I;exact k.mem_iff.mp (aB.mpr ⟨_,cr Y,this⟩)
  refine ah (ah ?_);have:=h K7 s.heap (Heap.SameBut.refl a s.heap) (by
   unfold vn;rw[qb (ci.mpr qZ)];exact⟨o,i,ep,t,m,F,n,l,k,U,V,G,H,rj⟩)
  cases s;exact this
 | none=>
  dsimp only;have Z:x∉ks:=λhm=>by
   obtain⟨e,he,ek⟩:=aB.mp (k.mem_iff.mpr hm);obtain⟨t',J⟩:=Kk l he;have:=List.findIdx?_eq_none_iff.mp X e he;rw[(OI J x).mpr ek] at this;cases this
  have ea:vn ks x=ks++[x]:=by unfold vn;rw[qq (λz=>Z (ci.mp z))]
  have u:=layNew_perm t i ((strKind P w).hash x) (.str x tk);have y:=layNew_fits t i ((strKind P w).hash x) (.str x tk);have B:=Yy t i ((strKind P w).hash x) (.str x tk);generalize layNew t i ((strKind P w).hash x) (.str x tk)=L at u y B ⊢;obtain⟨c,t1,wd,gv⟩:=L;dsimp only at u y B ⊢;rw[eU] at u;have Fv:iK (strKind P w) c.toList:=(l.push W rfl).perm u;have K:(c.toList.map sM).Perm (ks++[x]):=by
   refine(u.map sM).trans ?_;rw[dE];exact k.append_right _
  have Fh:(ks++[x]).Nodup:=by
   rw[fN];exact⟨U,by simp,λp k q C=>by
    have:q=x:=by simpa using C
    subst this;rintro rfl;exact Z k⟩
  have H9:c.size=ks.length+1:=by rw[<- az,<- ax (f:=sM),K.length_eq];simp
  have M:c.size<scanBound:=by rw[H9];exact uz
  have gw:∀(b:Bool){N:ag}{O:Unit->ag->Prop},O () N->am (av P w) A (match b with|true=>rule "set.scan.the-table-gave-way"|false=>pure ()) O E N:=λb N O C=>by
   cases b
   ·exact ah C
   ·exact c9 C
  refine aa (gw _ ?_);have g:∀d:j3,d.led=t.led->d.plain=K7->d.fits c.size=KM->am (av P w) A (do
    storeSet a c d
    if (!wd&&d.tooFull)=KM then do
      (match (relayAll d c (f6 c.size)).2.2 with|true=>rule "set.scan.the-table-gave-way"|false=>pure ())
      storeSet a (relayAll d c (f6 c.size)).1 (relayAll d c (f6 c.size)).2.1
      pure (KB KM)
     else pure (KB KM)) (λr s'=>am (av P w) A (match r with|some added=>(pure added:Sem Bool)|none=>setAddHashedIn a (.str x tk) ((strKind P w).hash x) 99999) Q E s') E s:=by
   intro d h1 h2 h3;obtain⟨S1,g1⟩:=Oj (P:=P) (w:=w) (ks':=ks++[x]) (es':=c) (t':=d) m F n Fv K Fh M h3 (λe=>h1.trans (H e)) (λ_=>h2);have sb:=cU s.heap a (lA c d);refine aa (wpAny_storeSet_of m n ?_ (jK M));split
   ·have v:=relayAll_perm d c (f6 c.size);have S:=relayAll_fits d c (f6 c.size);have D:=zfn d c (f6 c.size);generalize relayAll d c (f6 c.size)=R at v S D ⊢;obtain⟨T,t3,gv2⟩:=R;dsimp only at v S D ⊢;have s2:T.size=c.size:=by rw[<- az,v.length_eq,az]
    have b2:T.size<scanBound:=by rw[s2];exact M
    refine aa (gw _ (aa (wpAny_storeSet_of g1 rfl ?_ (jK b2))));obtain⟨S2,_⟩:=Oj (P:=P) (w:=w) (ks':=ks++[x]) (es':=T) (t':=t3) g1 F rfl (Fv.perm v) ((v.map sM).trans K) Fh b2 S (λe=>D.1.trans (h1.trans (H e))) (λ_=>D.2 h2);exact ah (ah (h KM _ (sb.trans (cU _ a _)) (by rw[ea];exact S2)))
   ·exact ah (ah (h KM _ sb (by rw[ea];exact S1)))
  split
  ·rename_i tG;refine aa ?_;rw[hashByValue_scannable 8 (x:=.str x tk) rfl];refine ah ?_;exact g { t1 with plain:=K7 } B rfl (SetTable.fits_plain_off y)
  ·rename_i tG;refine aa (ah ?_);rw[qb rfl];exact g t1 B (by simpa using tG) y
end
def uR(l:List Str):List Str:=l.foldl vn []
def zgW(l:List Str)(x:Str):uR (l++[x])=vn (uR l) x:=by unfold uR;rw[List.foldl_append];rfl
def zho(a:List Str)(x:Str):(vn a x).length<=a.length+1:=by unfold vn;split<;>simp
def YO:∀(l:List Str),(uR l).length<=l.length:=λl=>by
 have:∀(l a:List Str),(l.foldl vn a).length<=a.length+l.length:=by
  intro l
  induction l with
  |nil=>intro a;exact aF _
  |cons x l ih=>intro a;refine aM (ih (vn a x)) ?_;have:=zho a x;rw[aS];lia
 have h:=this l [];simpa [uR] using h
def zgm:y∈vn ks x↔y∈ks\/y=x:=by
 unfold vn;split
 ·rename_i h;exact⟨.inl,λq=>q.elim id λe=>by rw[e];exact ci.mp h⟩
 ·rw[aP,dF]
def JS:∀(l:List Str),y∈uR l↔y∈l:=λl=>by
 have:∀(l a:List Str),y∈l.foldl vn a↔y∈a\/y∈l:=by
  intro l
  induction l with
  |nil=>intro a;simp
  |cons x l ih=>intro a;rw[fE,ih,zgm,aq];exact⟨λh=>by rcases h with(h|h)|h<;>simp[h],λh=>by rcases h with h|h|h<;>simp[h]⟩
 rw[uR,this];simp
section
variable{P:aN}{w:aY}{A:ba}{E:ab->ag->Prop}{s:ag}{a:ae}{ks:List Str}
def ZL(c:oA P w a ks s.heap)(d:ks.length+1<scanBound)
  (h:∀h',cS a s.heap h'->oA P w a (vn ks x) h'->Q .none { s with heap:=h',toks:=s.toks+1 }):
  am (av P w) A (call (.builtin "set.add") [.ref a,.str x tk]) Q E s:=by obtain⟨o,j,l,t,e,f,r⟩:=id c;refine bL F.slot_set_add ⟨o,e,f.1⟩ F.entry_set_add ?_ (F.args_set_add_2 _ _);unfold dH.«set.add» nO;simp only[mW,bind_assoc];unfold j4 setAdd;refine aa (ah (aa (ah (aa (bz (aa ((strKind P w).pyHash (k:=x) (by show fH x (.str x tk)=KM;simp[fH]) ?_)))))));refine U6 (s:={ s with toks:=s.toks+1 }) c d λb h' g i=>?_;exact ah ⟨_,rfl,h h' g i⟩
end
section
variable{w:aY}
abbrev Wx(w:aY):Obj:={ cls:=.type "set",dict:=KF,data:=.set #[] 0 (.fresh 0 0 (!wB w)) }
end
def N8:Manifest.owners.lookup (String.ofList ['r','o','t','a','r','e','t','i','_','t','e','s'].reverse)=KB Manifest.sig_set_iterator:=by kernel_rfl
def oV:Slot "set_iterator" "__next__" "set_iterator.__next__":=Slot.of (owner := "set_iterator") (n := "__next__") (by rw[typeLookup_type,lg];kernel_rfl) 'c' 'c' 'c' (by first|exact .inl 'c'|exact .inr 'c') (by rw[isSubtype_type];kernel_rfl)
def Pp:Slot "set_iterator" "__iter__" "set_iterator.__iter__":=Slot.of (owner := "set_iterator") (n := "__iter__") (by rw[typeLookup_type,lg];kernel_rfl) 'c' 'c' 'c' (by first|exact .inl 'c'|exact .inr 'c') (by rw[isSubtype_type];kernel_rfl)
def zgS:entryFor table "set_iterator.__next__" = KB dH.«set_iterator.__next__»:=entryFor_of_tree 'b'
def ZN(a:ab):argsOk "set_iterator.__next__" ⟨[a],[]⟩:=by unfold argsOk;rw[signature?_of (id := "set_iterator.__next__") (n:=['_','_','t','x','e','n','_','_']) (o:=['r','o','t','a','r','e','t','i','_','t','e','s']) 'b' N8];kernel_rfl
def ZV(a:ab):argsOk "set_iterator.__iter__" ⟨[a],[]⟩:=by unfold argsOk;rw[signature?_of (id := "set_iterator.__iter__") (n:=['_','_','r','e','t','i','_','_']) (o:=['r','o','t','a','r','e','t','i','_','t','e','s']) 'b' N8];kernel_rfl
def zhv:entryFor table "set.__iter__" = KB dH.«frozenset.__iter__»:=entryFor_alias (id' := "frozenset.__iter__") 'b' rfl 'c' 'b'
def zg6:entryFor table "set_iterator.__iter__" = KB dH.«dict_keyiterator.__iter__»:=entryFor_alias (id' := "dict_keyiterator.__iter__") 'b' rfl 'c' 'b'
def G7{α:Type}{l:List α}{i:Nat}{x:α}(h:l[i]?=KB x):(x::l.eraseIdx i).Perm l:=by
 obtain⟨a,e⟩:=ar.mp h;have q:l.take i++x::l.drop (i+1)=l:=by rw[<- e,List.getElem_cons_drop a,cw]
 rw[List.eraseIdx_eq_take_drop_succ];exact List.perm_middle.symm.trans (by rw[q])
theorem R1{α:Type}(next:Nat->Nat):∀(fuel k:Nat)(left:List α)(a:Array α),left.length=fuel->(mh next fuel k left a).toList.Perm (a.toList++left)
 | 0,k,left,a,h=>by
  have:left=[]:=dI.mp h;subst this;unfold mh;simp
 | fuel+1,k,left,a,h=>by
  unfold mh;have b:next k%left.length<left.length:=Nat.mod_lt _ 'd'
  rw[ao b];dsimp only;have e:=jD b;refine(R1 next fuel (k+1) _ _ (by rw[e];lia)).trans ?_;rw[eU,a9];exact fG _ (G7 (ao b))
def Hy{α:Type}(next:Nat->Nat)(xs:Array α):(pickOrder next xs).toList.Perm xs.toList:=by
 unfold pickOrder;have:=R1 next xs.size 0 xs.toList #[] 'k'
 simpa using this
section
variable{P:aN}{w:aY}{A:ba}{E:ab->ag->Prop}{s:ag}{a:ae}
def Yl{src:Source}{n:Nat}{Q:Nat->ag->Prop}(b:n≠0)(h:∀i d,i<n->Q i { s with drawn:=d }):am (av P w) A (choose src n) Q E s:=
 λc p _=>⟨b,h _ _ (Nat.mod_lt _ (Nat.pos_of_ne_zero b))⟩
theorem N0{α:Type}:∀(n:Nat)(xs:List α)(s:ag)(Q:List α->ag->Prop),xs.length=n->(∀b d,b.Perm xs->Q b { s with drawn:=d })->am (av P w) A (drawOrder n xs) Q E s
 | 0,xs,s,Q,h,hq=>by
  have:xs=[]:=dI.mp h;subst this;unfold drawOrder;exact ah (by have:=hq [] s.drawn (eH _);cases s;exact this)
 |n+1,[],s,Q,h,hq=>by simp at h
 | n+1,x::xs,s,Q,h,hq=>by
  unfold drawOrder;refine aa (Yl 'k' λi d c=>?_);rw[ao c];refine aa (N0 n _ _ _ (by rw[jD c];simpa using h) λb e f=>ah ?_);exact hq _ e ((List.Perm.cons _ f).trans (G7 (ao c)))
abbrev wk(first:ab)(i:Nat)(a:ae)(n ep:Nat):Obj:={ cls:=.type "set_iterator",data:=.fields #[first,bR i,.ref a,bR n,bR ep] }
def NB(d:s.TypeIs (.ref I) "set_iterator")(h:am (av P w) A.in1 (dH.«set_iterator.__next__» ⟨[.ref I],[]⟩) (λf c=>∃v,f=.done (.ret v)/\Q (KB v) c) (λe c=>∃o,e=.ref o/\(∃ob,c.heap.get? o=KB ob/\ob.cls=.type "StopIteration")/\Q KF c) s):
  am (av P w) A (pyNext (.ref I)) Q E s:=by
 unfold pyNext;refine aa (fJ (cb (name := "__next__") d oV (bL oV d zgS ?_ (ZN _))));refine cG h (λf c g=>?_) λe c i=>?_
 ·obtain⟨v,rfl,q⟩:=g;exact⟨v,rfl,ah q⟩
 ·obtain⟨o,rfl,⟨ob,j,k⟩,q⟩:=i;exact aa (iC (T := "StopIteration") (b:=KM) ⟨ob,j,k⟩ kY (ah q))
end
section
variable{P:aN}{w:aY}{A:ba}{E:ab->ag->Prop}{s:ag}{a:ae}{o:Obj}{es:Array (Int×ab)}{ep:Nat}{t:j3}
def R0{α:Type}{Q:α->ag->Prop}(c:A.handled=KF)(h:∀h' e,(∀b o,s.heap.get? b=KB o->h'.get? b=KB o)->(∃o,h'.get? e=KB o/\o.cls=.type "StopIteration")->E (.ref e) { s with heap:=h' }):
  am (av P w) A (newExc (.type "StopIteration") [] >>= λe=>(raiseNew e:Sem α)) Q E s:=by refine aa ?_;simp only[newExc,newTuple];refine aa (b9 (?_) (by size_fits));refine aa (m:=firstArgMember _ _) (ji (a:=.none) (by first|rfl|(simp only[firstArgMember];rfl)) (b9 ?_ (by size_fits)));simp only[raiseNew];refine aa (wpAny_handled ?_);rw[c];refine aa (ah (wpAny_throw (h _ _ (λb o e=>af _ (af _ e)) ⟨_,aC _ rfl,rfl⟩)))
def OO(b:s.heap.get? a=KB o)(c:o.data=.set es ep t)(d:t.fits es.size=KM)(g:wB w=KM)(h:Q (((pickOrder (w.params.setOrder a ep) es)[i]?).map λe=>(e.2,sl)) s):
  am (av P w) A (setNext a sl i ep) Q E s:=by have f:(av P w).w.params.followText "set-order" = KM:=g;unfold setNext setsByText;refine aa (fP b c d ?_);dsimp only;refine aa (aa (fi (ah ?_)));rw[f,qb rfl,qq 'k'];refine aa ?_;unfold setWalk setsByText;refine aa (fP b c d ?_);dsimp only;refine aa (aa (fi (ah ?_)));rw[f,qb rfl];exact aa (fi (ah (ah h)))
def Qb(b:s.heap.get? a=KB o)(c:o.data=.set es ep t)(d:t.fits es.size=KM)(e:wB w=K7)(l:es.size<=1)(f:t.led=KM)
  (h:Q (match es[fj t.place sl]?,t.place[fj t.place sl]? with|some (_,x),KB j=>KB (x,j+1)|_,_=>KF) s):
  am (av P w) A (setNext a sl i ep) Q E s:=by
 have g:(av P w).w.params.followText "set-order" = K7:=e;unfold setNext setsByText;refine aa (fP b c d ?_);dsimp only;refine aa (aa (fi (ah ?_)));rw[g,qq 'k'];show am _ _ (if (!t.plain&&decide (es.size>1))=KM then _ else _) _ _ _;have k:(!t.plain&&decide (es.size>1))=K7:=by
  rw[decide_eq_false 'd'];simp
 rw[k,qq 'k'];refine aa ?_;show am _ _ (if (!t.led && !es.isEmpty)=KM then _ else _) _ _ _;rw[f,qq 'k'];exact ah (ah h)
def zcN(b:s.heap.get? a=KB o)(c:o.data=.set es ep t)(d:t.fits es.size=KM)(e:es[pl]?=KB x)(h:Q x.2 s):
  am (av P w) A (setNextDrawn a pl ep) Q E s:=by unfold setNextDrawn;refine aa (fP b c d ?_);dsimp only;rw[qq 'k',e];exact ah h
def YQ(b:s.heap.get? a=KB o)(c:o.data=.set es ep t)(d:t.fits es.size=KM)(f:es.size≠0->t.plain=K7)(h:Q (!wB w&&decide (es.size>1)) s):am (av P w) A (setDrawn a) Q E s:=by
 unfold setDrawn setsByText;refine aa (fP b c d ?_);dsimp only;refine aa (aa (fi (ah (ah ?_))));have e:(!t.plain&&decide (es.size>1))=decide (es.size>1):=by
  by_cases q:es.size>1
  ·rw[f 'd',decide_eq_true q];rfl
  ·rw[decide_eq_false q];simp
 show Q (!wB w&&(!t.plain&&decide (es.size>1))) s;rw[e];exact h
def Gf{I:ae}{sl i:Nat}{R:Option (ab×Nat)}{Q:Option ab->ag->Prop}(m:s.heap.get? a=KB o)(n:o.data=.set es ep t)(q:t.fits es.size=KM)(c:s.heap.get? I=KB (wk (bR sl) i a es.size ep))(K:a≠I)(r:A.handled=KF)
  (u:∀(B:ba)(Q':Option (ab×Nat)->ag->Prop)(E':ab->ag->Prop),Q' R s->am (av P w) B (setNext a sl i ep) Q' E' s)
  (x:∀v j,R=KB (v,j)->∀h',cS I s.heap h'->h'.get? I=KB (wk (bR j) (i+1) a es.size ep)->Q (KB v) { s with heap:=h' })
  (hz:R=KF->∀h',jj I s.heap h'->Q KF { s with heap:=h' }):am (av P w) A (pyNext (.ref I)) Q E s:=by
 refine NB ⟨_,c,rfl⟩ ?_;unfold dH.«set_iterator.__next__» slotArgs;dsimp only;rw[qq 'k',qq 'k'];refine aa (ah (aa (wpAny_fieldsOf c rfl ?_)));show am _ _ (setEntries a >>= _) _ _ _;refine aa (i8 m n q ?_);rw[qq 'k'];show am _ _ (setNext a sl i ep >>= _) _ _ _;refine aa (u _ _ _ ?_);obtain⟨L,g,d,M,N⟩:=s;cases h:R with
 | some p=>
  obtain⟨v,j⟩:=p;dsimp only;refine aa (bE c 'k' λy k f=>?_);refine aa (bE k 'k' λC D F=>?_);exact ah ⟨v,rfl,x v j h C (f.trans F) D⟩
 | none=>
  dsimp only;refine aa (bE c 'k' λy k f=>?_);refine R0 (by simpa using r) λh' e G H=>⟨e,rfl,H,hz h h' λb l J z=>G b l (f.extBut b l J z)⟩
def Nv{I f:ae}{i:Nat}{first:ab}{c:List Nat}{Q:Option ab->ag->Prop}(p:s.heap.get? a=KB o)(q:o.data=.set es ep t)(r:t.fits es.size=KM)(h:s.heap.get? I=KB (wk (.ref f) i a es.size ep))(B:s.heap.get? f=KB { cls:=.type "tuple",data:=.seq (c.map λ(j:Nat)=>bR (j:Int)).toArray })(C:A.handled=KF)
  (D:∀j x,c[i]?=KB j->es[j]?=KB x->∀h',cS I s.heap h'->h'.get? I=KB (wk (.ref f) (i+1) a es.size ep)->Q (KB x.2) { s with heap:=h' }) (F:∀j,c[i]?=KB j->j<es.size)
  (hz:c[i]?=KF->∀h',jj I s.heap h'->Q KF { s with heap:=h' }):am (av P w) A (pyNext (.ref I)) Q E s:=by
 refine NB ⟨_,h,rfl⟩ ?_;unfold dH.«set_iterator.__next__» slotArgs;dsimp only;rw[qq 'k',qq 'k'];refine aa (ah (aa (wpAny_fieldsOf h rfl ?_)));show am _ _ (setEntries a >>= _) _ _ _;refine aa (i8 p q r ?_);rw[qq 'k'];show am _ _ (seqItems? (.ref f) >>= _) _ _ _;refine aa (cH B rfl ?_);obtain⟨L,g,d,M,N⟩:=s;have G:((c.map λ(j:Nat)=>bR (j:Int)).toArray)[((i:Int)).toNat]?=(c[i]?).map λ(j:Nat)=>bR (j:Int):=by
  rw[fM,kR,a8]
 dsimp only;rw[G];cases k:c[i]? with
 | some j=>
  have u:=F j k;dsimp only[gX,bR];refine aa (zcN (pl:=j) (x:=es[j]) p q r (aU u) ?_);refine aa (bE h 'k' λv l m=>?_);exact ah ⟨_,rfl,D j _ k (aU u) v m l⟩
 | none=>
  dsimp only[Option.map_none];refine aa (bE h 'k' λv l m=>?_);refine aa (bE l 'k' λO R H=>?_);refine R0 (by simpa using C) λh' e J K=>⟨e,rfl,K,hz k h' λb n y z=>J b n (H.extBut b n y (m.extBut b n y z))⟩
end
section
variable{P:aN}{w:aY}{A:ba}{E:ab->ag->Prop}{s:ag}{a:ae}{o:Obj}{es:Array (Int×ab)}{ep:Nat}{t:j3}{I tt:ae}
abbrev BW(os:List Str):Nat->ab->Prop:=λi v=>∃tk:Tok,v=.str (os.getD i ⟨#[]⟩) tk
def I_(h:∃ob,s.heap.get? I=KB ob/\ob.cls=.type "set_iterator")(q:Q (.ref I) s):am (av P w) A (pyIter (.ref I)) Q E s:=by
 have b:s.TypeIs (.ref I) "set_iterator":=h;refine jI b Pp (bL Pp b zg6 ?_ (ZV _));unfold dH.«dict_keyiterator.__iter__»;obtain⟨c,g,d,e,f⟩:=s
 wp_walk
 exact⟨_,rfl, "set_iterator",_,b,oV.lookup,q⟩
def Jk(b:iK (strKind P w) l)(h:l[i]?=KB e):BW (l.map sM) i e.2:=by obtain⟨c,d⟩:=Kk b (aL h);refine⟨c,?_⟩;rw[aG,a8,h];exact d
def Yb(k:o.data=.set es ep t)(l:t.fits es.size=KM)(F:iK (strKind P w) es.toList)(c:wB w=KM)(u:A.handled=KF)(p:a≠I):
  Walks P w A I [I,a] [I] es.size (BW ((pickOrder (w.params.setOrder a ep) es).toList.map sM)) (λi h=>(∃sl:Nat,h.get? I=KB (wk (bR sl) i a es.size ep))/\h.get? a=KB o) where
 sub:=λb c=>by simp at c;simp[c]
 frame:=λi h m d x=>⟨let ⟨sl,e⟩:=d.1;⟨sl,x I 'k' _ e⟩,x a 'k' _ d.2⟩
 item:=λi s Q E L d g=>by
  obtain⟨⟨sl,q⟩,f⟩:=d;have n:=Hy (w.params.setOrder a ep) es;have r:(pickOrder (w.params.setOrder a ep) es).size=es.size:=by rw[<- az,n.length_eq,az]
  have y:i<(pickOrder (w.params.setOrder a ep) es).size:=by lia
  refine Gf (R:=KB ((pickOrder (w.params.setOrder a ep) es)[i].2,sl)) f k l q p u (λB G H h=>OO f k l c (by rw[aU y];exact h)) (λv j e m C J=>?_) λe=>by cases e
  cases e;refine g _ m s.toks (Jk (F.perm n) (by rw[dB];exact aU y)) ⟨⟨_,J⟩,?_⟩ λb D c z=>?_
  ·rw[C.2 a p];exact f
  ·rw[C.2 b (by simpa using c)];exact z
 done:=λs Q E d g=>by
  obtain⟨⟨sl,q⟩,f⟩:=d;have n:=Hy (w.params.setOrder a ep) es;have r:(pickOrder (w.params.setOrder a ep) es).size=es.size:=by rw[<- az,n.length_eq,az]
  refine Gf (R:=KF) f k l q p u (λB G H h=>OO f k l c (by rw[kK 'd'];exact h)) (λv j e=>by cases e) λ_ m K=>g m s.toks λb D c z=>K b D (by simpa using c) z
 self:=λi s Q E d g=>I_ (let ⟨⟨sl,e⟩,_⟩:=d;⟨_,e,rfl⟩) g
def Zp(F:o.data=.set es ep t)(G:t.fits es.size=KM)(N:iK (strKind P w) es.toList)(H:A.handled=KF)(O:a≠I)(R:tt≠I){c:List Nat}(v:c.Perm (aA es.size)):
  Walks P w A I [I,a,tt] [I] es.size (BW ((c.filterMap λj=>es[j]?).map sM)) (λi h=>h.get? I=KB (wk (.ref tt) i a es.size ep)/\h.get? a=KB o/\h.get? tt=KB { cls:=.type "tuple",data:=.seq (c.map λ(j:Nat)=>bR (j:Int)).toArray }) where
 sub:=λb g=>by simp at g;simp[g]
 frame:=λi h p d y=>⟨y I 'k' _ d.1,y a 'k' _ d.2.1,y tt 'k' _ d.2.2⟩
 item:=λi s Q E Y d k=>by
  obtain⟨B,r,u⟩:=d;have m:c.length=es.size:=by rw[v.length_eq];simp
  have C:∀j∈c,j<es.size:=λj f=>aR.mp (v.mem_iff.mp f);refine Nv (first:=.ref tt) r F G B u H (λj x n J p D S=>?_) (λj e=>C j (aL e)) λe=>absurd (aQ.mp e) 'd';have T:∀(l:List Nat),(∀j∈l,j<es.size)->(l.filterMap λj=>es[j]?)=l.map λj=>es.getD j default:=by
   intro l
   induction l with
   |nil=>intro _;rfl
   | cons q l ih=>
    intro h;have K:=h q au;rw[fc,aU K,ih λj f=>h j (al _ f),bH];simp[Array.getD,K]
  have U:(c.filterMap λj=>es[j]?)[i]?=KB x:=by
   rw[T c C,a8,n];have f:=C j (aL n);rw[aU f] at J;have:es[j]=x:=bZ J;simp[Array.getD,f,this]
  have V:iK (strKind P w) (c.filterMap λj=>es[j]?):=λe W=>by
   obtain⟨j,_,f⟩:=gZ.mp W;exact N e (by rw[<- dB] at f;exact aL f)
  refine k _ p s.toks (Jk V U) ⟨S,?_,?_⟩ λb L g z=>?_
  ·rw[D.2 a O];exact r
  ·rw[D.2 tt R];exact u
  ·rw[D.2 b (by simpa using g)];exact z
 done:=λs Q E d k=>by
  obtain⟨B,r,u⟩:=d;have m:c.length=es.size:=by rw[v.length_eq];simp
  have M:c[es.size]?=KF:=aQ.mpr 'd';exact Nv (first:=.ref tt) r F G B u H (λj x n=>by rw[M] at n;cases n) (λj e=>by rw[M] at e;cases e) λ_ p X=>k p s.toks λb L g z=>X b L (by simpa using g) z
 self:=λi s Q E d k=>I_ ⟨_,d.1,rfl⟩ k
def ziA(xs:Array Nat)(h:xs.size<=1):fj xs 0=0:=by
 unfold fj;have:xs.size=0\/xs.size=1:=by lia
 rcases this with e|e
 ·rw[e];rfl
 ·rw[e];unfold il;rw[qb 'd'];dsimp only;rw[qq 'k'];unfold il;rfl
def YJ(xs:Array Nat)(p:Nat)(h:xs.size=1)(b:xs[0]?=KB p):fj xs (p+1)=1:=by
 unfold fj;rw[h];unfold il;rw[qb 'd'];dsimp only;have e:xs.getD ((0+1)/2) (p+1)=p:=by
  show xs.getD 0 (p+1)=p;rw[Array.getD_eq_getD_getElem?,b];rfl
 rw[e,qb 'd'];unfold il;rfl
def zfW(l:o.data=.set es ep t)(f:t.fits es.size=KM)(H:iK (strKind P w) es.toList)(c:wB w=K7)(u:es.size<=1)(x:t.led=KM)(y:A.handled=KF)(n:a≠I):
  Walks P w A I [I,a] [I] es.size (BW (es.toList.map sM)) (λi h=>(∃sl:Nat,h.get? I=KB (wk (bR sl) i a es.size ep)/\fj t.place sl=i)/\h.get? a=KB o) where
 sub:=λb c=>by simp at c;simp[c]
 frame:=λi h m d C=>⟨let ⟨sl,e,q⟩:=d.1;⟨sl,C I 'k' _ e,q⟩,C a 'k' _ d.2⟩
 item:=λi s Q E D d k=>by
  obtain⟨⟨sl,p,r⟩,g⟩:=d;have J:t.place.size=es.size:=by simp only[nQ,aW,beq_iff_eq] at f;exact f.1
  have T:es.size=1:=by lia
  have K:i=0:=by lia
  subst K;have L:t.place.size=1:=by lia
  refine Gf (R:=KB (es[0].2,t.place[0]+1)) g l f p n y (λB M N h=>Qb g l f c u x (by rw[r,aU D,aU 'd'];exact h)) (λv j e m F O=>?_) λe=>by cases e
  cases e;refine k _ m s.toks (Jk H (by rw[dB];exact aU D)) ⟨⟨_,O,YJ _ _ L (aU _)⟩,?_⟩ λb G c z=>?_
  ·rw[F.2 a n];exact g
  ·rw[F.2 b (by simpa using c)];exact z
 done:=λs Q E d k=>by
  obtain⟨⟨sl,p,r⟩,g⟩:=d;refine Gf (R:=KF) g l f p n y (λB M N h=>Qb g l f c u x (by rw[r,kK (aF _)];exact h)) (λv j e=>by cases e) λ_ m S=>k m s.toks λb G c z=>S b G (by simpa using c) z
 self:=λi s Q E d k=>I_ (let ⟨⟨sl,e,_⟩,_⟩:=d;⟨_,e,rfl⟩) k
end
section
variable{P:aN}{w:aY}{A:ba}{E:ab->ag->Prop}{s:ag}{a:ae}{ks:List Str}
theorem Ot(b:Array (Int×ab)):∀(l:List Nat),(∀j∈l,j<b.size)->(l.filterMap λj=>b[j]?).length=l.length
 |[],_=>rfl
 | q::l,h=>by
  rw[fc,aU (h q au)];show(_::_).length=_;rw[aS,aS,Ot b l λj c=>h j (al _ c)]
structure ItX(P:aN)(w:aY)(a:ae)(ks:List Str)(s:ag)(I:ae)(s1:ag):Prop where
 ex:∃(os:List Str)(fp:List ae)(St:Nat->aX->Prop),os.Perm ks/\I∈fp/\(∀b∈fp,b<s1.heap.objs.size)/\(∀b∈fp,b=a\/s.heap.objs.size<=b)/\(∀B:ba,B.handled=KF->Walks P w B I fp [I] os.length (BW os) St)/\St 0 s1.heap
 keep:∀b o,s.heap.get? b=KB o->s1.heap.get? b=KB o
 ty:∃ob,s1.heap.get? I=KB ob/\ob.cls=.type "set_iterator"
 new:s.heap.objs.size<=I
 gens:s1.gens=s.gens
 os:s1.os=s.os
def Vy(hS:oA P w a ks s.heap)(h:∀I V,ItX P w a ks s I V->Q (.ref I) V):am (av P w) A (pyIter (.ref a)) Q E s:=by
 obtain⟨o,c,q,t,u,hx,z,S,N,hn,k,x,hl,rj⟩:=hS;have W:s.TypeIs (.ref a) "set":=⟨o,u,hx.1⟩;have hsz:c.size=ks.length:=by rw[<- N.length_eq];simp
 have l:a<s.heap.objs.size:=aI u;refine jI W F.slot_set_iter (bL F.slot_set_iter W zhv ?_ (F.args_set_iter_1 _));unfold dH.«frozenset.__iter__» nW slotArgs;simp only[mW,d8,bi,↓reduceIte,bind_assoc,cP,bne_self_eq_false];unfold j4 nV;refine aa (ah (aa (ah (aa (aa (i8 u z x (ah ?_)))))));refine aa (YQ u z x rj ?_);have H:∀(first:ab)(p:aX)(d:Drawn),(∀b C,s.heap.get? b=KB C->p.get? b=KB C)->s.heap.objs.size<=p.objs.size->
   (∃(J:List Str)(D:List ae)(O:Nat->aX->Prop),J.Perm ks/\p.objs.size∈D/\(∀b∈D,b<p.objs.size+1)/\(∀b∈D,b=a\/s.heap.objs.size<=b)/\(∀B:ba,B.handled=KF->Walks P w B p.objs.size D [p.objs.size] J.length (BW J) O)/\O 0 (p.push (wk first 0 a c.size q)))->
   am (av P w) A.in1 (setEpoch a >>= λe=>newFields "set_iterator" [first,bR 0,.ref a,bR c.size,bR e] >>= λv=>ret v) (λf X=>∃r,f=.done (.ret r)/\∃Y r',X.TypeIs r Y/\typeLookup (.type Y) "__next__" = pure (KB r')/\Q r X) E { s with heap:=p,drawn:=d }:=by
  intro first p d Z hz ⟨J,D,O,p1,p2,p3,p6,p4,p5⟩
  refine aa (wpAny_setEpoch_of (Z a o u) z x ?_);unfold newFields;refine aa (b9 ?_ (by size_fits));have g:(p.push (wk first 0 a c.size q)).get? p.objs.size=KB (wk first 0 a c.size q):=aC _ rfl;refine ah ⟨_,rfl, "set_iterator",_,⟨_,g,rfl⟩,oV.lookup,h _ _ ⟨⟨J,D,O,p1,p2,λb k=>?_,p6,p4,p5⟩,λb C e=>af _ (Z b C e),⟨_,g,rfl⟩,hz,rfl,rfl⟩⟩;rw[cu];exact p3 b k
 cases T:(!wB w&&decide (c.size>1)) with
 | true=>
  rw[qb rfl];refine aa (N0 c.size (aA c.size) _ _ 'k' λy d K=>aa (ic ?_ ?_))
  ·have L:(s.heap.push { cls:=.type "tuple",data:=.seq (y.map λ(j:Nat)=>bR (j:Int)).toArray }).objs.size=s.heap.objs.size+1:=cu ..;refine H (.ref s.heap.objs.size) _ d (λb C e=>af _ e) (by rw[L];exact eL _) ?_;refine⟨(y.filterMap λj=>c[j]?).map sM,[(s.heap.push { cls:=.type "tuple",data:=.seq (y.map λ(j:Nat)=>bR (j:Int)).toArray }).objs.size,a,s.heap.objs.size],(λi h=>h.get? (s.heap.push { cls:=.type "tuple",data:=.seq (y.map λ(j:Nat)=>bR (j:Int)).toArray }).objs.size=KB (wk (.ref s.heap.objs.size) i a c.size q)/\h.get? a=KB o/\h.get? s.heap.objs.size=KB { cls:=.type "tuple",data:=.seq (y.map λ(j:Nat)=>bR (j:Int)).toArray }),?_,by simp,?_,?_,λB M=>?_,aC _ rfl,af _ (af _ u),af _ (aC _ rfl)⟩
   ·refine(List.Perm.map sM ?_).trans N;have e1:(aA c.size).filterMap (λj=>c[j]?)=c.toList:=by
     apply jJ;intro i;have Me:∀n,n<=c.size->(aA n).filterMap (λj=>c[j]?)=c.toList.take n:=by
      intro n
      induction n with
      |zero=>intro _;simp
      | succ n ih=>
       intro Ib;rw[no,List.filterMap_append,ih 'd',fc,List.filterMap_nil,aU 'd',ig,dB,aU 'd'];rfl
     rw[Me c.size (aF _),cO 'k']
    rw[<- e1];exact K.filterMap _
   ·intro b k;rw[L] at k ⊢;simp only[aq,aZ,or_false] at k;rcases k with rfl|rfl|rfl
    ·exact cC _
    ·exact dR (dR l)
    ·exact dR (cC _)
   ·intro b k;rw[L] at k;simp only[aq,aZ,or_false] at k;rcases k with rfl|rfl|rfl
    ·exact .inr (eL _)
    ·exact .inl rfl
    ·exact .inr (aF _)
   ·have m:((y.filterMap λj=>c[j]?).map sM).length=c.size:=by
     have U:=Ot c y λj hj=>aR.mp (K.mem_iff.mp hj);rw[ax,U,K.length_eq];simp
    rw[m];exact Zp z x S M (by rw[L];exact bh (dR l)) (by rw[L];exact bh (cC _)) K
  ·rw[ax,K.length_eq,cM];exact jK k
 | false=>
  rw[qq 'k'];have this:=H (bR 0) s.heap s.drawn (λb C e=>e) (aF _);have U:({ s with heap:=s.heap,drawn:=s.drawn }:ag)=s:=by cases s;rfl
  rw[U] at this;refine this ?_;by_cases G:wB w=KM
  ·refine⟨(pickOrder (w.params.setOrder a q) c).toList.map sM,[s.heap.objs.size,a],(λi h=>(∃R:Nat,h.get? s.heap.objs.size=KB (wk (bR R) i a c.size q))/\h.get? a=KB o),((Hy _ c).map sM).trans N,by simp,?_,?_,λB M=>?_,⟨0,aC _ rfl⟩,af _ u⟩
   ·intro b k;simp only[aq,aZ,or_false] at k;rcases k with rfl|rfl
    ·exact cC _
    ·exact dR l
   ·intro b k;simp only[aq,aZ,or_false] at k;rcases k with rfl|rfl
    ·exact .inr (aF _)
    ·exact .inl rfl
   ·have m:((pickOrder (w.params.setOrder a q) c).toList.map sM).length=c.size:=by rw[ax,(Hy _ c).length_eq];simp
    rw[m];exact Yb z x S G M (bh l)
  ·have G:wB w=K7:=by simpa using G
   have p:c.size<=1:=by
    rw[G] at T;simp at T;exact T
   have hpz:t.place.size=c.size:=by simp only[nQ,aW,beq_iff_eq] at x;exact x.1
   refine⟨c.toList.map sM,[s.heap.objs.size,a],(λi h=>(∃R:Nat,h.get? s.heap.objs.size=KB (wk (bR R) i a c.size q)/\fj t.place R=i)/\h.get? a=KB o),N,by simp,?_,?_,λB M=>?_,⟨0,aC _ rfl,ziA _ 'd'⟩,af _ u⟩
   ·intro b k;simp only[aq,aZ,or_false] at k;rcases k with rfl|rfl
    ·exact cC _
    ·exact dR l
   ·intro b k;simp only[aq,aZ,or_false] at k;rcases k with rfl|rfl
    ·exact .inr (aF _)
    ·exact .inl rfl
   ·have m:(c.toList.map sM).length=c.size:=by simp
    rw[m];exact zfW z x S G p (hl G) M (bh l)
end
section
variable{P:aN}{w:aY}{A:ba}{E:ab->ag->Prop}{s:ag}{a:ae}{ks:List Str}
def VC(b:s.TypeIs (.ref a) "set")(h:Q K7 s):am (av P w) A (js (.ref a)) Q E s:=by
 unfold js;refine aa (wpAny_specialOf b F.slot_set_len.lookup ?_);have e:splitId "set.__len__" = KB ("set", "__len__"):=by kernel_rfl
 have c:=sub_set_self;obtain⟨f,g,d,i,j⟩:=s;dsimp only;rw[e];dsimp only;refine aa (iC b c ?_);rw[qq 'k',qb 'b'];exact aa (iS b (ah h))
theorem SR:∀(b:List Str)(vs:List ab),vs.length=b.length->(∀j v,vs[j]?=KB v->BW b j v)->e9 vs b
 |[],[],_,_=>.nil
 |[],_::_,h,_=>by simp at h
 |_::_,[],h,_=>by simp at h
 | x::b,v::vs,h,q=>by
  obtain⟨c,e⟩:=q 0 v rfl;have e:v=.str x c:=e;subst e;exact .cons x c (SR b vs (by simpa using h) λj u z=>by
   obtain⟨d,f⟩:=q (j+1) u (by simpa using z);exact⟨d,by simpa [List.getD] using f⟩)
def zgR(C:A.handled=KF)(D:oA P w a ks s.heap)(U:ks.length<=1000)
  (h:∀(vs:List ab)(i:List Str)k,i.Perm ks->e9 vs i->s.heap.objs.size<=k.heap.objs.size->(∀b o,s.heap.get? b=KB o->k.heap.get? b=KB o)->k.gens=s.gens->k.os=s.os->Q vs k):
  am (av P w) A (collect (.ref a)) Q E s:=by
 obtain⟨o,es,ep,t,u,y,r⟩:=id D;have hT:s.TypeIs (.ref a) "set":=⟨o,u,y.1⟩;have f:a<s.heap.objs.size:=aI u;unfold collect;refine aa (wpAny_runValue (eR F.entry_proto_collect ?_));rw[dO F.plain_proto_collect _];show am _ A.in1 (newList [] >>= λl=>again (.builtin "list.__iadd__" ⟨[l,.ref a],[]⟩)) _ _ s;refine aa (b9 (ah ⟨eC mH _,eR F.entry_list_iadd ?_⟩));rw[dO mH _];have V:(s.heap.push { cls:=.type "list",data:=.seq ([]:List ab).toArray }).get? s.heap.objs.size=KB { cls:=.type "list",data:=.seq ([]:List ab).toArray }:=aC _ rfl;have Y:oA P w a ks (s.heap.push { cls:=.type "list",data:=.seq ([]:List ab).toArray }):=D.keep λo e=>af _ e;have Z:Shared.TypeIs { s with heap:=s.heap.push { cls:=.type "list",data:=.seq ([]:List ab).toArray } } (.ref a) "set":=⟨o,af _ u,y.1⟩;show am _ A.in1 (jt (.ref s.heap.objs.size) (.ref a) (.ref s.heap.objs.size)) _ _ _;unfold jt;refine aa (iS Z ?_);have h1:j5 (.ref s.heap.objs.size) (.ref a)=K7:=by simp[j5,dU f]
 rw[qq (by rw[h1];decide)];refine aa (Vy (s:={ s with heap:=s.heap.push { cls:=.type "list",data:=.seq ([]:List ab).toArray } }) Y λI k X=>?_);obtain⟨⟨i,fp,St,G,p2,p3,p6,H,p5⟩,z,ty,J,gn,oo⟩:=X;refine aa (bz (VC ⟨o,z a o (af _ u),y.1⟩ ?_));rw[qb 'b'];refine aa (c9 ?_);refine aa ?_;obtain⟨x,g,d,tk,oss⟩:=k;have K:x.get? s.heap.objs.size=KB { cls:=.type "list",data:=.seq ([]:List ab).toArray }:=z _ _ V;show am _ A.in1 (updateSeq s.heap.objs.size (·.push .none) >>= λ_=>updateSeq s.heap.objs.size (·.pop)) _ _ _;refine aa (eo K rfl ?_);have L:=bJ (br (·.push gD)) K rfl;refine eo L rfl ?_;have g3:=bJ (br (·.pop)) L rfl;have M:(Shared.heap { s with heap:=s.heap.push { cls:=.type "list",data:=.seq ([]:List ab).toArray } }).objs.size=s.heap.objs.size+1:=cu ..;have N:s.heap.objs.size∉fp:=λm=>by
  rcases p6 _ m with e|e
  ·exact bN _ (e▸f)
  ·rw[M] at e;exact Nat.not_succ_le_self _ e
 have W:=(H A.in1 (by simpa using C)).toS;have O:∀b c,b≠s.heap.objs.size->x.get? b=KB c->((x.update s.heap.objs.size (br (·.push gD))).update s.heap.objs.size (br (·.pop))).get? b=KB c:=
  λb c p e=>(bj _ _ (bB p)).trans ((bj _ _ (bB p)).trans e)
 refine ah ⟨eC F.plain_extend_loop _,codeAny_extend_loopS W (aM (by rw[G.length_eq];exact U) 'u') _ N _ i.length 0 _ _ _ rfl (cn _) ((H A.in1 (by simpa using C)).frame 0 x _ p5 λb p c e=>O b c (λq=>N (q▸p)) e) g3 (ItemsOf.nil _) λR n c' B S T=>?_⟩;show am _ A (load s.heap.objs.size >>= _) _ _ R;refine aa (wpAny_load S (ah ?_));have s9:e9 n.toList i:=SR i n.toList (by simpa using T.1) λj v e=>T.2 j v (by rw[<- dB];exact e);refine h n.toList i R G s9 (gp (aI S)) (λb c e=>B.heap b c ?_ (O b c ?_ (z b c (af _ e)))) (B.gens.trans gn) (B.os.trans oo)
 ·simp only[aq,aZ,or_false,not_or];refine⟨λq=>absurd (aI e) (by rw[q];exact bN _),λq=>?_⟩;have p:=aI e;rw[M] at J;exact absurd (bb p (mw J)) (by rw[q];exact bN _)
 ·exact λq=>absurd (aI e) (by rw[q];exact bN _)
end
end DL
namespace DL
open PySem PyProof.Rows
section
variable{P:aN}{w:aY}{A:ba}{E:ab->ag->Prop}{s:ag}{a:ae}{ks:List Str}
def ZT(x:A.handled=KF)(y:oA P w a ks s.heap)(R:ks.length<1000)
  (h:∀(f:Array ab)(g:List Str)l d c,g.Perm ks->sortedS g=KM->e9 f.toList g->s.heap.objs.size<=l->d.heap.get? l=KB { cls:=.type "list",data:=.seq f c }->(∀b o,s.heap.get? b=KB o->d.heap.get? b=KB o)->d.gens=s.gens->d.os=s.os->Q (.ref l) d):
  am (av P w) A (call (.builtin "sorted") [.ref a]) Q E s:=by
 refine gY mL ma md (me _) ?_;unfold dH.«sorted»;refine aa (m:=checkCount "sorted" 1 1 _) (ah ?_);refine aa (zgR (by simpa using x) y 'd' λi g d r k n z B C=>?_);have j:i.length=g.length:=k.length;have D:i.length<=4000000:=by rw[j,r.length_eq];lia
 refine aa (gN ?_);have p:(d.heap.push (seqObj "list" i.toArray 0)).get? d.heap.objs.size=KB (seqObj "list" i.toArray 0):=aC _ rfl;refine aa (bz (bL le ⟨_,p,rfl⟩ ku (TS.list_sort_big lJ p k.keysOf (λS T t e=>keyKind_strs (by rw[<- e];exact k)) D λF G H=>⟨_,rfl,?_⟩) (lf _)));obtain⟨I,J,K,L⟩:=sorted_out_str k G H;refine ah ⟨_,rfl,?_⟩;have M:=bJ (br λ_=>#[]) p rfl;have N:=af (seqObj "list" #[] 0) (af (seqObj "tuple" i.toArray 0) M);have O:=bJ (br λ_=>(qt F).map (·.2)) N rfl;refine h _ I _ _ _ (K.trans r) L J ?_ O (λb o e=>?_) B C
 ·exact n
 ·have u:=z b o e;have v:d.heap.objs.size≠b:=λq=>absurd (aI u) (by rw[<- q];exact bN _);exact(bj _ _ v).trans (af _ (af _ ((bj _ _ v).trans (af _ u))))
end
end DL
namespace DL
open PySem L2 PyProof.Rows
noncomputable def uV(x:List Nat):List (List Nat)->List (List Nat)
 |[]=>[x]
 |y::r=>if x<y then x::y::r else if x=y then y::r else y::uV x r
def p8(ss:List (List Nat)):List (List Nat):=ss.foldl (λl x=>uV x l) []
theorem oX:∀{l:List (List Nat)},y∈uV x l↔y=x\/y∈l
 |[]=>by simp[uV]
 | z::r=>by
  unfold uV;split
  ·simp
  ·split
   ·rename_i h;subst h;simp
   ·rw[aq,oX,aq];exact⟨λh=>by rcases h with h|h|h<;>simp[h],λh=>by rcases h with h|h|h<;>simp[h]⟩
theorem QH:∀{l:List (List Nat)},l.Pairwise (· < ·)->(uV x l).Pairwise (· < ·)
 |[],_=>by simp[uV]
 | z::r,h=>by
  obtain⟨b,c⟩:=bT.mp h;unfold uV;split
  ·rename_i a;exact bT.mpr ⟨λy hy=>by
    rcases aq.mp hy with rfl|hy
    ·exact a
    ·exact iy a (b y hy),h⟩
  ·rename_i a;split
   ·exact h
   ·rename_i d;refine bT.mpr ⟨λy hy=>?_,QH c⟩;rcases oX.mp hy with rfl|hy
    ·exact cN λq=>d (jZ (iu.mp q) (iu.mp a))
    ·exact b y hy
def xr(a:List (List Nat)):y∈p8 a↔y∈a:=by
 have:∀(a l:List (List Nat)),y∈a.foldl (λl x=>uV x l) l↔y∈l\/y∈a:=by
  intro a
  induction a with
  |nil=>intro l;simp
  |cons x a ih=>intro l;rw[fE,ih,oX,aq];exact⟨λh=>by rcases h with(h|h)|h<;>simp[h],λh=>by rcases h with h|h|h<;>simp[h]⟩
 rw[p8,this];simp
def CB(a:List (List Nat)):(p8 a).Pairwise (· < ·):=by
 have:∀(a l:List (List Nat)),l.Pairwise (· < ·)->(a.foldl (λl x=>uV x l) l).Pairwise (· < ·):=by
  intro a
  induction a with
  |nil=>intro l h;exact h
  |cons x a ih=>intro l h;exact ih _ (QH h)
 exact this a [] eS
theorem D5:∀{l m:List (List Nat)},l.Pairwise (· < ·)->m.Pairwise (· < ·)->(∀x,x∈l↔x∈m)->l=m
 |[],[],_,_,_=>rfl
 |[],y::m,_,_,h=>absurd ((h y).mpr au) 'k'
 |x::l,[],_,_,h=>absurd ((h x).mp au) 'k'
 | x::l,y::m,hl,hm,h=>by
  obtain⟨c,f⟩:=bT.mp hl;obtain⟨d,g⟩:=bT.mp hm;have b:x=y:=by
   rcases aq.mp ((h x).mp au) with e|e
   ·exact e
   ·rcases aq.mp ((h y).mpr au) with e'|e'
    ·exact e'.symm
    ·exact absurd (iy (d x e) (c y e')) (fZ _)
  subst b;rw[D5 f g λz=>⟨λa=>by
    rcases aq.mp ((h z).mp (al _ a)) with e|e
    ·subst e;exact absurd (c z a) (fZ _)
    ·exact e,λa=>by
    rcases aq.mp ((h z).mpr (al _ a)) with e|e
    ·subst e;exact absurd (d z a) (fZ _)
    ·exact e⟩]
abbrev toS(cs:List Nat):Str:=⟨cs.toArray⟩
theorem Ko:∀(p:Str)(l:List Str),risingS p l=KM->(p::l).Nodup->((p::l).map (·.cps.toList)).Pairwise (· < ·)
 |p,[],_,_=>by simp
 | p,x::r,h,nd=>by
  unfold risingS at h;rw[aW,im,ltCps_eq,decide_eq_false_iff_not] at h;obtain⟨f,g⟩:=bG.mp nd;have a:=Ko x r h.2 g;have b:p.cps.toList<x.cps.toList:=cN λq=>f (by
   have:=jZ (iu.mp h.1) (iu.mp q);have e:p=x:=by
    obtain⟨c⟩:=p;obtain⟨d⟩:=x;have this:c.toList=d.toList:=this;rw[show c=d from mU.mp this]
   rw[e];exact au)
  rw[bH];refine bT.mpr ⟨λy hy=>?_,a⟩;rw[bH] at hy a;rcases aq.mp hy with rfl|hy
  ·exact b
  ·exact iy b ((bT.mp a).1 y hy)
def W0{b:List (List Nat)}{a:List Str}(d:a.Perm (uR (b.map toS)))(e:(uR (b.map toS)).Nodup)(f:sortedS a=KM):a=(p8 b).map toS:=by
 have g:(a.map (·.cps.toList)).Pairwise (· < ·):=by
  cases a with
  |nil=>exact eS
  |cons p l=>exact Ko p l f (d.nodup_iff.mpr e)
 have h:a.map (·.cps.toList)=p8 b:=D5 g (CB b) λx=>by
  rw[xr,aB];constructor
  ·rintro⟨o,i,rfl⟩;have:=(JS _).mp (d.mem_iff.mp i);obtain⟨m,j,rfl⟩:=aB.mp this;exact j
  ·intro k;exact⟨toS x,d.mem_iff.mpr ((JS _).mpr (aB.mpr ⟨x,k,rfl⟩)),rfl⟩
 rw[<- h,bg];refine(gT a).symm.trans (dS λo _=>?_);obtain⟨c⟩:=o;rfl
def oA.nd(x:oA P w a ks h):ks.Nodup:=by obtain⟨_,_,_,_,_,_,_,_,_,b,_⟩:=x;exact b
section
variable{X:Cx}{t:DA}
theorem Kn:∀{vs:List ab}{a:List Str},e9 vs a->oa (a.map V.str) vs
 |_,_,.nil=>.nil
 |_,_,.cons y t h=>.cons ⟨t,rfl⟩ (Kn h)
def zeS(y:X.calm=KM):on X (.builtin "sorted") (λxs H Q=>∃a e,xs=[.ref a]/\H a=KB (.ext (oA X.prog X.w a e))/\e.length<1000/\∀l d,d.Perm e->e.Nodup->sortedS d=KM->H l=KF->Q (.ref l) (upd H l (.lst (d.map V.str)))):=by intro m s J H xs K Q I r h;obtain⟨a,e,rfl,z,n,q⟩:=h;obtain⟨u,rfl,A⟩:=uI r;cases A;have o:oA X.prog X.w a e s.heap:=(I.hok a _ z).1;refine wT I (ZT (I.ok.hd y) o n λg d l B c p C D i E v F G L=>?_);have x:H l=KF:=I.hok.fresh i;have f:d.length<=qN:=aM (gp (by rw[p.length_eq];exact n)) 'u';have j:oy X.prog X.w (upd H l (.lst (d.map V.str))) B.heap l (.lst (d.map V.str)):=⟨by rw[ax];exact f,g.toList,c,Kn D,by rw[E]⟩;have k:=I.hok.laid v i j;refine⟨.ref l,_,?_,rfl,q l d p o.nd C x⟩;exact I.call' G (Un.laid v i x) k (by rw[F];exact I.bare) (λb(hb:b∈([]:List ae))=>absurd hb (aZ))
end
def xV(te:DE):Em:=λσ O K4=>(te σ O).bnd λv O1=>match v with
 |.str cs=>if K4.length<1000 then .ok (K4++[.str cs]) O1 else .bad
 |_=>.bad
def Du(elt:aT):uS where
 ex:=λgens scope pos=>.SetComp elt gens scope pos
 emit:=λK4 env=>do let v <- eval elt env;standAt elt.pos;let _ <- call (.builtin "set.add") [K4,v]
 new:=newSet (.type "set")
 ho:=λP w a=>.ext (oA P w a [])
 G:=λ_ P w A _ H _ K4=>∃ss:List (List Nat),K4=ss.map D.str/\H A=KB (.ext (oA P w A (uR (ss.map toS))))
def Nd(S:oA P w a ks h):oy P w H h a (.ext (oA P w a ks)):=
 ⟨S,let ⟨o,_,_,_,ho,_⟩:=S;⟨o,ho⟩,λb c x k=>x.keep k⟩
def zh5(c:aT):zZ (Du c) where
 cl:=λ_ _ _=>rfl
 turn:=λd b g k n i j u l o m f=>by
  show compTurn (.SetComp c d b g) k n i j=_;unfold compTurn yK;rcases f with f|⟨v,y,z,f⟩
  ·simp only[m,f];rfl
  ·simp only[m,f,bne_self_eq_false,bi,if_false,bind_assoc,pure_bind]
   first|rfl|congr 1
 keep:=λ⟨p,e,q⟩ r x=>⟨p,e,x.keep _ _ q r⟩
 new:=λ{P w A E Q s}h=>by
  unfold Du newSet setsByText;refine aa (aa (fi (ah ?_)));dsimp only;simp only[newObj];refine aa (wpAny_alloc (ah (h (Wx w) rfl λH h a _ e=>Nd ?_)));exact⟨_,#[],0,_,e,⟨rfl,rfl,rfl⟩,rfl,λe t=>by simp at t,by simp,by simp,by decide,by rfl,λe=>by show(!wB w)=KM;rw[e];rfl,λe=>absurd rfl e⟩
 g0:=⟨[],rfl,qP⟩
 q1:=λ_ _ _ _ _ _ _=>rfl
 u1:=λ_ _ _ _ _ _ _ _=>rfl
 d1:=λ_ _ _ _ _ _ _ _ _=>rfl
 u2:=λ_ _ _ _ _ _ _ _=>rfl
 d2:=λ_ _ _ _ _ _ _ _ _=>rfl
def NX(g:H A=KB (.ext (oA P w A ks)))(S:oA P w A ks h):∀a,oz H a->oz (upd H A o) a:=by
 rintro a ⟨l,b,m,n⟩;have p:a≠A:=by rintro rfl;rw[g] at b;cases b
 refine⟨l,by rw[pI p];exact b,m,λd r e=>?_⟩;obtain⟨c,s,rfl,f,i⟩:=n d r e;have u:c≠A:=by
  rintro rfl;rw[g] at f;cases f;obtain⟨q,z,B,C,t,v,j,k,_⟩:=i h S;cases v;obtain⟨D,E,F,G,x,_,y,_⟩:=S;rw[x] at j;cases j;rw[y] at k;cases k
 exact⟨c,s,rfl,by rw[pI u];exact f,i⟩
section
variable{X:Cx}{A:ae}{XV:List ae}{elt:aT}{gens:List bP}{te:DE}
def zdd(J:X.xe=λ_ _=>False)(L:PD X qc elt te)(M:gens[k]?=KF):yh X Z (Du elt) A XV e gens (xV te) k []:=by
 intro a s z H i F O N Q E _ B q;unfold yK;rw[M];show am _ _ (do let v <- eval elt X.env;standAt elt.pos;let _ <- call (.builtin "set.add") [.ref A,v]) _ _ s;obtain⟨f,rfl,P⟩:=B.grown;cases j:te F O with
 | ok d O1=>
  have l:=q;unfold sY xV at l;rw[j] at l;cases d with
  | str cs=>
   have n:xo X (Du elt) A XV a z H i (pX []) (if (f.map D.str).length<1000 then .ok (f.map D.str++[.str cs]) O1 else .bad) Q:=l;by_cases C:(f.map D.str).length<1000
   ·rw[qb C] at n;refine aa (yR J (L.out a s z H (λv p=>∃g,Ext H i p g/\n6 X.K p (A::XV) g O1/\Y2 X.K p (A::XV) g (.str cs) v) B.inv ⟨A::XV,i,F,O,B.env,B.cells,by rw[j];exact λv H' R x c r=>⟨R,x,c,r⟩⟩)
     λu T ⟨v,p,G,U,g,x,c,r⟩=>?_)
    have V:A∉i:=λm=>B.cells.nh A m 'k';have y:=x.keep A _ P V;unfold Y2 at r;subst r;obtain⟨t,rfl⟩:=U;have S:oA X.prog X.w A (uR (f.map toS)) T.heap:=(G.hok A _ y).1;have W:(uR (f.map toS)).length+1<scanBound:=by
     have Y:=YO (f.map toS);rw[ax] at Y C;unfold scanBound;lia
    refine aa (ez (aa (ZL S W λI sb h=>ah ?_)));rw[<- zgW] at h;have h:oA X.prog X.w A (uR ((f++[cs]).map toS)) I:=by rw[dE];exact h
    have AD:∃u,I.get? A=KB u:=let ⟨o,_,_,_,ho,_⟩:=h;⟨o,ho⟩;exact n _ z _ g (G.write (x:=A) (e:=A) (by rw[y];exact trivial) (.inl rfl) (λb u hb hu=>(sb.2 b hb).trans hu) AD (Nd h)) (x.ea.trans (.putX (NX y S))) (c.putX (NX y S)) ⟨f++[cs],by simp,qP⟩ rfl λ_ _=>rfl
   ·rw[qq C] at n;exact n.elim
  |_=>exact aj l
 | exc c O1=>
  unfold sY xV at q;rw[j] at q;exact q.elim
 | bad=>
  unfold sY xV at q;rw[j] at q;exact q.elim
end
section
variable{X:Cx}{Ex:Nat->Hp->Prop}
def zcf(ext:List Str)(h:X.calm=KM)(i:sC X Ex tg iter it0)(j:vf X.env.scope scope (X.N++ext) (pX (⟨it0,g,ts⟩::cs)))
  (k:∀cells C s H a,PG (p_ X (X.N++ext) scope cells C s H a) tg (g.rd X.K)/\ck (λe t=>qF (p_ X (X.N++ext) scope cells C s H a) qc e t) ifs ts/\oC (p_ X (X.N++ext) scope cells C s H a) gs cs/\PD (p_ X (X.N++ext) scope cells C s H a) qc elt te)
  (l:∀x,bK iter X.env x=pure x:=by intro _;rfl):PE X (.SetComp elt (⟨tg,iter,ifs,0⟩::gs) scope pos) (λd H Q=>∃XV μ σ O,n9 X.K H XV μ σ d/\n6 X.K H XV μ O/\Dt (Du elt) Ex X.K X.prog X.w H XV μ (wQ ext.length it0 g ts cs (xV te) σ O) λL H'=>Q (.ref L) H'):=by
 rintro f s d H Q I ⟨XV,μ,σ,O,n,o,q⟩;show am _ _ (comprehension (.SetComp elt (⟨tg,iter,ifs,0⟩::gs) scope pos) scope X.env _ (newSet (.type "set")) K7 (eval iter X.env)) _ _ s;refine D7 (zh5 elt) (use:=KF) h i j (λcells p s H a _ _ _=>let ⟨h1,h2,h3,h4⟩:=k cells p s H a;⟨h1,h2,h3,λ_ _ _ r=>zdd rfl h4 r⟩) l I n o ?_;cases b:wQ ext.length it0 g ts cs (xV te) σ O with
 |bad=>rw[b] at q;exact q
 |exc c' O'=>rw[b] at q;exact q
 | ok K4 O'=>
  rw[b] at q;intro L H' u v x c y P C z A B D E F G;obtain⟨m,J⟩:=A;exact⟨m,J,λR M=>⟨.ref L,H',Inv.bare z M B D E F G,rfl,q L H' u v x c y⟩⟩
theorem G0{K:ai}{H:Hp}{XV μ:List ae}:∀a:List (List Nat),n8 K H XV μ (a.map D.str) (a.map λcs=>V.str (toS cs))
 |[]=>.nil
 |cs::r=>.cons JJ (G0 r)
def MY(o:Bool)(r:R (List D)):R D:=r.bnd λK4 O1=>match ue K4 with
 |some ss=>if ss.length<1000 then (if o=KM then .ok (.own O1.length) (O1++[(p8 ss).map .str]) else .ok (.lst ((p8 ss).map .str)) O1) else .bad
 |none=>.bad
theorem strL_map:∀a:List (List Nat),ue (a.map D.str)=KB a
 |[]=>rfl
 |cs::r=>by show(ue (r.map D.str)).map _=_;rw[strL_map r];rfl
end
section
variable{t:DA}
def Nq(o:Bool)(t:DA):DE:=λσ O=>(t σ O).bnd λxs O1=>match xs with
 | [x]=>match (match rJ O1 x with|some ds=>KB ds|none=>Ao x) with
  |some ds=>MY o (.ok ds O1)
  |none=>.bad
 |_=>.bad
end
end DL
namespace DL
open PySem L2
structure Nx(l:List Str):Prop
section
variable{X:Cx}{Ex:Nat->Hp->Prop}{elt tg iter:aT}{ifs:List aT}{gs:List bP}{scope:c8}{pos r8 py:Pos}{x y:Str}{i k:Nat}{ext:List Str}{it0:DI}{g:Tg}{ts:List DT}{cs:List Cl}{te:DE}
abbrev Ds(X:Cx)(ext:List Str)(scope:c8)(tg:aT)(g:Tg)(ifs:List aT)(ts:List DT)(gs:List bP)(cs:List Cl)(elt:aT)(te:DE):Prop:=∀cells C s H fp,PG (p_ X (X.N++ext) scope cells C s H fp) tg (g.rd X.K)/\ck (λe t=>qF (p_ X (X.N++ext) scope cells C s H fp) qc e t) ifs ts/\oC (p_ X (X.N++ext) scope cells C s H fp) gs cs/\PD (p_ X (X.N++ext) scope cells C s H fp) qc elt te
def Rc(_:Nx ext)(o:Bool)(a:X.calm=KM)(b:vf X.env.scope scope (X.N++ext) (pX (⟨it0,g,ts⟩::cs)))(c:sC X Ex tg iter it0)(d:Ds X ext scope tg g ifs ts gs cs elt te)(e:ext.length=k:=by rfl)(f:∀x,bK iter X.env x=pure x:=by intro _;rfl):
  PD X Ex (.ListComp elt (⟨tg,iter,ifs,0⟩::gs) scope pos) (qj o k it0 g ts cs te):=e▸YZ o ext a c b d f
def SQ(_:Nx ext)(o:Bool)(a:X.calm=KM)(b:X.N.Nodup)(c:X.N[i]?=KB y)(d:X.env.scope.names.lookup y=KB .local)(e:vf X.env.scope scope (X.N++ext) (pX (⟨it0,g,ts⟩::cs)))(f:sC X Ex tg iter it0)(h:Ds X ext scope tg g ifs ts gs cs elt te)
  (j:swapsWith (.ListComp elt (⟨tg,iter,ifs,0⟩::gs) scope pos) (KB (.Name y py)) r8.line X.env=pure KM) (l:ext.length=k:=by rfl) (m:∀x,bK iter X.env x=pure x:=by intro _;rfl):
  rK X Ex (.Assign [.Name y py] (.ListComp elt (⟨tg,iter,ifs,0⟩::gs) scope pos) r8) (pY i (qj o k it0 g ts cs te)):=l▸zaG o ext a b c d f e h j m
end
noncomputable def vA(c:DT)(b:DS):Nat->Sg->Ow->RS
 |0,_,_=>.bad
 | f+1,σ,O=>(c σ O).bnS λk O1=>if k=KM then (match b σ O1 with
   |.nx σ' O'=>vA c b f σ' O'
   |.ct σ' O'=>vA c b f σ' O'
   |.bk σ' O'=>.nx σ' O'
   |r=>r) else .nx σ O1
def Jj(f:Nat)(c:DT)(b:DS):DS:=vA c b f
section
variable{X:Cx}{Ex:Nat->Hp->Prop}{pos:Pos}
def zf6(f:Nat)(y:km (av X.prog X.w) X.A X.env X.xe)(B:qF X Ex c tc)(C:sV X Ex body tb):rK X Ex (.While c body [] pos) (Jj f tc tb):=
 xl (zht y B.out C.out) λa g b O E h H j l q=>by
  refine⟨λm h H=>∃a g b O,n9 X.K H a g b h/\n6 X.K H a g O/\og Ex X.K H a g (vA tc tb m b O) E,⟨f,a,g,b,O,j,l,q⟩,?_⟩;rintro m h H ⟨a,g,b,O,j,l,q⟩;cases m with
  |zero=>exact aj q
  | succ f=>
   refine wc.goS j l q λk n t o u G v p=>?_;cases k with
   |false=>exact p h t o .refl u v
   | true=>
    rw[qb rfl];refine⟨λh H=>∃a g b O,n9 X.K H a g b h/\n6 X.K H a g O/\og Ex X.K H a g (vA tc tb f b O) E,λ_ _ z=>⟨f,cC _,z⟩,a,o,b,n,u,v,?_⟩;have p:og Ex X.K t a o (match tb b n with|.nx σ' O'=>vA tc tb f σ' O'|.ct σ' O'=>vA tc tb f σ' O'|.bk σ' O'=>.nx σ' O'|r=>r) E:=p;cases i:tb b n with
    |nx σ' O'=>rw[i] at p;exact λD F s x e c=>⟨a,s,σ',O',e,c,og.ext p x⟩
    |ct σ' O'=>rw[i] at p;exact λD F s x e c=>⟨a,s,σ',O',e,c,og.ext p x⟩
    |bk σ' O'=>rw[i] at p;exact p
    |rt d O'=>rw[i] at p;exact p
    |exc c' O'=>rw[i] at p;exact p
    |bad=>rw[i] at p;exact p
end
end DL
namespace DL
open PySem L2 PyProof.Rows
abbrev DK:=Sum Int (List Nat)
noncomputable def vS:D->Option DK
 |.int i=>KB (.inl i)
 |.str cs=>KB (.inr cs)
 |_=>KF
def B9(k:DK):D->Bool
 |.map [j] _=>decide (j=k)
 |_=>K7
def CY:List D->List DK
 |.map [k] _::r=>k::CY r
 |_=>[]
def CZ:List D->List D
 |.map _ [d]::r=>d::CZ r
 |_=>[]
def rY(p:DK×D):D:=.map [p.1] [p.2]
theorem JC:∀a:List (DK×D),CY (a.map rY)=a.map (·.1)
 |[]=>rfl
 |p::r=>by show p.1::CY (r.map rY)=_;rw[JC r];rfl
theorem JK:∀a:List (DK×D),CZ (a.map rY)=a.map (·.2)
 |[]=>rfl
 |p::r=>by show p.2::CZ (r.map rY)=_;rw[JK r];rfl
def Co:∀{a b:DK},kD a=kD b->a=b
 |.inl i,.inl j,h=>by cases h;rfl
 | .inr x,.inr y,h=>by
  have h:(⟨x.toArray⟩:Str)=⟨y.toArray⟩:=gQ h;have h:x.toArray=y.toArray:=congrArg Str.cps h;have:x=y:=by simpa using h
  rw[this]
 |.inl _,.inr _,h=>by cases h
 |.inr _,.inl _,h=>by cases h
def BS(tk tv:DE):Em:=λσ O K4=>(tk σ O).bnd λx O1=>match vS x with
 |some k=>(tv σ O1).bnd λd O2=>if K4.length<1000/\K4.any (B9 k)=K7 then .ok (K4++[.map [k] [d]]) O2 else .bad
 |none=>.bad
def Cg(ke ve:aT):uS where
 ex:=λgens scope pos=>.DictComp ke ve gens scope pos
 emit:=λK4 env=>do
  let kv <- eval ke env;let vv <- holding [kv] (eval ve env)
  match K4 with
  | .ref d=>do
   standAt { ke.pos with endLine:=ve.pos.endLine,endCol:=ve.pos.endCol }
   holding [kv,vv] (dictSet d kv vv)
  |_=>unsupported "internal:dictcomp"
 new:=newDict
 ho:=λ_ _ _=>.dK []
 G:=λK _ _ A XV H μ K4=>∃(ps:List (DK×D))(vs:List V),K4=ps.map rY/\H A=KB (.dK ((ps.map λp=>kD p.1).zip vs))/\ps.length=vs.length/\n8 K H (A::XV) μ (ps.map (·.2)) vs
def zgr(j l:aT):zZ (Cg j l) where
 cl:=λ_ _ _=>rfl
 turn:=λc b f k o g i z m p n d=>by
  show compTurn (.DictComp j l c b f) k o g i=_;unfold compTurn yK;rcases d with d|⟨A,B,C,d⟩
  ·simp only[n,d];rfl
  ·simp only[n,d,bne_self_eq_false,bi,if_false,bind_assoc,pure_bind]
   first|rfl|congr 1
 keep:=λ⟨q,r,e,s,t,u⟩ v x=>⟨q,r,e,x.keep _ _ s v,t,u.ext x⟩
 new:=λh=>b9 (h _ rfl λH h a w e=>by
  refine⟨cn _,beq_eq_false_iff_ne.mpr (bB (bh w)),[],.nil,?_⟩;exact⟨_,#[],0,e,⟨rfl,rfl,rfl⟩,rfl,λ_ y=>by simp at y,Pairs.nil,ie⟩)
 g0:=⟨[],[],rfl,qP,rfl,.nil⟩
 q1:=λ_ _ _ _ _ _ _=>rfl
 u1:=λ_ _ _ _ _ _ _ _=>rfl
 d1:=λ_ _ _ _ _ _ _ _ _=>rfl
 u2:=λ_ _ _ _ _ _ _ _=>rfl
 d2:=λ_ _ _ _ _ _ _ _ _=>rfl
def xk(g:H A=KB (.dK k_)):∀a,oz H a->oz (upd H A o) a:=by
 rintro a ⟨h,b,i,j⟩;have k:a≠A:=by rintro rfl;rw[g] at b;cases b
 refine⟨h,by rw[pI k];exact b,i,λd l e=>?_⟩;obtain⟨c,m,rfl,f,n⟩:=j d l e;have p:c≠A:=by rintro rfl;rw[g] at f;cases f
 exact⟨c,m,rfl,by rw[pI p];exact f,n⟩
theorem QC:∀(ps:List (DK×D))(vs:List V),(ps.map rY).any (B9 k)=K7->tT ((ps.map λp=>kD p.1).zip vs) (kD k)=KF
 |[],_,_=>rfl
 |_::_,[],_=>rfl
 | p::r,v::vs,h=>by
  rw[bH,gL,Bool.or_eq_false_iff] at h;obtain⟨a,b⟩:=h;have n:¬ p.1=k:=λe=>by
   have:decide (p.1=k)=K7:=a;rw[decide_eq_true e] at this;cases this
  show tT ((kD p.1,v)::(r.map λp=>kD p.1).zip vs) (kD k)=KF;rw[Ad (p:=(kD p.1,v)) (λe=>n (Co e))];exact QC r vs b
def IZ{K:ai}{H:Hp}{XV μ:List ae}{x:D}{k:DK}{v:V}(e:vS x=KB k)(h:Y2 K H XV μ x v):v=kV (kD k):=by
 cases x with
 |int i=>cases e;unfold Y2 at h;exact h
 |str cs=>cases e;unfold Y2 at h;exact h
 |_=>cases e
section
variable{X:Cx}{A:ae}{XV:List ae}{ke ve:aT}{gens:List bP}{tk tv:DE}
def zeC{Z:L2.St->Hp->List ae->Prop}{k:Nat}{e:aT}(W:X.xe=λ_ _=>False)(L:PD X qc ke tk)(M:PD X qc ve tv)(hk:gens[k]?=KF):yh X Z (Cg ke ve) A XV e gens (BS tk tv) k []:=by
 intro b s i H j l O K4 Q E _ B q;unfold yK;rw[hk];show am _ _ (do
  let kv <- eval ke X.env;let vv <- holding [kv] (eval ve X.env)
  (do
   standAt { ke.pos with endLine:=ve.pos.endLine,endCol:=ve.pos.endCol }
   holding [kv,vv] (dictSet A kv vv))) _ _ s
 obtain⟨a,n,rfl,hA,N,dA⟩:=B.grown;unfold sY BS at q;cases D:tk l O with
 |exc c O1=>rw[D] at q;exact q.elim
 |bad=>rw[D] at q;exact q.elim
 | ok x O1=>
  rw[D] at q;have f:xo X (Cg ke ve) A XV b i H j (pX []) (match vS x with
   |some k=>(tv l O1).bnd λd o=>if (a.map rY).length<1000/\(a.map rY).any (B9 k)=K7 then .ok (a.map rY++[.map [k] [d]]) o else .bad
   |none=>.bad) Q:=q
  cases P:vS x with
  |none=>rw[P] at f;exact f.elim
  | some kk=>
   rw[P] at f;dsimp only at f;refine aa (yR W (L.out b s i H (λv g=>∃h,Ext H j g h/\n6 X.K g (A::XV) h O1/\Y2 X.K g (A::XV) h x v) B.inv ⟨A::XV,j,l,O,B.env,B.cells,by rw[D];exact λv H' R x c r=>⟨R,x,c,r⟩⟩)
    λu s1 ⟨v,g,I1,ru,h,Y,c1,r1⟩=>?_)
   cases F:tv l O1 with
   |exc c o=>rw[F] at f;exact f.elim
   |bad=>rw[F] at f;exact f.elim
   | ok d o=>
    rw[F] at f;have G:xo X (Cg ke ve) A XV b i H j (pX []) (if (a.map rY).length<1000/\(a.map rY).any (B9 kk)=K7 then .ok (a.map rY++[.map [kk] [d]]) o else .bad) Q:=f;by_cases I:(a.map rY).length<1000/\(a.map rY).any (B9 kk)=K7
    ·rw[qb I] at G;refine aa (bz (yR W (M.out b s1 i g (λv J=>∃t,Ext g h J t/\n6 X.K J (A::XV) t o/\Y2 X.K J (A::XV) t d v) I1 ⟨A::XV,h,l,O1,B.env.ext Y,c1,by rw[F];exact λv H' R x c r=>⟨R,x,c,r⟩⟩)
      λu2 s2 ⟨S,J,I2,K_,t,x2,c2,r2⟩=>?_))
     refine aa (ez (bz ?_));have nA:A∉j:=λm=>B.cells.nh A m 'k';have T:=Y.trans x2;have w:=T.keep A _ hA nA;have U:=dA.ext T;have ek:=IZ P r1;subst ek;obtain⟨z,hd,ws,y,dd⟩:=Gd I2.hok w;have C:((a.map λp=>kD p.1).zip n).length=a.length:=by rw[np,ax,<- N,Nat.min_self]
     have V:a.length<1000:=by have:=I.1;rwa [ax] at this
     have hz:ws.length<=qN:=by rw[<- y.length];exact z
     refine wpAny_dictSet_pairs (hsz:=hz) (Gh ru) dd λh' yA sb=>?_;have he:∃q,h'.get? A=KB q:=let ⟨q,_,_,hq,_⟩:=yA;⟨q,hq⟩;have tI:(vo ((a.map λp=>kD p.1).zip n) (kD kk) S).length<=qN:=aM (SI _ _ _) (by rw[C];exact aM V 'u');have I3:=JM (t':=s2.toks+1) (ob:=.dK (vo ((a.map λp=>kD p.1).zip n) (kD kk) S)) I2 (by rw[w];exact ft) sb he (Gv tI hd (y.put _ K_) yA);rw[Kb _ (QC a n I.2)] at I3;refine G _ i _ t I3 (T.ea.trans (.putX (xk w))) (c2.putX (xk w)) ⟨a++[(kk,d)],n++[S],by rw[dE];rfl,?_,by simp[N],?_⟩ rfl λ_ _=>rfl
     ·rw[qP,dE,List.zip_append (by rw[ax];exact N)];rfl
     ·rw[dE];exact(U.append (.cons r2 .nil)).mv (Ea.putX (A:=A) (xk w)).mv
    ·rw[qq I] at G;exact G.elim
end
def Inv.swapK(I:L2.Inv X Y1 σ H s)(e:H a=KB u0)(h:(∃i,u0=.dK i) \/ ∃o i,u0=.frz o (.dK i))(r:∀o u,X.H₀ a≠KB (.frz o u))(j:oy X.prog X.w (upd H a u1) s.heap a u1):L2.Inv X Y1 σ (upd H a u1) s:=by
 have k:∀{b:ae}{d:List V},H b=KB (.tup d)->b≠a:=λ{b d}z q=>by
  rw[q,e] at z;rcases h with⟨_,rfl⟩|⟨_,_,rfl⟩<;>cases z
 have f:∀{b:ae},H b=KF->upd H a u1 b=KF:=λ{b}z=>by rw[pI (bB (rm e z))];exact z
 refine⟨I.ok,I.os,I.bare,⟨I.base.keep,I.base.slot,λb o g n t=>f (I.base.free b o g n t),I.base.there,λb d g=>?_,λb o u g=>?_,λb v g=>?_⟩,I.loc,I.cell,f I.free,λx c g=>f (I.freeC x c g),λp y=>let ⟨g1,g2,g3⟩:=I.pin p y;⟨g1,f g2,g3⟩,λb u g=>?_,I.len,I.tk⟩
 ·have z:=I.base.tups b d g;rw[pI (k z)];exact z
 ·have n:b≠a:=λq=>r o u (q▸g);rw[pI n];exact I.base.frzs b o u g
 ·obtain⟨m,z⟩:=I.base.tbls b v g;refine⟨m,?_⟩;rw[pI (λq=>?_)];exact z;rw[q,e] at z;rcases h with⟨_,rfl⟩|⟨_,_,rfl⟩<;>cases z
 ·by_cases l:b=a
  ·subst l;rw[qP] at g;cases g;exact j
  ·rw[pI l] at g;refine(I.hok b u g).stay (λ_ _ _ z=>z) (λA z=>?_) λA d z=>?_
   ·rw[pI (λq=>?_)];exact z;rw[q,e] at z;rcases h with⟨_,rfl⟩|⟨_,_,rfl⟩<;>cases z
   ·rw[pI (k z)];exact z
def Inv.nofrz(I:L2.Inv X Y1 σ H s)(e:H a=KB (.dK k_)):∀o u,X.H₀ a≠KB (.frz o u):=λo u z=>by
 have:=I.base.frzs a o u z;rw[e] at this;cases this
def Inv.frzK(I:L2.Inv X Y1 σ H s)(e:H a=KB (.dK k_)):∃o,L2.Inv X Y1 σ (upd H a (.frz o (.dK k_))) s:=by obtain⟨z,d,f,b,c⟩:=Gd I.hok e;obtain⟨o,h,i,g,r⟩:=id c;exact⟨o,Inv.swapK I e (.inl ⟨_,rfl⟩) (Inv.nofrz I e) ⟨g,z,d,f,b,c⟩⟩
def Inv.thawK(I:L2.Inv X Y1 σ H s)(e:H a=KB (.frz o (.dK k_)))(c:∀o u,X.H₀ a≠KB (.frz o u)):L2.Inv X Y1 σ (upd H a (.dK k_)) s:=by obtain⟨z,d,f,b,g⟩:=Gm I.hok (.inr ⟨o,e⟩);exact Inv.swapK I e (.inr ⟨_,_,rfl⟩) c ⟨z,d,f,b,g⟩
def zan{K:ai}{H:Hp}{XV μ:List ae}{O:Ow}{L:ae}{a:List (DK×D)}{vs:List V}{o:Obj}(c:n6 K H (L::XV) μ O)(b:L∉XV)(h:H L=KB (.frz o (.dK ((a.map λp=>kD p.1).zip vs))))(d:a.length=vs.length)(q:n8 K H (L::XV) μ (a.map (·.2)) vs):
  Y2 K H XV μ (.map (CY (a.map rY)) (CZ (a.map rY))) (.ref L):=by rw[JC,JK];unfold Y2;exact⟨L,vs,rfl,⟨o,by rw[bg];exact h⟩,b,λm=>c.nh L m 'k',by rw[ax];exact d,q.mv .unhide⟩
def A1(ext:Nat)(it0:DI)(g:Tg)(ts:List DT)(cs:List Cl)(tk tv:DE):DE:=λσ O=>(wQ ext it0 g ts cs (BS tk tv) σ O).bnd λK4 O1=>.ok (.map (CY K4) (CZ K4)) O1
section
variable{X:Cx}{Ex:Nat->Hp->Prop}
def U7{f h d a:aT}{b:List aT}{gs:List bP}{scope:c8}{pos:Pos}{ext:List Str}{g:Tg}{ts:List DT}{cs:List Cl}{tk tv:DE}
  (i:∀cells C s H c,PG (p_ X (X.N++ext) scope cells C s H c) d (g.rd X.K)/\ck (λe t=>qF (p_ X (X.N++ext) scope cells C s H c) qc e t) b ts/\oC (p_ X (X.N++ext) scope cells C s H c) gs cs/\PD (p_ X (X.N++ext) scope cells C s H c) qc f tk/\PD (p_ X (X.N++ext) scope cells C s H c) qc h tv) {Z:ae->Hp->L2.St->Hp->List ae->Prop} (cells Cn s H c):
  PG (p_ X (X.N++ext) scope cells Cn s H c) d (g.rd X.K)/\ck (λe t=>qF (p_ X (X.N++ext) scope cells Cn s H c) qc e t) b ts/\oC (p_ X (X.N++ext) scope cells Cn s H c) gs cs/\∀A XV k,(⟨d,a,b,0⟩::gs:List bP)[k]?=KF->yh (p_ X (X.N++ext) scope cells Cn s H c) (Z A H) (Cg f h) A XV ((Cg f h).ex (⟨d,a,b,0⟩::gs) scope pos) (⟨d,a,b,0⟩::gs) (BS tk tv) k []:=
 let ⟨h1,h2,h3,h4,h5⟩:=i cells Cn s H c
 ⟨h1,h2,h3,λ_ _ _ j=>zeC rfl h4 h5 j⟩
def zfP(ext:List Str)(B:X.calm=KM)(D:sC X Ex tg iter it0)(E:vf X.env.scope scope (X.N++ext) (pX (⟨it0,g,ts⟩::cs)))
  (F:∀cells C s H a,PG (p_ X (X.N++ext) scope cells C s H a) tg (g.rd X.K)/\ck (λe t=>qF (p_ X (X.N++ext) scope cells C s H a) qc e t) ifs ts/\oC (p_ X (X.N++ext) scope cells C s H a) gs cs/\PD (p_ X (X.N++ext) scope cells C s H a) qc ke tk/\PD (p_ X (X.N++ext) scope cells C s H a) qc ve tv)
  (G:∀x,bK iter X.env x=pure x:=by intro _;rfl):PD X Ex (.DictComp ke ve (⟨tg,iter,ifs,0⟩::gs) scope pos) (A1 ext.length it0 g ts cs tk tv):=by
 refine⟨?_⟩;rintro j s c_ H Q I ⟨f,μ,M,O,P,k,q⟩;show am _ _ (comprehension (.DictComp ke ve (⟨tg,iter,ifs,0⟩::gs) scope pos) scope X.env _ newDict K7 (eval iter X.env)) _ _ s;unfold A1 at q;refine D7 (zgr ke ve) (use:=KF) B D E (λcells R s H a _ _ _=>U7 F cells R s H a) G I P k ?_;cases h:wQ ext.length it0 g ts cs (BS tk tv) M O with
 |bad=>rw[h] at q;exact q
 |exc c' O'=>rw[h] at q;exact q
 | ok K4 O'=>
  rw[h] at q;rintro L l r v x c ⟨w,y,rfl,i,S,T⟩ s' C U V W Y Z ce pn;obtain⟨m,hn⟩:=V;have n1:L∉f:=λm=>k.ht L m v;refine⟨m,hn,λh' zm=>?_⟩;obtain⟨o,J⟩:=Inv.frzK (Inv.bare U zm W Y Z ce pn) i;have z:Ea L l r (upd l L (.frz o (.dK ((w.map λp=>kD p.1).zip y)))) r:=.putX (xk i);have A:=c.putX (o:=.frz o (.dK ((w.map λp=>kD p.1).zip y))) (xk i);have d:=x.ea.trans z;exact⟨.ref L,_,J,rfl,post.ok q ⟨d.pre,λb u g n ht=>d.kept b u g n (rm g v) ht,d.fresh,d.there,d.tab⟩ A.unhide (zan A n1 qP S (T.mv z.mv))⟩
end
def YR{b:List (List Nat)}{a:List Str}(d:a.Perm (b.map toS))(f:b.Nodup)(g:sortedS a=KM):a=(p8 b).map toS:=by
 have i:(b.map toS).Nodup:=by
  rw[jE] at f ⊢;rw[fQ];refine f.imp λh e=>h ?_;have e:(toS _).cps=(toS _).cps:=congrArg Str.cps e;simpa using e
 have j:(a.map (·.cps.toList)).Pairwise (· < ·):=by
  cases a with
  |nil=>exact eS
  |cons p l=>exact Ko p l g (d.nodup_iff.mpr i)
 have k:a.map (·.cps.toList)=p8 b:=D5 j (CB b) λx=>by
  rw[xr,aB];constructor
  ·rintro⟨o,m,rfl⟩;obtain⟨r,n,rfl⟩:=aB.mp (d.mem_iff.mp m);exact n
  ·intro q;exact⟨toS x,d.mem_iff.mpr (aB.mpr ⟨x,q,rfl⟩),rfl⟩
 rw[<- k,bg];refine(gT a).symm.trans (dS λo _=>?_);obtain⟨c⟩:=o;rfl
def ZH(h:toS a=toS b):a=b:=by have e:(toS a).cps=(toS b).cps:=congrArg Str.cps h;simpa using e
def Zc(b:List (List Nat))(d:(uR (b.map toS)).Nodup):(uR (b.map toS)).length=(p8 b).length:=by
 have f:((p8 b).map toS).Nodup:=by
  have:=CB b;rw[jE,fQ];refine this.imp λh e=>?_;rw[ZH e] at h;exact absurd h (fZ _)
 have g:(uR (b.map toS)).Perm ((p8 b).map toS):=(List.perm_ext_iff_of_nodup d f).mpr λa=>by
  rw[JS,aB,aB];exact⟨λ⟨x,c,e⟩=>⟨x,(xr b).mpr c,e⟩,λ⟨x,c,e⟩=>⟨x,(xr b).mp c,e⟩⟩
 rw[g.length_eq,ax]
def M3(o:Bool)(r:R (List D)):R D:=r.bnd λK4 O1=>match ue K4 with
 |some ss=>if (p8 ss).length<1000 then (if o=KM then .ok (.own O1.length) (O1++[(p8 ss).map .str]) else .ok (.lst ((p8 ss).map .str)) O1) else .bad
 |none=>.bad
def zS(o:Bool)(ext:Nat)(it0:DI)(g:Tg)(ts:List DT)(cs:List Cl)(te:DE):DE:=λσ O=>M3 o (wQ ext it0 g ts cs (xV te) σ O)
section
variable{X:Cx}{Ex:Nat->Hp->Prop}
def zfC(f:X.calm=KM):on X (.builtin "sorted") (λxs H Q=>∃a b,xs=[.ref a]/\H a=KB (.ext (oA X.prog X.w a b))/\(b.Nodup->b.length<1000)/\∀l d,d.Perm b->b.Nodup->sortedS d=KM->H l=KF->Q (.ref l) (upd H l (.lst (d.map V.str)))):=by intro c s g H xs i Q I r h;obtain⟨a,b,rfl,e,j,q⟩:=h;have k:oA X.prog X.w a b s.heap:=(I.hok a _ e).1;exact zeS f c s g H _ i Q I r ⟨a,b,rfl,e,j k.nd,q⟩
def Yd(o:Bool)(ext:List Str)(m:X.calm=KM)(r:Gl X x)(u:X.mg x=KF)(v:bA x=KB (.builtin "sorted"))(w:sC X Ex tg iter it0)(y:vf X.env.scope scope (X.N++ext) (pX (⟨it0,g,ts⟩::cs)))
  (z:∀cells C s H h,PG (p_ X (X.N++ext) scope cells C s H h) tg (g.rd X.K)/\ck (λe t=>qF (p_ X (X.N++ext) scope cells C s H h) qc e t) ifs ts/\oC (p_ X (X.N++ext) scope cells C s H h) gs cs/\PD (p_ X (X.N++ext) scope cells C s H h) qc elt te)
  (j:∀x,bK iter X.env x=pure x:=by intro _;rfl) (d:x ≠ "__name__":=by decide) (A:(x==("__debug__":Str))=K7:=by decide):
  PD X Ex (.Call (.Name x p) [.SetComp elt (⟨tg,iter,ifs,0⟩::gs) scope pos] [] Lc) (zS o ext.length it0 g ts cs te):=
 q9 (Kg (zfC m) r u v (DP (zcf ext m w y z j) Gw (by rfl)) d A (by rfl) (by rfl)) λa i n O J H Q B E q=>by
  refine⟨a,i,n,O,B,E,?_⟩;unfold zS at q;cases k:wQ ext.length it0 g ts cs (xV te) n O with
  |bad=>rw[k] at q;exact q
  |exc c' O'=>rw[k] at q;exact q
  | ok K4 O'=>
   rw[k] at q;rintro L M P R x c ⟨b,rfl,F⟩;have q:qy Ex X.K H a i (match ue (b.map D.str) with|some b=>if (p8 b).length<1000 then (if o=KM then .ok (.own O'.length) (O'++[(p8 b).map .str]) else .ok (.lst ((p8 b).map .str)) O') else .bad|none=>.bad) Q:=q;rw[strL_map] at q;obtain⟨G,q⟩:=post.ite q;have c:=c.unhide;refine⟨L,_,rfl,F,λd=>by rw[Zc b d];exact G,λl S I d j f=>?_⟩;have e:=W0 I d j;subst e;rw[bg];cases o with
   |true=>exact post.ok (show qy Ex X.K H a i (.ok (.own O'.length) (O'++[(p8 b).map .str])) Q from q) (x.trans (.cell f)) (c.cell f (G0 _)) (Hu c.len)
   |false=>exact post.ok (show qy Ex X.K H a i (.ok (.lst ((p8 b).map .str)) O') Q from q) (x.trans (.laid f)) (c.laid f) (Y2.newL c f (G0 _))
def Qw(_:Nx ext)(o:Bool)(a:X.calm=KM)(b:Gl X x)(c:X.mg x=KF)(d:bA x=KB (.builtin "sorted"))(e:vf X.env.scope scope (X.N++ext) (pX (⟨it0,g,ts⟩::cs)))(f:sC X Ex tg iter it0)(h:Ds X ext scope tg g ifs ts gs cs elt te)(i:ext.length=k:=by rfl)(j:∀x,bK iter X.env x=pure x:=by intro _;rfl)
  (l:x ≠ "__name__":=by decide) (m:(x==("__debug__":Str))=K7:=by decide):PD X Ex (.Call (.Name x p) [.SetComp elt (⟨tg,iter,ifs,0⟩::gs) scope pos] [] Lc) (zS o k it0 g ts cs te):=i▸Yd o ext a b c d f e h j l m
end
def vY(k:DK):List DK->List D->Option D
 |j::ks,d::ds=>if j=k then KB d else vY k ks ds
 |_,_=>KF
theorem QY{K:ai}{H:Hp}{XV μ:List ae}{k:DK}{d:D}:∀{a:List DK}{ds:List D}{vs:List V},a.length=vs.length->n8 K H XV μ ds vs->vY k a ds=KB d->∃v,tT ((a.map kD).zip vs) (kD k)=KB v/\Y2 K H XV μ d v
 |[],_,_,_,_,h=>by unfold vY at h;cases h
 |_::_,[],_,_,_,h=>by unfold vY at h;cases h
 |j::a,d'::ds,[],hl,_,_=>by cases hl
 | j::a,d'::ds,v::vs,hl,dd,h=>by
  obtain⟨g,i,b,c,f⟩:=(show ∃w r,v::vs=w::r/\Y2 K H XV μ d' w/\n8 K H XV μ ds r from dd);cases b;unfold vY at h;show ∃w,tT ((kD j,v)::(a.map kD).zip vs) (kD k)=KB w/\_;by_cases e:j=k
  ·rw[qb e] at h;cases h;exact⟨v,A9 (p:=(kD j,v)) (congrArg kD e),c⟩
  ·rw[qq e] at h;rw[Ad (p:=(kD j,v)) (λz=>e (Co z))];exact QY (mi hl) f h
def AW(td ty:DE):DE:=λσ O=>(td σ O).bnd λx O1=>match x with
 | .map ks ds=>(ty σ O1).bnd λy O2=>match vS y with
  | some k=>match vY k ks ds with
   |some d=>.ok d O2
   |none=>.bad
  |none=>.bad
 |_=>.bad
section
variable{X:Cx}{Ex:Nat->Hp->Prop}{o i:aT}{pos:Pos}{td ty:DE}
def QF{o i:aT}{pos:Pos}{td ty:TE}(n:PE X o td)(p:PE X i ty)(q:Dg i):PE X (.Subscript o i pos) (λσ H Q=>td σ H λx d=>ty σ d λy c=>∃a f k v,x=.ref a/\Rd c a (.dK f)/\y=kV k/\tT f k=KB v/\Q v c):=by intro b s σ H Q I h;refine Pm (T := "dict") jO.lookup q (pG (n b s σ H _ I h) λu r ⟨x,d,t,w,A⟩=>pG (p b r σ d _ t A) λK L ⟨y,c,j,B,a,f,k,v,C,e,D,l,E⟩=>?_);subst C D;obtain rfl:u=fx a:=w;obtain⟨z,M,F,g,m⟩:=Gm j.hok e;obtain⟨N,G,J⟩:=oO.some_of (v:=v) (o:=valueAt F k) (by rw[<- l];exact g.val k);exact⟨m.mapOf.typeIs,wpAny_getItem_of (Gh B) m.mapOf G ⟨v,c,j.tok _,J,E⟩⟩
def Yq(g:PD X Ex o td)(h:PD X Ex i ty)(j:Dg i):PD X Ex (.Subscript o i pos) (AW td ty):=
 q9 (QF g.out h.out j) λl G I O J H Q m n q=>rd.go m n q λd K v L M s x t r p=>by
  cases d with
  | map ks ds=>
   refine rd.go s t p λy N w P R S u z A b=>?_;have f:=Y2.ext u r;unfold Y2 at f;obtain⟨a,T,rfl,B,U,V,C,D⟩:=f;cases c:vS y with
   |none=>rw[c] at b;exact b.elim
   | some k=>
    rw[c] at b;dsimp only at b;cases e:vY k ks ds with
    |none=>rw[e] at b;exact b.elim
    | some d=>
     rw[e] at b;obtain⟨v,E,F⟩:=QY C D e;exact⟨a,_,kD k,v,rfl,.inr B,IZ c A,E,post.here b z F⟩
  |_=>exact aj p
end
section
variable{X:Cx}{Ex:Nat->Hp->Prop}
def W1:bA "sum" = KB (.builtin "sum"):=by boot_by_name
def zdL(f:X.calm=KM):on X (.builtin "sum") (λxs H Q=>∃(p:ae)(ns:List Int),xs=[.ref p]/\qz X.K H p (ns.map V.int)/\Q (.int ns.sum) H):=by
 intro b s t H xs v Q I r h;obtain⟨p,ns,rfl,g,q⟩:=h;obtain⟨u,rfl,i⟩:=uI r;cases i;obtain⟨w,j,k,x⟩:=I.list g;have c:=R5 j;obtain⟨a,d⟩:=c.allInts.items;have l:ns=a.toList.map (·.1):=by rw[<- c.numsOf,<- lP,<- d]
 have e:=k.isList;rw[d] at e;refine wT I (sum_intListG (I.ok.hd f) e λy m t' n z=>?_);have o:preSum (numAt a) a.size=ns.sum:=by
  rw[preSum_eq,cO 'k',l]
 rw[o];exact⟨.int _,H,I.kept (t':=m) n,⟨_,rfl⟩,q⟩
def F3:Ow->List D->R D:=λO xs=>match xs with
 | [x]=>match rJ O x with
  | some ds=>match yd ds with
   |some ns=>.ok (.int ns.sum) O
   |none=>.bad
  |none=>.bad
 |_=>.bad
def WZ:uH X Ex (λxs H Q=>∃(p:ae)(ns:List Int),xs=[.ref p]/\qz X.K H p (ns.map V.int)/\Q (.int ns.sum) H) F3:=by
 intro H a i O xs j Q c d q;unfold F3 at q;split at q
 ·rename_i x;obtain⟨v,rfl,b⟩:=uf d;split at q
  ·rename_i k e;obtain⟨p,l,rfl,f,g⟩:=uX c b e;split at q
   ·rename_i ns h;refine⟨p,ns,rfl,?_,post.here q c sN⟩;rw[<- J3 g h];exact f
   ·exact aj q
  ·exact aj q
 ·exact aj q
end
section
variable{X:Cx}{Ex:Nat->Hp->Prop}
def Rj(_:Nx ext)(b:X.calm=KM)(c:vf X.env.scope scope (X.N++ext) (pX (⟨it0,g,ts⟩::cs)))(d:sC X Ex tg iter it0)
  (f:∀cells C s H a,PG (p_ X (X.N++ext) scope cells C s H a) tg (g.rd X.K)/\ck (λe t=>qF (p_ X (X.N++ext) scope cells C s H a) qc e t) ifs ts/\oC (p_ X (X.N++ext) scope cells C s H a) gs cs/\PD (p_ X (X.N++ext) scope cells C s H a) qc ke tk/\PD (p_ X (X.N++ext) scope cells C s H a) qc ve tv)
  (h:ext.length=k:=by rfl) (i:∀x,bK iter X.env x=pure x:=by intro _;rfl):PD X Ex (.DictComp ke ve (⟨tg,iter,ifs,0⟩::gs) scope pos) (A1 k it0 g ts cs tk tv):=h▸zfP ext b d c f i
end
end DL
namespace DL
open PySem L2
open PyProof.Rows (AllBare)
structure znS(Cl:Nat->ab)(P:aN)(w:aY)(K:ai)(mg:Str->Option ab)(base:aX)(x:Str)(k n:Nat)(Pt:ae)(F:List D->Ow->R D):Prop where
 ex:∃f fd ps,mg x=KB (.ref f)/\cZ K (.ref f)=KM/\Binds K fd ps []/\oB P w K mg base (MU P w Cl) k f fd ps (yI K (Xk Cl) n Pt F)
structure xh(K:ai)(mg:Str->Option ab)(x:Str)(st:eJ)(c:ae):Prop where
 ex:∃f fd,mg x=KB (.ref f)/\L2.Fun K x x st f fd/\fd.code=.ref c
def qS(Pt iT n:Nat)(F:List D->Ow->R D)(t:DA):DE:=λσ O=>match σ[iT]? with
 |some (KB (.tab p))=>if p=Pt then j_ n F t σ O else .bad
 |_=>.bad
structure ID where
 params:iI
 body:aT
 scope:c8
 tE:DE
def W7(X:Cx)(L:ID)(c:ae)(ct:ab):Obj:={ cls:=.type "function",data:=.func (d9 "<lambda>" (X.env.qual ++ "<lambda>") L.params L.body L.scope (q_ X.env.cells L.scope.names []) ((X.mg "__name__").getD .none) (.ref c) ct) }
def oP(X:Cx)(L:ID)(H:Hp)(a:ae):Prop:=∃c φ ct,H a=KB (.ext λh=>h.get? a=KB (W7 X L c ct))/\H c=KB (.ext φ)/\∀h:aX,φ h->∃q,h.CodeRec (.ref c) q
structure zpG(Cl:Nat->ab)(X:Cx)(k:Nat)(L:ID):Prop where
 ls:zh3 X.env.scope L.scope
 df:defaultsOf L.params X.env=([],[])
 bl:∀(name qual:Str)(cl:List (Str×ae))(pm cd ct:ab),bindArgs (d9 name qual L.params L.body L.scope cl pm cd ct) ⟨[],[]⟩=pure []
 E:∀(q:Str)(lam:ae)(cd:ab)(cl:List (Str×ae))(A:ba)(outer:List Env)(s:ag)(H:Hp)(E:XK),om k (A.deeper (wI q L.scope s.heap.objs.size lam cd cl))->PD (cxL (MU X.prog X.w Cl) X.prog X.w X.K X.mg X.base X.N (wI q L.scope s.heap.objs.size lam cd cl) A outer s H E) (Xk Cl E) L.body L.tE
section
variable{X:Cx}{H H':Hp}
def oP.ext(h:oP X L H a)(x:Ext H [] H' []):oP X L H' a:=by obtain⟨c,b,d,e,f,g⟩:=h;exact⟨c,b,d,x.keep _ _ e 'k',x.keep _ _ f 'k',g⟩
end
structure II(X:Cx)(H0:Hp)(l:ae)(ls:List ID)(as:List ae)(H:Hp):Prop where
 nl:H0 l=KF
 ea:Ea l H0 [] H []
 at_:H l=KB (.lst (as.map V.ref))
 lam:ck (λL a=>oP X L H a) ls as
 nd:as.Nodup
def II.ext(b:II X H0 l ls as H)(μ:List ae):Ext H0 μ H μ:=
 ⟨⟨[],by simp⟩,λc o h _ a=>b.ea.kept c o h 'k' (rm h b.nl) a,λ_ m=>.inl m,b.ea.there,b.ea.tab⟩
def II.cells(b:II X H0 l ls as H)(c:n6 K H0 XV μ O):n6 K H XV μ O:=by refine⟨c.len,c.nd,c.nh,λa m=>b.ea.there a (c.ht a m),λk a e=>?_⟩;obtain⟨f,g,h,d,i⟩:=c.at_ k a e;exact⟨f,g,h,b.ea.kept a _ d 'k' (rm d b.nl) (by intro j z;cases z),i.ext (b.ext μ)⟩
def n9.take(e:n9 K H XV μ σ c_)(n:Nat):n9 K H XV μ (σ.take n) (c_.take n):=
 ⟨by simp[e.len],λi d h=>by
  rw[jn] at h;split at h
  ·rename_i a;obtain⟨v,b,c⟩:=e.at_ i d h;exact⟨v,by rw[jn,qb a];exact b,c⟩
  ·cases h⟩
def n9.drop(e:n9 K H XV μ σ c_)(i:Nat):n9 K H XV μ (σ.set i KF) c_:=
 ⟨by simp[e.len],λj d h=>by
  by_cases a:i=j
  ·subst a;by_cases b:i<σ.length
   ·rw[bw b] at h;cases h
   ·rw[aQ.mpr (by simp;lia)] at h;cases h
  ·rw[bq a] at h;exact e.at_ j d h⟩
section
end
def oP.mono(h:oP X L H a)(k:∀b d,H b=KB (.ext d)->H' b=KB (.ext d)):oP X L H' a:=by obtain⟨c,d,e,f,g,i⟩:=h;exact⟨c,d,e,k _ _ f,k _ _ g,i⟩
end DL
namespace DL
open PySem L2 PySem.Spec PyProof.Rows
open Sem (wp)
theorem GS{α:Type}(l:List α):∀k:Nat,(aw k l).flatten.length=k*l.length
 |0=>by simp
 |k+1=>by rw[i6,ik,aE,GS l k,Nat.succ_mul,l5]
end DL
namespace DL
open PySem L2 PySem.Spec PyProof.Rows
open Sem (wp)
open AutoSeq1 (wpAny_loadPart')
end DL
namespace DL
open PySem L2 PySem.Spec PyProof.Rows
section
end
end DL
namespace DL
open PySem L2
section
variable{Ex:Nat->Hp->Prop}
def og.seq(q:og Ex K H XV μ (n_ t u σ O) E):og Ex K H XV μ (t σ O) { E with nx:=λf H'=>Lb Ex K u E f H' }:=by
 unfold n_ at q;cases e:t σ O with
 | nx σ' O'=>
  rw[e] at q;exact λi H' g h a b=>⟨XV,g,σ',O',a,b,q.ext h⟩
 |rt d O'=>rw[e] at q;exact q
 |bk σ' O'=>rw[e] at q;exact q
 |ct σ' O'=>rw[e] at q;exact q
 |exc c O'=>rw[e] at q;exact q
 |bad=>rw[e] at q;exact q
end
end DL
namespace DL
open PySem L2 PySem.Spec PyProof.Rows
noncomputable def NT:List ab->List Int->Bool
 |[],[]=>KM
 |.int i _::vs,k::ks=>i==k&&NT vs ks
 |_,_=>K7
def Vg(o:Obj)(ks:List Int):Bool:=(match o.cls with|.type n=>n == "tuple"|_=>K7)&&o.dict.isNone&&(match o.data with|.seq h_ _=>NT h_.toList ks&&decide (h_.size<=1000)|_=>K7)
structure zpL(K:ai)(mg:Str->Option ab)(x:Str)(ks:List Int):Prop where
 ex:∃e o,mg x=KB (.ref e)/\K.lookup e=KB o/\Vg o ks=KM
end DL
namespace DL
open PySem L2 PyProof.Rows
def yF:List D->Option (List (List (List Nat)))
 |[]=>KB []
 | .tup ds::r=>match ue ds,yF r with
  |some ks,KB t=>KB (ks::t)
  |_,_=>KF
 |_::_=>KF
noncomputable def BZ(x:List (List Nat)):List (List (List Nat))->List (List (List Nat))
 |[]=>[x]
 |y::l=>if y<x then y::BZ x l else x::y::l
def zG(l:List (List (List Nat))):List (List (List Nat)):=l.foldr BZ []
def toT(ks:List (List Nat)):D:=.tup (ks.map .str)
def Dm:Ow->List D->R D:=λO xs=>match xs with
 | [x]=>match rJ O x with
  | some ds=>match yF ds with
   |some qM=>if (2<=qM.length->(qM.all λks=>!ks.isEmpty)=KM)/\qM.length<=4000000 then .ok (.lst ((zG qM).map toT)) O else .bad
   |none=>.bad
  |none=>.bad
 |_=>.bad
abbrev wD(a b:List (List Nat)):Prop:=¬ b<a
def wD.trans{a b c:List (List Nat)}(g:wD a b)(d:wD b c):wD a c:=λh=>by
 by_cases e:b<a
 ·exact g e
 ·by_cases f:a<b
  ·exact d (TS.llt_trans h f)
  ·rw[TS.llt_total f e] at h;exact d h
theorem Kv(x:List (List Nat)):∀l,(BZ x l).Perm (x::l)
 |[]=>eH _
 | y::l=>by
  unfold BZ;split
  ·exact((Kv x l).cons y).trans (nJ x y l)
  ·exact eH _
theorem Kz:∀l,(zG l).Perm l
 |[]=>eH _
 |x::l=>(Kv x (zG l)).trans ((Kz l).cons x)
theorem QJ(x:List (List Nat)):∀l,l.Pairwise wD->(BZ x l).Pairwise wD
 |[],_=>ki _ _
 | y::l,h=>by
  unfold BZ;have a:=bT.mp h;split
  ·rename_i c;refine bT.mpr ⟨λz hz=>?_,QJ x l a.2⟩;rcases aq.mp ((Kv x l).mem_iff.mp hz) with rfl|hz
   ·exact λd=>TS.llt_irrefl _ (TS.llt_trans d c)
   ·exact a.1 z hz
  ·rename_i b;refine bT.mpr ⟨λz hz=>?_,h⟩;rcases aq.mp hz with rfl|hz
   ·exact b
   ·exact wD.trans b (a.1 z hz)
theorem Qd:∀l,(zG l).Pairwise wD
 |[]=>eS
 |x::l=>QJ x _ (Qd l)
theorem RK:∀{a b:List (List (List Nat))},a.Pairwise wD->b.Pairwise wD->a.Perm b->a=b
 |[],b,_,_,p=>p.nil_eq
 |x::a,[],_,_,p=>absurd p.symm.nil_eq 'k'
 | x::a,y::b,ha,hb,p=>by
  have c:=bT.mp ha;have d:=bT.mp hb;have e:x=y:=by
   have f:wD y x:=by
    rcases aq.mp (p.mem_iff.mp au) with h|h
    ·rw[h];exact TS.llt_irrefl _
    ·exact d.1 x h
   have g:wD x y:=by
    rcases aq.mp (p.mem_iff.mpr au) with h|h
    ·rw[h];exact TS.llt_irrefl _
    ·exact c.1 y h
   exact TS.llt_total f g
  subst e;rw[RK c.2 d.2 (List.Perm.cons_inv p)]
def zF{α:Type}(R:V->α->Prop):List V->List α->Prop
 |[],[]=>True
 |v::vs,k::ks=>R v k/\zF R vs ks
 |_,_=>False
def Nc(K:ai)(H:Hp)(v:V)(ks:List (List Nat)):Prop:=∃t,v=.ref t/\qT K H t (ks.map λcs=>V.str ⟨cs.toArray⟩)
def vT:ab->V
 |.ref t=>.ref t
 |_=>.non
theorem KE:∀{ks:List (List Nat)}{h_:List ab},oa (ks.map λcs=>V.str ⟨cs.toArray⟩) h_->TS.allS h_=KB ks
 |[],_,.nil=>rfl
 | k::ks,u::us,.cons r h=>by
  obtain⟨a,rfl⟩:=r;unfold TS.allS;rw[KE h];rfl
section
variable{X:Cx}{Ex:Nat->Hp->Prop}{H:Hp}{XV μ:List ae}
def NK(K:ai):List V->Hp->VK->Prop:=λxs H Q=>∃p vs qM,∃R:V->List (List Nat)->Prop,xs=[.ref p]/\qz K H p vs/\zF R vs qM/\(∀v k,R v k->Nc K H v k/\(2<=vs.length->k≠[]))/\vs.length<=4000000/\∀l qX xA,zF R qX xA->xA.Perm qM->xA.Pairwise wD->H l=KF->Q (.ref l) (upd H l (.lst qX))
theorem PJ{b:List (ae×Obj)}{σ:L2.St}{s:ag}(I:L2.Inv X b σ H s){R:V->List (List Nat)->Prop}{B:Prop}(c:∀v k,R v k->Nc X.K H v k/\(B->k≠[])):∀{vs:List V}{qM:List (List (List Nat))}{a:List ab},zF R vs qM->oa vs a->a.map (TS.keyT s.heap)=qM/\∀u∈a,R (vT u) (TS.keyT s.heap u)/\RelV (vT u) u/\∃d,TS.TupS s.heap u d/\(B->d≠[])
 |[],[],_,_,.nil=>⟨rfl,λ_ h=>by cases h⟩
 |[],_::_,_,h,_=>h.elim
 |v::vs,[],_,h,_=>h.elim
 | v::vs,k::qM,u::us,⟨h1,h2⟩,.cons r hv=>by
  obtain⟨e,l⟩:=PJ I c h2 hv;obtain⟨⟨t,rfl,m⟩,p⟩:=c v k h1;cases r;obtain⟨a,f,⟨o,g,q,n,i⟩,_⟩:=I.tuple m;have w:TS.TupS s.heap (.ref t) k:=⟨t,o,a.toArray,n,rfl,g,q,i,by simpa using KE f⟩;have j:TS.keyT s.heap (.ref t)=k:=by
   show((match s.heap.get? t with|some o=>(match o.data with|.seq a _=>TS.allS a.toList|_=>KF)|none=>KF):Option _).getD []=_;rw[g];dsimp only;rw[i];dsimp only;rw[show TS.allS a.toArray.toList=KB k from by simpa using KE f];rfl
  refine⟨by rw[bH,j,e],λu hu=>?_⟩;rcases aq.mp hu with rfl|hu
  ·exact⟨by rw[j];exact h1,rfl,k,w,p⟩
  ·exact l u hu
theorem Qz{R:V->List (List Nat)->Prop}{f:ab->List (List Nat)}:∀{l:List ab},(∀u∈l,R (vT u) (f u))->zF R (l.map vT) (l.map f)
 |[],_=>trivial
 |u::l,h=>⟨h u au,Qz λv a=>h v (al _ a)⟩
theorem QU:∀{l:List ab},(∀u∈l,RelV (vT u) u)->oa (l.map vT) l
 |[],_=>.nil
 |u::l,h=>.cons (h u au) (QU λv a=>h v (al _ a))
def zd6:on X (.builtin "sorted") (NK X.K):=by intro i s F H G J Q I r h;obtain⟨p,l,L,R,rfl,m,n,t,w,q⟩:=h;obtain⟨u,rfl,x⟩:=uI r;cases x;obtain⟨c,j,y,M⟩:=I.list m;obtain⟨A,d⟩:=PJ I t n j;have b:c.length=l.length:=j.length.symm;refine TS.sorted_tups y.isList (λv B=>let ⟨ks,k1,k2⟩:=(d v B).2.2;⟨ks,k1,λz=>k2 'd'⟩) 'd' λa g C=>?_;obtain⟨e,D⟩:=sortedAll_at s.heap c a;have E:H (s.heap.objs.size+1)=KF:=I.hok.fresh (eL _);have k:∀u∈a.toList,u∈c:=λu h=>g.mem_iff.mp h;refine⟨.ref _,_,I.laid (t':=s.toks) (o:=.lst (a.toList.map vT)) (λ_ _ z=>sortedAll_old z) (eL _) ?_,rfl,q _ _ _ (Qz (f:=TS.keyT s.heap) λu h=>(d u (k u h)).1) (by rw[<- A];exact g.map _) (fQ.mpr C) E⟩;refine⟨?_,a.toList,e,QU λu h=>(d u (k u h)).2.1,by rw[D]⟩;rw[ax,g.length_eq,b];exact aM w 'u'
theorem Pc:∀{ds:List D}{ks:List (List Nat)},ue ds=KB ks->ds=ks.map D.str
 |[],ks,h=>by cases h;rfl
 | d::ds,ks,h=>by
  cases d with
  | str cs=>
   unfold ue at h;cases e:ue ds with
   |none=>rw[e] at h;cases h
   |some r=>rw[e] at h;cases h;rw[Pc e];rfl
  |_=>cases h
theorem Q_:∀{ds:List D}{qM:List (List (List Nat))},yF ds=KB qM->ds.length=qM.length
 |[],qM,h=>by cases h;rfl
 | d::ds,qM,h=>by
  cases d with
  | tup xs=>
   unfold yF at h;split at h
   ·rename_i b t c a;cases h;rw[aS,aS,Q_ a]
   ·cases h
  |_=>cases h
theorem OY{K:ai}{B:Prop}:∀{ds:List D}{vs:List V}{qM:List (List (List Nat))},n8 K H XV μ ds vs->yF ds=KB qM->(∀k∈qM,B->k≠[])->zF (λv k=>Y2 K H XV μ (toT k) v/\(B->k≠[])) vs qM
 | [],vs,qM,h,e,_=>by
  unfold n8 at h;cases e;subst h;trivial
 | d::ds,vs,qM,h,e,pZ=>by
  unfold n8 at h;obtain⟨v,r,rfl,b,c⟩:=h;cases d with
  | tup xs=>
   unfold yF at e;split at e
   ·rename_i a t f g;cases e;refine⟨⟨?_,pZ a au⟩,OY c g λk i=>pZ k (al _ i)⟩;have:xs=a.map D.str:=Pc f;unfold toT;rw[<- this];exact b
   ·cases e
  |_=>cases e
theorem Q4{α:Type}{R:V->α->Prop}:∀{vs:List V}{a:List α},zF R vs a->vs.length=a.length
 |[],[],_=>rfl
 |[],_::_,h=>h.elim
 |_::_,[],h=>h.elim
 |_::_,_::_,h=>by rw[aS,aS,Q4 h.2]
theorem RY{K:ai}{B:Prop}:∀{vs:List V}{qM:List (List (List Nat))},zF (λv k=>Y2 K H XV μ (toT k) v/\(B->k≠[])) vs qM->n8 K H XV μ (qM.map toT) vs
 |[],[],_=>by unfold n8;rfl
 |[],_::_,h=>h.elim
 |v::vs,[],h=>h.elim
 | v::vs,k::qM,h=>by
  unfold n8;exact⟨v,vs,rfl,h.1.1,RY h.2⟩
def XW:uH X Ex (NK X.K) Dm:=by
 intro H XV μ O D E Q c d q;unfold Dm at q;split at q
 ·rename_i x;obtain⟨v,rfl,o⟩:=uf d;split at q
  ·rename_i F e;obtain⟨p,f,rfl,r,g⟩:=uX c o e;split at q
   ·rename_i a h;obtain⟨⟨s,i⟩,q⟩:=post.ite q;have b:f.length=a.length:=by rw[<- g.length,Q_ h]
    have u:∀k∈a,2<=f.length->k≠[]:=λk w i e=>by
     have:=ak.mp (s 'd') k w;rw[e] at this;cases this
    have j:=OY g h u;refine⟨p,f,a,_,rfl,r,j,λv k m=>⟨?_,m.2⟩,?_,λl G y z A B b=>?_⟩
    ·obtain⟨t,I,rfl,n,C⟩:=AZ m.1 rfl;have:=JR C (strL_map k);rw[this] at n;exact⟨t,rfl,n⟩
    ·rw[Q4 j];exact i
    ·have e:y=zG a:=RK B (Qd a) (A.trans (Kz a).symm);subst e;exact post.ok q (.laid b) (c.laid b) (Y2.newL c b (RY z))
   ·exact aj q
  ·exact aj q
 ·exact aj q
end
end DL
namespace DL
open PySem L2
open PyProof.Rows (AllBare)
section
variable{prog:aN}{w:aY}{A:ba}{s:ag}{R:Result->ag->Prop}
def zhb(g:A.depth<recursionLimit)
  (i:s.heap.get? lam=KB { cls:=.type "function",data:=.func (d9 name qual params body scope cl pm cd ct) }) (j:s.heap.CodeRec cd q) (k:scope.isCoroutine=K7) (l:scope.isGenerator=K7) (n:scope.kind=.function) (p:∀x∈scope.names,x.2 ≠ .cell) (r:scope.names.lookup x=KB .local)
  (t:bindArgs (d9 name qual params body scope cl pm cd ct) ⟨[u],[]⟩=pure [(x,u)]) (B:s.heap.NoLimit)
  (h:∀h' tk,0<tk->h'.Ns s.heap.objs.size (λy=>[(x,u)].lookup y)->(∀b o,s.heap.get? b=KB o->h'.get? b=KB o)->
   am (av prog w) (A.deeper (wI q scope s.heap.objs.size lam cd cl)) (eval body (wI q scope s.heap.objs.size lam cd cl)) (λv C=>R (.ok (.ret v)) C) (λ_ _=>False) { s with heap:=h',toks:=tk }):
  codeAny (av prog w) A (.call (.ref lam) ⟨[u],[]⟩) R s:=by
 refine codeAny_of_tree ?_;show am _ A.in1 (callAny (.ref lam) ⟨[u],[]⟩) _ _ s;simp only[callAny];refine aa (wpAny_load i ?_);obtain⟨c,J,K,L,D,E,a,F⟩:=j;subst D;simp only[callFunction,k,l];refine aa (m:=field (.ref c) 1) (bO E a F (aa (ah ?_)));rw[t];refine aa (ah (aa ?_));refine wpAny_newFunctionEnv p (λy G=>?_) (λd H I=>?_) n
 ·have e:y=(x,u):=by simpa using G
  rw[e];exact r
 have f:∀b o,s.heap.get? b=KB o->d.get? b=KB o:=λb o e=>I.extBut b o (bh (aI e)) (af _ e);refine aa (wpAny_enterFrame (B.keeps f) g (ah ⟨rfl,?_⟩));exact PySem.W.kla_codeExpr (cG (h d _ (cR _) H f) (λ_ _ z=>z) λ_ _ z=>z.elim)
end
def FQ(P:aN)(w:aY)(K:ai)(mg:Str->Option ab)(base:aX)(N:List Str)(env:Env)(A:ba)(outer:List Env)(s:ag)(H:Hp):Cx where
 prog:=P
 w:=w
 K:=K
 mg:=mg
 base:=base
 A:=A.deeper env
 N:=N
 s₀:=s
 H₀:=H
 env:=env
 outer:=outer
 stack:=env::outer
 ex:=[]
 calm:=KM
 fn:=λ_=>K7
 pn:=[]
 xe:=λ_ _=>False
structure Nz(out sc:c8)(x:Str):Prop where
 kind:sc.kind=.function
 co:sc.isCoroutine=K7
 gen:sc.isGenerator=K7
 nd:(sc.names.map (·.1)).Nodup
 cell:∀y∈sc.names,y.2 ≠ .cell
 one:sc.names.lookup x=KB .local
 loc:∀y∈sc.names,y.2=.local->y.1=x
 frees:∀y∈sc.names,y.2=.free->out.names.lookup y.1=KB .cell\/out.names.lookup y.1=KB .free
section
variable{P:aN}{w:aY}{K:ai}{mg:Str->Option ab}{base:aX}{N:List Str}{A:ba}{outer:List Env}{s:ag}{H:Hp}{q x:Str}{scope:c8}{lam:ae}{cd:ab}{cl:List (Str×ae)}{σ:St}{h':aX}{tk:Nat}{v:V}{u:ab}
def zgc(f:oR P w K mg base A outer s H)(C:A.handled=KF)(D:scope.kind=.function)(t:∀y,uE scope y->scope.names.lookup y=KB .free\/y=x)(B:scope.names.lookup x=KB .local)(E:x∉N)
  (cells:∀x c,cl.lookup x=KB c->(∃v,s.heap.IsCell c v)/\H c=KF) (inj:∀x y c,cl.lookup x=KB c->cl.lookup y=KB c->x=y) (k:∀x,scope.names.lookup x=KB .free->∃c,cl.lookup x=KB c)
  (h:∀(i:Nat)x v,N[i]?=KB x->σ[i]?=KB (KB v)->scope.names.lookup x=KB .free->∃u c,RelV v u/\cl.lookup x=KB c/\s.heap.IsCell c (KB u)) (l:σ.length=N.length) (F:RelV v u)
  (G:h'.Ns s.heap.objs.size (λy=>[(x,u)].lookup y)) (kp:∀b o,s.heap.get? b=KB o->h'.get? b=KB o) (I:0<tk):
  L2.Inv (FQ P w K mg base (N++[x]) (wI q scope s.heap.objs.size lam cd cl) A outer s H) [] (σ++[KB v]) H { s with heap:=h',toks:=tk }:=by
 have a:∀{c:ae}{v:Option ab},s.heap.IsCell c v->h'.IsCell c v:=λ{c v}⟨o,ho,r⟩=>⟨o,kp c o ho,r⟩;have m:∀b:ae,b∉(FQ P w K mg base (N++[x]) (wI q scope s.heap.objs.size lam cd cl) A outer s H).ex:=λb z=>absurd (show b∈([]:List ae) from z) 'k';refine⟨⟨f.mod,D,rfl,rfl,aF _,inj,λy J=>?_,λy c z _=>absurd (show K7=KM from z) 'u',λ_=>C,lq f.frames,.inr ⟨rfl,rfl⟩,λb z=>absurd z (m b),f.bs,f.bsz,λb _ _=>m b,λb z=>absurd z (m b),f.funs,f.frf⟩,
  rfl,f.bare,Un.kept kp,⟨_,G,λi y L d j M=>?_⟩,λy c g=>?_,f.hok.fresh (aF _),λy c g=>(cells y c g).2,λp O=>absurd (show p∈([]:List (ae×Obj)) from O) 'k',f.hok.kept kp,by show(σ++[KB v]).length=(N++[x]).length;simp[l],I⟩
 ·have n:scope.names.lookup y=KB .cell\/scope.names.lookup y=KB .free:=J;rcases t y (n.elim (λz=>.inr (.inl z)) λz=>.inr (.inr z)) with z|z
  ·exact k y z
  ·rw[z,B] at n;rcases n with z|z<;>cases z
 ·have d:(N++[x])[i]?=KB y:=d;by_cases Q:i<N.length
  ·rw[aJ Q] at d;rw[aJ 'd'] at j;rcases t y M with z|z
   ·obtain⟨u,c,r,R,S⟩:=h i y L d j z;exact⟨u,r,.inr ⟨.inr z,c,R,a S⟩⟩
   ·rw[z] at d;exact absurd (aL d) E
  ·rw[bo 'd'] at d j;have e:i-N.length=0:=by
    have:=(ar.mp d).1;simp at this;lia
   rw[e] at d;rw[show i-σ.length=0 by lia] at j;cases d;cases j;exact⟨u,F,.inl ⟨B,by simp[eE]⟩⟩
 ·obtain⟨⟨v,z⟩,_⟩:=cells y c g;exact⟨v,a z⟩
def V1(d:om (k+1) A)(f:oR P w K mg base A outer s H)
  (m:s.heap.get? lam=KB { cls:=.type "function",data:=.func (d9 name qual params body scope cl pm cd ct) }) (n:s.heap.CodeRec cd q) (p:scope.isCoroutine=K7) (r:scope.isGenerator=K7) (j:scope.kind=.function) (B:∀x∈scope.names,x.2 ≠ .cell)
  (C:bindArgs (d9 name qual params body scope cl pm cd ct) ⟨[u],[]⟩=pure [(x,u)]) (D:∀y,uE scope y->scope.names.lookup y=KB .free\/y=x) (l:scope.names.lookup x=KB .local) (E:x∉N)
  (cells:∀x c,cl.lookup x=KB c->(∃v,s.heap.IsCell c v)/\H c=KF) (inj:∀x y c,cl.lookup x=KB c->cl.lookup y=KB c->x=y) (g:∀x,scope.names.lookup x=KB .free->∃c,cl.lookup x=KB c)
  (a:∀(i:Nat)x v,N[i]?=KB x->σ[i]?=KB (KB v)->scope.names.lookup x=KB .free->∃u c,RelV v u/\cl.lookup x=KB c/\s.heap.IsCell c (KB u)) (h:σ.length=N.length) (F:RelV v u)
  (G:om k (A.deeper (wI q scope s.heap.objs.size lam cd cl))->PD (FQ P w K mg base (N++[x]) (wI q scope s.heap.objs.size lam cd cl) A outer s H) qc body t)
  (I:n9 K H XV μ σd (σ++[KB v])) (L:n6 K H XV μ O) (M:qy qc K H XV μ (t σd O) Q):codeAny (av P w) A (.call (.ref lam) ⟨[u],[]⟩) (CR w6 outer P w H s Q E0) s:=by refine zhb d.depth m n p r j B l C (f.mod.nolimit.keeps λb o e=>(f.bs b o e).1) λh' tk R S T=>?_;refine cG ((G (d.deeper _)).out [] _ (σ++[KB v]) H Q (zgc f d.hd j D l E cells inj g a h F S T R) ⟨XV,μ,σd,O,I,L,M⟩) (λv U ⟨W,X,J,Y,z⟩=>?_) λe U z=>z;exact⟨⟨W,X,J.os,J.bare,J.base,J.hok,Y,z⟩,J.tk⟩
end
end DL
namespace DL
open PySem L2 PyProof.Rows
def minGo(tE:DE)(σ:Sg):List D->D->Int->Ow->R D
 |[],b,_,O=>.ok b O
 | x::xs,b,k,O=>match tE (σ++[KB x]) O with
  |.ok (.int j) O1=>if j<k then minGo tE σ xs x j O1 else minGo tE σ xs b k O1
  |_=>.bad
def B8(tE:DE)(σ:Sg)(O:Ow):List D->R D
 |[]=>.bad
 | x::xs=>match tE (σ++[KB x]) O with
  |.ok (.int j) O1=>minGo tE σ xs x j O1
  |_=>.bad
def Cc(Pt iT:Nat)(te tE:DE):DE:=λσ O=>match σ[iT]? with
 | some (KB (.tab p))=>if p=Pt then (te σ O).bnd λx O1=>match x with
  |.lst ds=>B8 tE σ O1 ds
  |_=>.bad else .bad
 |_=>.bad
def n9.snoc{K:ai}{H:Hp}{XV μ:List ae}{σ:Sg}{a:L2.St}{d:D}{v:V}(e:n9 K H XV μ σ a)(q:Y2 K H XV μ d v):n9 K H XV μ (σ++[KB d]) (a++[KB v]):=by
 refine⟨by simp[e.len],λi x h=>?_⟩;have j:=e.len;by_cases b:i<σ.length
 ·rw[aJ b] at h;obtain⟨w,c,f⟩:=e.at_ i x h;exact⟨w,by rw[aJ 'd'];exact c,f⟩
 ·rw[bo 'd'] at h;have g:i-σ.length=0:=by
   have:=(ar.mp h).1;simp at this;lia
  rw[g] at h;cases h;exact⟨v,by rw[bo 'd',show i-a.length=0 by lia];rfl,q⟩
section
variable{X:Cx}{Ex:Nat->Hp->Prop}{XV:List ae}{σ:Sg}{c_:L2.St}{tE:DE}{lam cc:ae}{lo:Obj}
def Jg(X:Cx)(lam:ae)(lo:Obj)(cc:ae)(XV:List ae)(σ:Sg)(c_:L2.St)(tE:DE):Prop:=
 ∀(Y1:List (ae×Obj))(s:ag)(H:Hp)(μ:List ae)(O:Ow)(d:D)(v:V)(u:ab)(Q:VK),L2.Inv X Y1 c_ H s->(lam,lo)∈Y1->(∃φ,H cc=KB (.ext φ)/\∀h:aX,φ h->∃q,h.CodeRec (.ref cc) q)->n9 X.K H XV μ σ c_->n6 X.K H XV μ O->Y2 X.K H XV μ d v->RelV v u->
  qy qc X.K H XV μ (tE (σ++[KB d]) O) Q->am (av X.prog X.w) X.A.in1 (call (.ref lam) [u]) (EP X Y1 c_ Q) (λ_ _=>False) s
def VN{K:ai}{H:Hp}{μ:List ae}{d:D}{O:Ow}:qy qc K H XV μ (.ok d O) (λv a=>∃b,Ext H μ a b/\n6 K a XV b O/\Y2 K a XV b d v):=λv f e x c r=>⟨e,x,c,r⟩
def Q2{K:ai}{H H':Hp}{μ d:List ae}{O:Ow}(c:n6 K H XV μ O)(x:Ext H μ H' d){a:aX->Prop}(h:H cc=KB (.ext a)):H' cc=KB (.ext a):=by refine x.kept cc _ h (λm=>?_) (by intro g z;cases z);obtain⟨k,f,e⟩:=dM.mp m;obtain⟨i,j,_,b,_⟩:=c.at_ k cc (by rw[ao f,e]);rw[h] at b;cases b
variable{l:ae}{vs:List V}{ds:List D}{Q:VK}{Y1:List (ae×Obj)}{E:ab->ag->Prop}
def Qx{a S:ae}{c oI:Obj}{j:Nat}{s:ag}{H:Hp}{μ:List ae}{O:Ow}{d:D}{R:ab->ab->ag->Prop}(pv:X.calm=KM)(hK:Jg X lam lo cc XV σ c_ tE)
  (I:L2.Inv X ((S,c)::(a,oI)::(lam,lo)::Y1) c_ H s) (AE:rE X ((S,c)::(lam,lo)::Y1) H a) (hl:l≠a) (i:s.heap.IsListIter a l j) (la:LstAt X.K H XV μ l vs) (G:n8 X.K H XV μ ds vs) (ev:n9 X.K H XV μ σ c_) (cl:n6 X.K H XV μ O) (uk:∃J,H cc=KB (.ext J)/\∀h:aX,J h->∃q,h.CodeRec (.ref cc) q)
  (L:ds[j]?=KB d) {k:Int} {O1:Ow} (hE:tE (σ++[KB d]) O=.ok (.int k) O1)
  (h:∀(v:ab)(tk:Tok)(f:Obj)(m:ag)(H':Hp)(n:List ae)(x:V),L2.Inv X ((S,c)::(a,f)::(lam,lo)::Y1) c_ H' m->m.heap.IsListIter a l (j+1)->Ext H μ H' n->n6 X.K H' XV n O1->RelV x v->Y2 X.K H' XV n d x->R v (.int k tk) m) {E2:ab->ag->Prop}:
  am (av X.prog X.w) X.A.in1 (pyNext (.ref a)) (λo s1=>∃v,o=KB v/\am (av X.prog X.w) X.A.in1 (call (.ref lam) [v]) (λr t=>R v r t) (λ_ _=>False) s1) E2 s:=by
 obtain⟨g,M,pl,hz⟩:=I.list la.sq;have W:=lr (prog:=X.prog) (w:=X.w) (A:=X.A.in1) (I.ok.hd pv) a l hl g.toArray;have N:ds.length=g.length:=by rw[G.length,M.length]
 have hj:j<g.length:=by have:=(ar.mp L).1;lia
 refine wT I (W.item j _ _ _ (by simpa using hj) ⟨i,pl.isList⟩ λv P y hP wo rn qp=>?_);have hv:g[j]?=KB v:=by simpa using hP
 obtain⟨T,U,f2,f3,f4,f5⟩:=AE;have I0:L2.Inv X ((S,c)::(lam,lo)::Y1) c_ H s:=I.pins_of λp hp=>I.pin p (ay _ (by
  rcases aq.mp hp with rfl|hp
  ·exact .head _
  ·exact .tail _ (.tail _ hp)))
 have B:L2.Inv X ((S,c)::(lam,lo)::Y1) c_ H { s with heap:=P,toks:=y }:=I0.turned (t':=y) (it:=a) (λb o hb e=>rn b o (by simpa using hb) e) T U f3 f4 f5;obtain⟨f,LZ,C3,Y⟩:=id wo.1;have I2:L2.Inv X ((S,c)::(a,f)::(lam,lo)::Y1) c_ H { s with heap:=P,toks:=y }:=B.pins_of λp hp=>by
  rcases aq.mp hp with rfl|hp
  ·exact B.pin _ (ay _ (.head _))
  ·rcases aq.mp hp with rfl|hp
   ·exact⟨LZ,T,U,f2,λv z=>by rw[Y] at z;cases z⟩
   ·exact B.pin p (ay _ (.tail _ hp))
 obtain⟨x,hx,Z⟩:=G.get L;obtain⟨u,hu,ru⟩:∃u,g[j]?=KB u/\RelV x u:=M.get hx;rw[hv] at hu;cases hu;refine⟨v,rfl,cG (hK _ _ H μ O d x v (λv C=>∃F,Ext H μ C F/\n6 X.K C XV F O1/\Y2 X.K C XV F (.int k) v) I2 (.tail _ (.tail _ (.head _))) uk ev cl Z ru (by rw[hE];exact VN)) (λr t ⟨v2,H2,I3,r2,pF,x2,c2,d2⟩=>?_) λ_ _ z=>z⟩;unfold Y2 at d2;subst d2;obtain⟨t2,rfl⟩:=r2;exact h v t2 f t H2 pF x I3 ⟨f,(I3.pin (a,f) (ay _ (.tail _ (.head _)))).1,C3,Y⟩ x2 c2 ru (Z.ext x2)
def W4{a S:ae}(pv:X.calm=KM)(hK:Jg X lam lo cc XV σ c_ tE)(hl:l≠a)(zx:S≠a){s0:ag}:
  ∀(r j:Nat)(s:ag)(H:Hp)(μ:List ae)(O:Ow)(b:D)(N:V)(m:ab)(f:Int)(k:Tok)(c:Nat)(oI:Obj),ds.length-j=r->j<=ds.length->
   L2.Inv X ((S,seqObj "list" #[m,.int f k] c)::(a,oI)::(lam,lo)::Y1) c_ H s->rE X ((lam,lo)::Y1) H a->rE X ((lam,lo)::Y1) H S->s.heap.IsListIter a l j->LstAt X.K H XV μ l vs->n8 X.K H XV μ ds vs->n9 X.K H XV μ σ c_->n6 X.K H XV μ O->(∃L,H cc=KB (.ext L)/\∀h:aX,L h->∃q,h.CodeRec (.ref cc) q)->
   RelV N m->Y2 X.K H XV μ b N->qy Ex X.K H XV μ (minGo tE σ (ds.drop j) b f O) Q->
   codeAny (av X.prog X.w) X.A (.builtin "min.loop" ⟨[.ref a,.ref lam,.ref S],[]⟩) (λr Z=>match r with|.ok (.ret u)=>EP X Y1 c_ Q u Z|_=>False) s:=by
 have uB:(toString "min" ++ toString ".loop":String) = "min.loop":=by decide
 intro r
 induction r with
 | zero=>
  intro j s H μ O b N m f k c oI hr hj I n fS M la dd ev cl uk rb db q;have hjl:j=ds.length:=by lia
  have nS:=I.pin (S,seqObj "list" #[m,.int f k] c) (ay _ (.head _));obtain⟨h_,rv,pl,hz⟩:=I.list la.sq;have W:=lr (prog:=X.prog) (w:=X.w) (A:=X.A.in1) (I.ok.hd pv) a l hl h_.toArray;have hlen:ds.length=h_.length:=by rw[dd.length,rv.length]
  refine eR eu ?_;rw[dO bD _];show am _ X.A.in1 (seqItems? (.ref S) >>= _) _ _ _;refine aa (cH nS.1 rfl ?_);show am _ X.A.in1 (tryCatch (pyNext (.ref a)) _ >>= _) _ _ _;refine aa (ee (wT I (W.done _ _ _ ⟨by rw[show h_.toArray.size=j by simp;lia];exact M,pl.isList⟩ λh' Bf rn qp=>?_)));have I0:L2.Inv X ((lam,lo)::Y1) c_ H s:=I.pins_of λp hp=>I.pin p (ay _ (.tail _ (.tail _ hp)));obtain⟨f0,f1,f2,f3,f4,f5⟩:=n;have I1:L2.Inv X ((lam,lo)::Y1) c_ H { s with heap:=h',toks:=Bf }:=I0.turned (t':=Bf) (it:=a) (λb o hb e=>rn b o (by simpa using hb) e) f0 f1 f3 f4 f5;have xU:=rn S _ (by simpa using zx) nS.1;have s1:=cU h' S (br λ_=>(#[]:Array ab));obtain⟨g0,g1,g2,g3,g4,g5⟩:=fS;show am _ X.A.in1 (updateSeq S (λ_=>#[]) >>= _) _ _ _;refine aa ?_;refine eo xU rfl (aa (d7 (ah ?_)));have C:=I1.turned (h':=h'.update S (br λ_=>(#[]:Array ab))) (t':=Bf) (it:=S) (λb o hb e=>(s1.2 b hb).trans e) g0 g1 g3 g4 g5;have I3:L2.Inv X Y1 c_ H _:=C.pins_of λp hp=>C.pin p (ay _ (.tail _ hp));rw[hjl,mX] at q;exact⟨N,H,I3,rb,post.here q cl db⟩
 | succ r ih=>
  intro j s H μ O b N m f k c oI hr hj I n fS M la dd ev cl uk rb db q;have pW:j<ds.length:=by lia
  have nS:=I.pin (S,seqObj "list" #[m,.int f k] c) (ay _ (.head _));have nI:=I.pin (a,oI) (ay _ (.tail _ (.head _)));obtain⟨d,hd⟩:∃d,ds[j]?=KB d:=⟨_,ao pW⟩;rw[dh pW,(ar.mp hd).2] at q;unfold minGo at q;split at q
  case h_2=>exact aj q
  rename_i g O1 hE;refine eR eu ?_;rw[dO bD _];show am _ X.A.in1 (seqItems? (.ref S) >>= _) _ _ _;refine aa (cH nS.1 rfl ?_);show am _ X.A.in1 (tryCatch (pyNext (.ref a)) _ >>= _) _ _ _;have MD:rE X ((S,seqObj "list" #[m,.int f k] c)::(lam,lo)::Y1) H a:=⟨n.1,n.2.1,n.2.2.1,n.2.2.2.1,n.2.2.2.2.1,λp hp=>by
   rcases aP.mp hp with hp|hp
   ·exact n.2.2.2.2.2 p (bV _ hp)
   ·rcases aq.mp hp with rfl|hp
    ·exact zx
    ·exact n.2.2.2.2.2 p (ay _ hp)⟩
  refine aa (ee (cG (Qx pv hK I MD hl M la dd ev cl uk hd hE (R:=λv u Z=>∃tk y T e_ x,u=.int g tk/\L2.Inv X ((S,seqObj "list" #[m,.int f k] c)::(a,y)::(lam,lo)::Y1) c_ T Z/\Z.heap.IsListIter a l (j+1)/\Ext H μ T e_/\n6 X.K T XV e_ O1/\RelV x v/\Y2 X.K T XV e_ d x)
   λv tk y Z T e_ x a1 a2 a3 a4 a5 a6=>⟨tk,y,T,e_,x,rfl,a1,a2,a3,a4,a5,a6⟩) (λo s1 ho=>?_) λ_ _ z=>z))
  obtain⟨v,rfl,xR⟩:=ho;show am _ X.A.in1 (tryCatch (holding [v] (call (.ref lam) [v])) _ >>= _) _ _ _;refine aa (ee (bz (cG xR (λu F he=>?_) λ_ _ hF=>hF.elim)));obtain⟨B,y,G,pF,x,rfl,C,zq,U,AG,rx,dx⟩:=he;have Y:=C.pin (S,seqObj "list" #[m,.int f k] c) (ay _ (.head _));have Li:=C.pin (a,y) (ay _ (.tail _ (.head _)));have HV:=la.mv U.mv (hid':=XV);have wy:=dd.ext U;have FL:=ev.ext U;have FC:∃L,G cc=KB (.ext L)/\∀h:aX,L h->∃q,h.CodeRec (.ref cc) q:=let ⟨L,h1,h2⟩:=uk;⟨L,Q2 cl U h1,h2⟩;have Ut:rE X ((lam,lo)::Y1) G a:=⟨Li.2.1,n.2⟩;have J:rE X ((lam,lo)::Y1) G S:=⟨Y.2.1,fS.2⟩;have q2:=post.ext q U;show am _ X.A.in1 (tryCatch (holding [v,.int g B] (richCompare .Lt (.int g B) (.int f k) >>= _)) _ >>= _) _ _ _;refine aa (ee (bz (aa (CmpOf.ints_lt (prog:=X.prog) (w:=X.w) (A:=X.A.in1) (P:=λ(i:Nat)v=>∃t,v=.int (if i=0 then g else f) t) (λi=>if i=0 then g else f) (λi v h=>h) 0 1 _ _ _ _ _ ⟨B,rfl⟩ ⟨k,rfl⟩ ?_))));refine aa (bz (cX ?_));refine aa (d7 (ah ?_));by_cases ua:g<f
  ·have s1:=cU F.heap S (br λ_=>#[v,.int g B]);obtain⟨c2,t9⟩:∃c2,(F.heap.update S (br λ_=>#[v,.int g B])).get? S=KB (seqObj "list" #[v,.int g B] c2):=⟨_,get?_update_seq Y.1 λ_=>#[v,.int g B]⟩;rw[qb ua] at q2;simp only[nq,ua,decide_true,if_true,bi,if_false];refine aa ?_;refine eo Y.1 rfl (aa (d7 ?_));rw[uB];have I3:L2.Inv X ((a,y)::(lam,lo)::Y1) c_ G F:=C.pins_of λp hp=>C.pin p (ay _ (.tail _ hp));have I4:L2.Inv X ((a,y)::(lam,lo)::Y1) c_ G { F with heap:=F.heap.update S (br λ_=>#[v,.int g B]),toks:=F.toks }:=I3.turned (t':=F.toks) (it:=S) (λb o hb e=>(s1.2 b hb).trans e) J.1 J.2.1 J.2.2.2.1 J.2.2.2.2.1 (λp hp=>by
    rcases aP.mp hp with hp|hp
    ·exact J.2.2.2.2.2 p (bV _ hp)
    ·rcases aq.mp hp with rfl|hp
     ·exact zx.symm
     ·exact J.2.2.2.2.2 p (ay _ hp))
   have I5:L2.Inv X ((S,seqObj "list" #[v,.int g B] c2)::(a,y)::(lam,lo)::Y1) c_ G _:=I4.pins_of λp hp=>by
    rcases aq.mp hp with rfl|hp
    ·exact⟨t9,Y.2.1,Y.2.2.1,Y.2.2.2.1,λv z=>nomatch z⟩
    ·exact I4.pin p (ay _ hp)
   obtain⟨oq,By,Ay,LQ⟩:=id zq;exact ah ⟨eC bD _,ih (j+1) _ G pF O1 d x v g B c2 y 'd' pW I5 Ut J ⟨oq,(s1.2 a zx.symm).trans By,Ay,LQ⟩ HV wy FL AG FC rx dx q2⟩
  ·rw[qq ua] at q2;simp only[nq,ua,decide_false,bi,if_false,if_true];refine aa (d7 ?_);rw[uB];exact ah ⟨eC bD _,ih (j+1) F G pF O1 b N m f k c y 'd' pW C Ut J zq HV wy FL AG FC rb (db.ext U) q2⟩
def zhh{s:ag}{H:Hp}{μ:List ae}{O:Ow}(pv:X.calm=KM)(hK:Jg X lam lo cc XV σ c_ tE)(I:L2.Inv X ((lam,lo)::Y1) c_ H s)(W:LstAt X.K H XV μ l vs)(dd:n8 X.K H XV μ ds vs)(ev:n9 X.K H XV μ σ c_)(cl:n6 X.K H XV μ O)
  (uk:∃J,H cc=KB (.ext J)/\∀h:aX,J h->∃q,h.CodeRec (.ref cc) q) (q:qy Ex X.K H XV μ (B8 tE σ O ds) Q):am (av X.prog X.w) X.A (call (.builtin "min") [.ref l] [(fw "key",.ref lam)]) (EP X Y1 c_ Q) E s:=by
 have uB:(toString "min" ++ toString ".loop":String) = "min.loop":=by decide
 obtain⟨h_,rv,pl,hz⟩:=I.list W.sq;have T4:=pl.isList;obtain⟨ol,Az,_⟩:=id T4;have Ic:l<s.heap.objs.size:=aI Az;cases ds with
 |nil=>exact aj q
 |cons d rU=>
 have q:qy Ex X.K H XV μ (match tE (σ++[KB d]) O with|.ok (.int j) L=>minGo tE σ rU d j L|_=>.bad) Q:=q;split at q
 case h_2=>exact aj q
 rename_i g L hE;refine kmb_tree mY mI mJ (kmb_min_key _ _) ?_;show am _ X.A.in1 (fA "min" ["key", "default"] 0 ⟨[],[(fw "key",.ref lam)]⟩ >>= _) _ _ s;refine aa (ji (show fA "min" ["key", "default"] 0 ⟨[],[(fw "key",.ref lam)]⟩=pure [KB (.ref lam),KF] from rfl) ?_);refine aa (ah ?_);refine aa (fO T4 ?_);refine aa (gN ?_ (cn _));rw[uB];generalize n:s.heap.objs.size=a at *;generalize Y:s.heap.push { cls:=.type "list_iterator",data:=.fields #[.ref l,.int 0 0] } = h1 at *;have Z:h1.objs.size=a+1:=by rw[<- Y,size_push',n]
 generalize hSS:h1.objs.size=S at *;have T5:l≠a:=bh Ic;have M:S≠a:=by rw[Z];exact dU (cC _)
 have kp:∀b o,s.heap.get? b=KB o->(h1.push (seqObj "list" #[] 0)).get? b=KB o:=λb o e=>af _ (by rw[<- Y];exact af _ e);have gI:(h1.push (seqObj "list" #[] 0)).get? a=KB { cls:=.type "list_iterator",data:=.fields #[.ref l,.int 0 0] }:=af _ (by rw[<- Y,<- n];exact aC _ rfl);have gS:(h1.push (seqObj "list" #[] 0)).get? S=KB (seqObj "list" #[] 0):=by rw[<- hSS];exact aC _ rfl
 have c:rE X ((lam,lo)::Y1) H a:=I.fpOk (jV n) (I.hok.fresh (jV n));have N:rE X ((lam,lo)::Y1) H S:=I.fpOk (by rw[Z,n];exact eL _) (I.hok.fresh (by rw[Z,n];exact eL _));have I1:L2.Inv X ((lam,lo)::Y1) c_ H { s with heap:=h1.push (seqObj "list" #[] 0),toks:=s.toks }:=I.kept (t':=s.toks) kp;have I2:L2.Inv X ((S,seqObj "list" #[] 0)::(a,{ cls:=.type "list_iterator",data:=.fields #[.ref l,.int 0 0] })::(lam,lo)::Y1) c_ H { s with heap:=h1.push (seqObj "list" #[] 0),toks:=s.toks }:=I1.pins_of λp hp=>by
  rcases aq.mp hp with rfl|hp
  ·exact⟨gS,N.1,N.2.1,N.2.2.1,λv z=>nomatch z⟩
  ·rcases aq.mp hp with rfl|hp
   ·exact⟨gI,c.1,c.2.1,c.2.2.1,λv z=>nomatch z⟩
   ·exact I1.pin p (ay _ hp)
 refine ah ⟨eC bD _,?_⟩;refine gq (R:=λr t=>match r with|.ok (.ret u)=>EP X Y1 c_ Q u t|_=>False) ?_ (λr t h=>by
  cases r with
  |error e=>exact h.elim
  |ok f=>cases f<;>first|exact h|exact h.elim)
 refine eR eu ?_;rw[dO bD _];show am _ X.A.in1 (seqItems? (.ref _) >>= _) _ _ _;refine aa (cH gS rfl ?_);show am _ X.A.in1 (tryCatch (pyNext (.ref a)) _ >>= _) _ _ _;have MD:rE X ((S,seqObj "list" #[] 0)::(lam,lo)::Y1) H a:=⟨c.1,c.2.1,c.2.2.1,c.2.2.2.1,c.2.2.2.2.1,λp hp=>by
  rcases aP.mp hp with hp|hp
  ·exact c.2.2.2.2.2 p (bV _ hp)
  ·rcases aq.mp hp with rfl|hp
   ·exact M
   ·exact c.2.2.2.2.2 p (ay _ hp)⟩
 refine aa (ee (cG (Qx pv hK I2 MD T5 (j:=0) ⟨_,gI,rfl,rfl⟩ W dd ev cl uk rfl hE (R:=λv u t=>∃tk i y C x,u=.int g tk/\L2.Inv X ((S,seqObj "list" #[] 0)::(a,i)::(lam,lo)::Y1) c_ y t/\t.heap.IsListIter a l (0+1)/\Ext H μ y C/\n6 X.K y XV C L/\RelV x v/\Y2 X.K y XV C d x)
  λv tk i t y C x a1 a2 a3 a4 a5 a6=>⟨tk,i,y,C,x,rfl,a1,a2,a3,a4,a5,a6⟩) (λo s1 ho=>?_) λ_ _ z=>z))
 obtain⟨v,rfl,xR⟩:=ho;show am _ X.A.in1 (tryCatch (holding [v] (call (.ref lam) [v])) _ >>= _) _ _ _;refine aa (ee (bz (cG xR (λu F he=>?_) λ_ _ hF=>hF.elim)));obtain⟨k,i,P,pF,x,rfl,T,zq,G,AG,rx,dx⟩:=he;have B:=T.pin (S,seqObj "list" #[] 0) (ay _ (.head _));have Li:=T.pin (a,i) (ay _ (.tail _ (.head _)));have s1:=cU F.heap S (br λ_=>#[v,.int g k]);obtain⟨U,t9⟩:∃U,(F.heap.update S (br λ_=>#[v,.int g k])).get? S=KB (seqObj "list" #[v,.int g k] U):=⟨_,get?_update_seq B.1 λ_=>#[v,.int g k]⟩;show am _ X.A.in1 (updateSeq S (λ_=>#[v,.int g k]) >>= _) _ _ _;refine aa ?_;refine eo B.1 rfl ?_;rw[uB];have m:rE X ((lam,lo)::Y1) P S:=⟨B.2.1,N.2⟩;have I4:L2.Inv X ((a,i)::(lam,lo)::Y1) c_ P F:=T.pins_of λp hp=>T.pin p (ay _ (.tail _ hp));have I5:=I4.turned (h':=F.heap.update S (br λ_=>#[v,.int g k])) (t':=F.toks) (it:=S) (λb o hb e=>(s1.2 b hb).trans e) m.1 m.2.1 m.2.2.2.1 m.2.2.2.2.1 (λp hp=>by
  rcases aP.mp hp with hp|hp
  ·exact m.2.2.2.2.2 p (bV _ hp)
  ·rcases aq.mp hp with rfl|hp
   ·exact M.symm
   ·exact m.2.2.2.2.2 p (ay _ hp))
 have I6:L2.Inv X ((S,seqObj "list" #[v,.int g k] U)::(a,i)::(lam,lo)::Y1) c_ P _:=I5.pins_of λp hp=>by
  rcases aq.mp hp with rfl|hp
  ·exact⟨t9,B.2.1,B.2.2.1,B.2.2.2.1,λv z=>nomatch z⟩
  ·exact I5.pin p (ay _ hp)
 obtain⟨oq,By,Ay,LQ⟩:=id zq;exact ah ⟨eC bD _,W4 (ds:=d::rU) (vs:=vs) pv hK T5 M (s0:=s) _ 1 _ P pF L d x v g k U i rfl (Nat.succ_le_succ (cn _)) I6 ⟨Li.2.1,c.2⟩ m ⟨oq,(s1.2 a M.symm).trans By,Ay,LQ⟩ (W.mv G.mv (hid':=XV)) (dd.ext G) (ev.ext G) AG (let ⟨J,h1,h2⟩:=uk;⟨J,Q2 cl G h1,h2⟩) rx dx (post.ext q G)⟩
def YV(hr:om (k+2) X.A)(pv:X.calm=KM)(L:uJ X.mg X.base c Pt)(tR:X.env.code=.ref c)(b:Nz X.env.scope scope x)(xP:defaultsOf params X.env=([],[]))
  (BK:∀(name n:Str)(cl:List (Str×ae))(pm o ct u:ab),bindArgs (d9 name n params body scope cl pm o ct) ⟨[u],[]⟩=pure [(x,u)]) (zj:x∉X.N) (he:PD X Ex e te)
  (hE:∀(q:Str)(lam:ae)(o:ab)(cl:List (Str×ae))(A:ba)(outer:List Env)(s:ag)(H:Hp),om k (A.deeper (wI q scope s.heap.objs.size lam o cl))->PD (FQ X.prog X.w X.K X.mg X.base (X.N++[x]) (wI q scope s.heap.objs.size lam o cl) A outer s H) qc body tE)
  (hg:Gl X "min") (hm:X.mg "min" = KF) (F:aV [e] X.env=[(K7,eval e X.env)]:=by rfl):PD X Ex (.Call (.Name "min" pn) [e] [⟨KB (fw "key"),.Lambda params body scope pl,kq⟩] pp) (Cc Pt iT te tE):=by
 refine⟨?_⟩;rintro Y1 s c_ H Q I ⟨XV,μ,σ,O,ev,c1,q⟩;obtain⟨ti,q⟩:oz H Pt/\qy Ex X.K H XV μ ((te σ O).bnd λx f=>match x with|.lst ds=>B8 tE σ f ds|_=>.bad) Q:=by
  unfold Cc at q;split at q
  ·rename_i p hp;by_cases G:p=Pt
   ·rw[qb G] at q;obtain⟨v,_,d⟩:=ev.at_ iT _ hp;unfold Y2 at d;rw[G] at d;exact⟨d.2,q⟩
   ·rw[qq G] at q;exact aj q
  ·exact aj q
 have J:∀{cells:List (Str×ae)},(∀y∈scope.names,y.2=.free->∃c,cells.lookup y.1=KB c)->∀x c,(q_ cells scope.names []).lookup x=KB c->cells.lookup x=KB c:=λ{cells}i x c e=>by
  rcases G3 _ _ (bQ e) with m|⟨m,z⟩
  ·cases m
  ·obtain⟨c',t_⟩:=i (x,.free) m rfl;have t9:cells.lookup x=KB c':=t_;rw[t9] at z ⊢;rw[z];rfl
 have i:∀y∈scope.names,y.2=.free->∃c,X.env.cells.lookup y.1=KB c:=λy M hf=>I.ok.has y.1 (b.frees y M hf);have FE:∀x,scope.names.lookup x=KB .free->∃c,(q_ X.env.cells scope.names []).lookup x=KB c:=λx e=>by
  have m:=G6 (cells:=X.env.cells) scope.names [] (bQ e);exact⟨_,yp (He _ _ b.nd 'k' (by intro p hp;cases hp)) m⟩
 have Ig:∀x,scope.names.lookup x=KB .free->X.env.scope.names.lookup x=KB .cell\/X.env.scope.names.lookup x=KB .free:=λx e=>b.frees (x,.free) (bQ e) rfl;have wm:∀y,uE scope y->scope.names.lookup y=KB .free\/y=x:=λy M=>by
  rcases M with z|z|z
  ·exact .inr (b.loc _ (bQ z) rfl)
  ·exact absurd rfl (b.cell _ (bQ z))
  ·exact .inl z
 refine g7 (AY I hg hm Gy ?_ 'u' 'u');refine callWith_kw ?_ (by rw[F];rfl) (by rw[F];rfl);rw[F];show am _ _ (spliced ((K7,eval e X.env)::backTo pp [])) _ _ s;refine lV (pG (he.out Y1 s c_ H _ I (rd.go (Q1:=λP h=>∃j f a,n9 X.K h XV a σ c_/\Ext H μ h a/\n6 X.K h XV a f/\Y2 X.K h XV a j P/\qy Ex X.K h XV a (match j with|.lst ds=>B8 tE σ f ds|_=>.bad) Q) ev c1 q λj f P h a R S T r1 U=>⟨j,f,a,R,S,T,r1,U⟩)) λu1 s1 ⟨P,h,I1,W,j,f,a,R,S,T,Y,U⟩=>?_);refine mq ?_;refine kws_cons (V7 I1 L tR (S.tab _ ti) (SX i) xP λlam o yB h' tk H' I3 ext cells Z zr qH xH=>?_);refine kws_nil ?_;obtain⟨cc,φ,rfl,uk,hφ⟩:=xH;have FK:=R.ext (ext a);have cl3:=cells XV a f T;have q3:=post.ext U (ext a);have Uz:=Y.ext (ext a);cases j with
 | lst ds=>
  unfold Y2 at Uz;obtain⟨l,vs,rfl,la,dd⟩:=Uz;cases W;have B:rE X Y1 H' lam:=I1.fpOk zr Z;have I4:L2.Inv X ((lam,_)::Y1) c_ H' { s1 with heap:=h',toks:=tk }:=I3.pins_of λp hp=>by
   rcases aq.mp hp with rfl|hp
   ·exact⟨qH,B.1,B.2.1,B.2.2.1,λv z=>nomatch z⟩
   ·exact I3.pin p (ay _ hp)
  refine zhh (cc:=cc) pv ?_ I4 la dd FK cl3 ⟨φ,uk,hφ⟩ q3;intro Ts s5 H5 xW O5 d5 v5 u5 Q5 g Fb BJ Ir cl5 dx5 rx5 q5;obtain⟨φ5,BJ,Lx⟩:=BJ;obtain⟨qn,hqn⟩:=Lx _ (g.hok cc _ BJ).1;have hg5:=(g.pin _ (ay _ Fb)).1;refine lp (gq (V1 (k:=k) (t:=tE) (XV:=XV) (μ:=xW) (σd:=σ++[KB d5]) (O:=O5) (Q:=Q5) (N:=X.N) (σ:=c_) hr.in1 g.env0.in1 hg5 hqn b.co b.gen b.kind b.cell (BK _ _ _ _ _ _ _) wm b.one zj (zcw g Un.refl (J i)) (zfR g (J i)) FE (zfj g Un.refl (J i) FE Ig) g.len rx5 (hE _ _ _ _ _ _ _ _) (Ir.snoc dx5) cl5 q5) λr s8 C=>?_);cases r with
  |error e=>exact C.elim
  | ok B=>
   cases B with
   |ret u=>exact g.after C
   |next=>exact aj C
   |brk=>exact aj C
   |cont=>exact aj C
 |_=>exact aj q3
end
end DL
namespace DL
open PySem L2
mutual
def nm:D->Bool
 |.map _ _=>K7
 |.dct=>K7
 |.exn _=>K7
 |.lst ds=>nms ds
 |.tup ds=>nms ds
 |_=>KM
def nms:List D->Bool
 |[]=>KM
 |d::ds=>nm d&&nms ds
end
section
variable{K:ai}{H:Hp}{XV μ:List ae}{p:ae}{k_:List (Key×V)}
def NP(b:H p=KB (.frz o (.dK k_)))(h:Rd H a u)(c:∀k_,u ≠ .dK k_)(d:∀o v,u ≠ .frz o v):a≠p:=by
 rintro rfl;rcases h with h|⟨o,h⟩
 ·rw[b] at h;cases h;exact d _ _ rfl
 ·rw[b] at h;cases h;exact c _ rfl
mutual
theorem Y2.hide(b:H p=KB (.frz o (.dK k_))):∀{d:D}{v:V},nm d=KM->Y2 K H XV μ d v->Y2 K H (p::XV) μ d v
 |.non,_,_,h=>h
 |.bl _,_,_,h=>h
 |.int _,_,_,h=>h
 |.str _,_,_,h=>h
 | .lst ds,v,n,h=>by
  unfold Y2 at h ⊢;obtain⟨a,c,r,l,q⟩:=h;refine⟨a,c,r,l.imp (λz=>⟨z.1,λm=>?_,z.2.2⟩) id,n8.hide b n q⟩;rcases aq.mp m with e|m
  ·exact NP b z.1 (λ_ z=>nomatch z) (λ_ _ z=>nomatch z) e
  ·exact z.2.1 m
 | .tup ds,v,n,h=>by
  unfold Y2 at h ⊢;obtain⟨a,c,r,l,q⟩:=h;refine⟨a,c,r,l.imp (λz=>⟨z.1,λm=>?_,z.2.2⟩) id,n8.hide b n q⟩;rcases aq.mp m with e|m
  ·exact NP b z.1 (λ_ z=>nomatch z) (λ_ _ z=>nomatch z) e
  ·exact z.2.1 m
 |.own k,v,_,h=>by unfold Y2 at h ⊢;exact h
 |.dct,_,n,_=>by cases n
 |.exn _,_,n,_=>by cases n
 |.tab P,v,_,h=>by unfold Y2 at h ⊢;exact h
 |.map _ _,_,n,_=>by cases n
 |.adr _,_,_,h=>h
theorem n8.hide(a:H p=KB (.frz o (.dK k_))):∀{ds:List D}{vs:List V},nms ds=KM->n8 K H XV μ ds vs->n8 K H (p::XV) μ ds vs
 |[],_,_,h=>h
 | d::ds,vs,n,h=>by
  unfold n8 at h ⊢;unfold nms at n;obtain⟨b,c⟩:=i0.mp n;obtain⟨v,r,e,f,g⟩:=h;exact⟨v,r,e,Y2.hide a b f,n8.hide a c g⟩
end
def n6.hide(d:H p=KB (.frz o (.dK k_)))(n:O.all nms=KM)(c:n6 K H XV μ O):n6 K H (p::XV) μ O:=by
 refine⟨c.len,c.nd,λa m z=>?_,λa m=>?_,λk a e=>?_⟩
 ·rcases aq.mp z with e|z
  ·obtain⟨k,i,j⟩:=dM.mp m;obtain⟨f,g,_,b,_⟩:=c.at_ k a (by rw[ao i,j]);rw[e,d] at b;cases b
  ·exact c.nh a m z
 ·rcases aq.mp m with e|m
  ·rw[e,d];simp
  ·exact c.ht a m
 ·obtain⟨f,g,h,b,l⟩:=c.at_ k a e;exact⟨f,g,h,b,l.hide d (ak.mp n f (aL h))⟩
def n9.put(e:n9 K H XV μ σ c_)(h:c_[i]?=KB (KB v))(q:Y2 K H XV μ d v):n9 K H XV μ (σ.set i (KB d)) c_:=by
 refine⟨by simp[e.len],λj x g=>?_⟩;by_cases a:i=j
 ·subst a;have b:i<σ.length:=by have:=(ar.mp g).1;simpa using this
  rw[bw b] at g;cases g;exact⟨v,h,q⟩
 ·rw[bq a] at g;exact e.at_ j x g
def n9.forget(e:n9 K H XV μ σ c_)(o:Option V):n9 K H XV μ (σ.set i KF) (c_.set i o):=by
 refine⟨by simp[e.len],λj x g=>?_⟩;by_cases a:i=j
 ·subst a;have b:i<σ.length:=by have:=(ar.mp g).1;simpa using this
  rw[bw b] at g;cases g
 ·rw[bq a] at g;obtain⟨v,c,d⟩:=e.at_ j x g;exact⟨v,by rw[bq a];exact c,d⟩
def C0(k:DK)(ks:List DK):Bool:=ks.any λj=>decide (j=k)
def tY(k:DK)(ks:List DK):List DK:=ks.filter λj=>decide (j≠k)
def xm(k:DK):List DK->List D->List D
 |j::ks,d::ds=>if j=k then xm k ks ds else d::xm k ks ds
 |_,_=>[]
theorem Qc:∀{a:List DK}{ds:List D}{vs:List V},a.length=vs.length->n8 K H XV μ ds vs->∃b,yL ((a.map kD).zip vs) (kD k)=((tY k a).map kD).zip b/\(tY k a).length=b.length/\n8 K H XV μ (xm k a ds) b
 |[],ds,vs,_,_=>⟨[],rfl,rfl,.nil⟩
 |j::a,ds,[],h,_=>by cases h
 |j::a,[],v::vs,_,h=>by unfold n8 at h;cases h
 | j::a,d::ds,v::vs,hl,h=>by
  obtain⟨w,r,e,i,l⟩:=(show ∃w r,v::vs=w::r/\Y2 K H XV μ d w/\n8 K H XV μ ds r from by unfold n8 at h;exact h);cases e;obtain⟨b,c,f,g⟩:=Qc (k:=k) (mi hl) l;show ∃b,yL ((kD j,v)::(a.map kD).zip vs) (kD k)=_/\_;by_cases e:j=k
  ·subst e;refine⟨b,?_,?_,?_⟩
   ·unfold yL tY at *;rw[dJ 'k',dJ 'k'];exact c
   ·unfold tY at *;rw[dJ 'k'];exact f
   ·unfold xm;rw[qb rfl];exact g
  ·have m:kD j≠kD k:=λz=>e (Co z);refine⟨v::b,?_,?_,?_⟩
   ·unfold yL tY at *;rw[dL (by simpa using m),dL (by simpa using e),c];rfl
   ·unfold tY at *;rw[dL (by simpa using e)];simpa using f
   ·unfold xm;rw[qq e];exact .cons i g
theorem Rt:∀{a:List DK}{vs:List V},a.length=vs.length->C0 k a=KM->(tT ((a.map kD).zip vs) (kD k)).isSome=KM
 |[],_,_,h=>by cases h
 |_::_,[],h,_=>by cases h
 | j::a,v::vs,hl,h=>by
  show(tT ((kD j,v)::(a.map kD).zip vs) (kD k)).isSome=KM;by_cases e:j=k
  ·rw[A9 (p:=(kD j,v)) (congrArg kD e)];rfl
  ·rw[Ad (p:=(kD j,v)) (λz=>e (Co z))];unfold C0 at h;rw[gL,decide_eq_false e,lG] at h;exact Rt (mi hl) h
end
def xi(iR sP iL:Nat)(t1 t3:DE):List D->List DK->List D->Sg->Ow->RS
 |[],_,_,σ,O=>.nx σ O
 | x::xs,ks,ds,σ,O=>match vS x with
  | some k=>if C0 k ks=KM then match t1 (σ.set sP (KB x)) O with
    | .ok d1 O1=>match t3 (((σ.set sP (KB x)).set iL (KB d1)).set iR (KB (.map (tY k ks) (xm k ks ds)))) O1 with
     |.ok _ O2=>if O2.all nms=KM then xi iR sP iL t1 t3 xs (tY k ks) (xm k ks ds) ((σ.set sP (KB x)).set iL (KB d1)) O2 else .bad
     |_=>.bad
    |_=>.bad
   else .bad
  |none=>.bad
def Dp(iR sP iL:Nat)(tH:DE)(it:DI)(t1 t3:DE)(tt:DS):DS:=λσ O=>(tH σ O).bnS λx O1=>match x with
 | .map ks ds=>(it (σ.set iR KF) O1).bnS λsrc O2=>match src with
  | .val xs=>match xi iR sP iL t1 t3 xs ks ds (σ.set iR KF) O2 with
   |.nx σ' O'=>tt σ' O'
   |_=>.bad
  |_=>.bad
 |_=>.bad
def Ea.ext(e:Ea p H μ H' e_)(h:H p=KF):Ext H μ H' e_:=⟨e.pre,λb o g n a=>e.kept b o g n (rm g h) a,e.fresh,e.there,e.tab⟩
section
variable{X:Cx}{Ex:Nat->Hp->Prop}
def Nu(g:H A=KB (.frz ob u)):∀a,oz H a->oz (upd H A o) a:=by
 rintro a ⟨h,b,i,j⟩;have k:a≠A:=by rintro rfl;rw[g] at b;cases b
 refine⟨h,by rw[pI k];exact b,i,λd l e=>?_⟩;obtain⟨c,m,rfl,f,n⟩:=j d l e;have p:c≠A:=by rintro rfl;rw[g] at f;cases f
 exact⟨c,m,rfl,by rw[pI p];exact f,n⟩
def VX(d:PE X e te):PE X e (λσ H Q=>∃p a,H p=KB (.dK a)/\∀o,te σ (upd H p (.frz o (.dK a))) λv H'=>H' p=KB (.frz o (.dK a))/\Q v (upd H' p (.dK a))):=by rintro b s σ H Q I ⟨p,a,c,h⟩;obtain⟨o,J⟩:=Inv.frzK I c;exact pG (d b s σ _ _ J (h o)) λv i ⟨x,j,f,r,g,q⟩=>⟨x,_,Inv.thawK f g (Inv.nofrz I c),r,q⟩
def zcE:on X (.type "dict") (λxs H Q=>∃(a:ae)(d:List (Key×V)),xs=[.ref a]/\Rd H a (.dK d)/\∀p,H p=KF->Q (.ref p) (upd H p (.dK d))):=by intro f s w H xs x Q I r h;obtain⟨a,d,rfl,g,q⟩:=h;obtain⟨u,rfl,i⟩:=uI r;cases i;obtain⟨z,j,y,c,k⟩:=Gm I.hok g;refine kt_call_dict j k (by rw[<- c.length];exact z) λl m n=>?_;have t:∀b o,s.heap.get? b=KB o->l.get? b=KB o:=λb o e=>(n.2 b (bh (aI e))).trans (af _ e);have v:=I.hok.fresh (aF s.heap.objs.size);exact⟨.ref _,_,I.laid (t':=s.toks) (o:=.dK d) t (aF _) (Gv z (beq_eq_false_iff_ne.mpr (bB (bh I.big))) c m),rfl,q _ v⟩
def zca{c h b:aT}{d:List aT}{gs:List bP}{scope:c8}{pos n j:Pos}{y:Str}{i:Nat}(o:Bool)(ext:List Str){it0:DI}{g:Tg}{ts:List DT}{cs:List Cl}{te:DE}(w:X.calm=KM)(B:X.N.Nodup)(D:X.N[i]?=KB y)(p:X.env.scope.names.lookup y=KB .local)
  (F:sC X Ex h b it0) (G:vf X.env.scope scope (X.N++ext) (pX (⟨it0,g,ts⟩::cs)))
  (J:Ds X ext scope h g d ts gs cs c te)
  (M:swapsWith (.ListComp c (⟨h,b,d,0⟩::gs) scope pos) (KB (.Name y j)) n.line X.env=pure KM)
  (P:∀x,bK b X.env x=pure x:=by intro _;rfl):PS X (.Assign [.Name y j] (.ListComp c (⟨h,b,d,0⟩::gs) scope pos) n) (B2 (rd Ex X.K (qj o ext.length it0 g ts cs te)) (yf i)):=by
 rintro k s c_ H E I ⟨R,μ,σ,O,S,r,q⟩;rw[kT _ _ _ _ M];refine aa (ez (aa ?_));show am _ X.A (do let _ <- comprehension (.ListComp c (⟨h,b,d,0⟩::gs) scope pos) scope X.env _ (newList []) K7 (eval b X.env) (KB (assign (.Name y j) X.env))) _ _ s;unfold qj at q;rw[<- KG] at q;refine aa (cG (D7 (Ki c) (use:=KB (assign (.Name y j) X.env)) (Q:=λ_ l=>SP X k E .next l) w F G (λf T s H U _ _ _=>IV J f T s H U) P I S r (Ra r q λL V W l C Y Z nC t y1 u pn=>?_)) (λ_ l hq=>ah (ah hq)) λ_ _ e=>e);obtain⟨m,hn⟩:=Z;show am _ _ (assign (.Name y j) X.env (.ref L)) _ _ l;refine jG (Ks (v:=.ref L) Y B D (.inl p) rfl (λyW MS xG=>?_) (.inr p));obtain⟨a,E7,ha⟩:=xG;have Mz:C≠a:=by
  rcases ha with z|z
  ·rw[z];exact t
  ·exact λe=>u y a z e.symm
 refine⟨m,hn.sameBut E7 Mz,λh' zm=>?_⟩;exact⟨_,V,Inv.bare MS zm nC t y1 u pn,W⟩
def zcY(u:km (av X.prog X.w) X.A X.env X.xe)(hc:X.calm=KM)
  (hA:∀te,PE X e te->PS X sA (B2 (HI (λxs H Q=>∃(a:ae)(k_:List (Key×V)),xs=[.ref a]/\Rd H a (.dK k_)/\∀p,H p=KF->Q (.ref p) (upd H p (.dK k_))) (NV te MW)) (yf iR))) (hH:PD X Ex e tH)
  (hi:sC X Ex tg iter it) (hg:PG X tg ((Tg.one sP).rd X.K)) (vR:PE X (.Name r p2) (IQ iR)) (vT:PE X (.Name tm p3) (IQ sP)) (hL:PS X sL (B2 (rd Ex X.K t1) (yf iL))) (hE:PD X Ex e3 t3) (wW:swapsWith e3 KF pE.line X.env=pure K7) (ht:sV X Ex xs tt)
  (n1:iR≠sP) (n2:iR≠iL) (hl:iR<X.N.length) (hT:sP<X.N.length) (hs:∀x,bK iter X.env x=pure x:=by intro _;rfl):sV X Ex (sA :: .For tg iter [.Delete [.Subscript (.Name r p2) (.Name tm p3) p4] p1,sL,.Expr e3 pE] [] pos::xs) (Dp iR sP iL tH it t1 t3 tt):=by
 refine⟨?_⟩;rintro Z s c_ H E I ⟨XV,μ,T,O,e1,c1,q⟩;have hlv:iR<c_.length:=by rw[I.len];exact hl
 refine(D3 (hA _ hH.out) (D3 (Ox u hc hi.out hg (D3 (YM vR vT) (D3 hL (P5 (Pz (VX hE.out) wW)))) hs) ht.out)) Z s c_ H E I ?_;refine rd.goS e1 c1 q λx O1 v B t ea xa ca da qa=>?_;cases x with
 | map ks ds=>
  unfold Y2 at da;obtain⟨a0,L,rfl,ra,na1,na2,hlen,dvs⟩:=da;refine⟨a0,_,rfl,.inr ra,λp u=>?_⟩;show M5 _ _ _ (c_.set iR (KB (.ref p))) (upd B p (.dK ((ks.map kD).zip L)));have Bp:Mv B XV t (upd B p (.dK ((ks.map kD).zip L))) (p::XV) t:=(Mv.hide u).trans (Ext.laid u).mv;have Uv:n9 X.K (upd B p (.dK ((ks.map kD).zip L))) (p::XV) t (T.set iR KF) (c_.set iR (KB (.ref p))):=(ea.mv Bp).forget _;have HS:p∉t:=λm=>by
   obtain⟨k,hk,e2⟩:=dM.mp m;obtain⟨_,_,_,h2,_⟩:=ca.at_ k p (by rw[ao hk,e2]);rw[u] at h2;cases h2
  have Tu:p∉XV:=λm=>ca.ht p m u;have cap:n6 X.K (upd B p (.dK ((ks.map kD).zip L))) (p::XV) t O1:=by
   have c0:=ca.laid (o:=.dK ((ks.map kD).zip L)) u;refine⟨c0.len,c0.nd,λa m z=>?_,λa m=>?_,λk a e=>?_⟩
   ·rcases aq.mp z with e|z
    ·exact HS (e▸m)
    ·exact c0.nh a m z
   ·rcases aq.mp m with e|m
    ·rw[e,qP];simp
    ·exact c0.ht a m
   ·obtain⟨M,F,U,h2,W⟩:=ca.at_ k a e;exact⟨M,F,U,by rw[pI (rm h2 u)];exact h2,W.mv Bp⟩
  have C:og Ex X.K B XV t ((it (T.set iR KF) O1).bnS λP O2=>match P with
   | .val xs=>match xi iR sP iL t1 t3 xs ks ds (T.set iR KF) O2 with
    |.nx b f=>tt b f
    |_=>.bad
   |_=>.bad) E:=qa
  refine⟨p::XV,t,T.set iR KF,O1,Uv,cap,?_⟩;cases R:it (T.set iR KF) O1 with
  |bad=>rw[R] at C;exact aj C
  | exc c' f=>
   rw[R] at C;exact λj l x c2=>C j l ((Ext.laid u).trans x) c2.unhide
  | ok P O2=>
   rw[R] at C;intro J H1 g_ x1 c2 sa;cases P with
   |own _=>exact aj C
   |zip _ _=>exact aj C
   | val ys=>
    have C:og Ex X.K B XV t (match xi iR sP iL t1 t3 ys ks ds (T.set iR KF) O2 with
     |.nx b f=>tt b f
     |_=>.bad) E:=C
    have e0:Ea p B t H1 g_:=(Ext.laid u).ea.trans x1.ea;have zp:H1 p=KB (.dK ((ks.map kD).zip L)):=x1.keep p _ qP HS;refine⟨λi m S j=>∃l b f g M F,m=ys.length-i/\i<=ys.length/\S.length=X.N.length/\Ea p H1 g_ j l/\n9 X.K j (p::XV) l b S/\n6 X.K j (p::XV) l f/\S[iR]?=KB (KB (.ref p))/\j p=KB (.dK ((g.map kD).zip F))/\g.length=F.length/\n8 X.K j (p::XV) l M F/\
     og Ex X.K B XV t (match xi iR sP iL t1 t3 (ys.drop i) g M b f with
      |.nx b f=>tt b f
      |_=>.bad) E,
     ⟨_,g_,_,O2,ks,ds,L,rfl,cn _,by rw[el];exact I.len,.refl,Uv.ext x1,c2,by rw[bw hlv],zp,hlen,(dvs.mv Bp).ext x1,C⟩,?_⟩
    rintro i m vM H2 ⟨D,rV,Y,n,FP,Bd,hm,hile,TK,MM,FL,AG,H8,Fc,BF,wy,c⟩;have CV:=sa (p::XV) H2 D Y MM.mv AG i;have HL:match ys[i]? with
     |some d=>J.go i H2/\∀x sU,J.yld i H2 x sU->Ext H2 D sU D/\n6 X.K sU (p::XV) D Y/\Y2 X.K sU (p::XV) D d x
     |none=>J.stop i H2:=CV
    cases qH:ys[i]? with
    | none=>
     rw[qH] at HL;have vJ:i=ys.length:=by have:=aQ.mp qH;lia
     rw[vJ,mX] at c;have c:og Ex X.K B XV t (tt rV Y) E:=c;exact .inl ⟨HL,XV,D,rV,Y,FL.mv .unhide,AG.unhide,c.ext ((e0.trans MM).ext u)⟩
    | some d=>
     rw[qH] at HL;obtain⟨go,yl⟩:=HL;have vJ:i<ys.length:=(ar.mp qH).1;rw[dh vJ,(ar.mp qH).2] at c;unfold xi at c;cases hk:vS d with
     |none=>rw[hk] at c;exact aj c
     | some k=>
      rw[hk] at c;dsimp only at c;by_cases qZ:C0 k n=KM
      case neg=>rw[qq qZ] at c;exact aj c
      rw[qb qZ] at c;refine .inr ⟨go,λS j=>∃l b f g M F,S.length=X.N.length/\Ea p H1 g_ j l/\n9 X.K j (p::XV) l b S/\n6 X.K j (p::XV) l f/\S[iR]?=KB (KB (.ref p))/\j p=KB (.dK ((g.map kD).zip F))/\g.length=F.length/\n8 X.K j (p::XV) l M F/\
       og Ex X.K B XV t (match xi iR sP iL t1 t3 (ys.drop (i+1)) g M b f with
        |.nx b f=>tt b f
        |_=>.bad) E,λb j ⟨l,rP,O3,ks3,ds3,vs3,h⟩=>⟨ys.length-(i+1),by lia,l,rP,O3,ks3,ds3,vs3,rfl,vJ,h⟩,λv H3 y=>?_⟩
      obtain⟨x3,c3,r3⟩:=yl v H3 y;have yZ:p∉D:=λm=>AG.nh p m 'k';have LU:H3 p=KB (.dK ((n.map kD).zip Bd)):=x3.keep p _ Fc yZ;have FK:=(FL.ext x3).set r3 sP;have dd3:=wy.ext x3;have ekv:=IZ hk r3;have E5:(vM.set sP (KB v))[iR]?=KB (KB (.ref p)):=by rw[bq (bB n1)];exact H8
      have E3:(vM.set sP (KB v))[sP]?=KB (KB v):=by
       rw[bw (by rw[TK];exact hT)]
      dsimp only[Tg.rd,yf];refine⟨_,E5,v,E3,p,_,kD k,rfl,LU,ekv,Rt BF qZ,?_⟩;obtain⟨G,hd1,hd2,hd3⟩:=Qc (k:=k) BF dd3;rw[hd1];have ML:Ea p H3 D (upd H3 p (.dK (((tY k n).map kD).zip G))) D:=.putX (xk LU);have Uw:=FK.mv (ML.mv (XV:=XV));have cl4:=c3.putX (o:=.dK (((tY k n).map kD).zip G)) (xk LU);have dd4:=hd3.mv (ML.mv (XV:=XV));cases U:t1 (rV.set sP (KB d)) Y with
      |bad=>rw[U] at c;exact aj c
      |exc c' f=>rw[U] at c;exact aj c
      | ok d1 O5=>
       rw[U] at c;dsimp only at c;refine⟨p::XV,D,rV.set sP (KB d),Y,Uw,cl4,?_⟩;rw[U];intro v1 H5 xW x5 c5 r5;have Fb:H5 p=KB (.dK (((tY k n).map kD).zip G)):=x5.keep p _ qP yZ;have EI:p∉xW:=λm=>c5.nh p m 'k';have Ir:=(Uw.ext x5).set r5 iL;have Uy:=dd4.ext x5;have E4:((vM.set sP (KB v)).set iL (KB v1))[iR]?=KB (KB (.ref p)):=by rw[bq (bB n2)];exact E5
       cases W:t3 (((rV.set sP (KB d)).set iL (KB d1)).set iR (KB (.map (tY k n) (xm k n FP)))) O5 with
       |bad=>rw[W] at c;exact aj c
       |exc c' f=>rw[W] at c;exact aj c
       | ok d3 O6=>
        rw[W] at c;dsimp only at c;by_cases hn:O6.all nms=KM
        case neg=>rw[qq hn] at c;exact aj c
        rw[qb hn] at c;refine⟨p,_,Fb,λo=>?_⟩;have MK:Ea p H5 xW (upd H5 p (.frz o (.dK (((tY k n).map kD).zip G)))) xW:=.putX (xk Fb);have dm:Y2 X.K (upd H5 p (.frz o (.dK (((tY k n).map kD).zip G)))) XV xW (.map (tY k n) (xm k n FP)) (.ref p):=by
         unfold Y2;exact⟨p,G,rfl,⟨o,qP⟩,Tu,EI,hd2,(Uy.mv (MK.mv (XV:=XV))).mv .unhide⟩
        refine⟨XV,xW,_,O5,((Ir.mv (MK.mv (XV:=XV))).mv .unhide).put E4 dm,(c5.putX (xk Fb)).unhide,?_⟩;rw[W];intro v3 H6 FZ x6 c6 r6;have Ia:H6 p=KB (.frz o (.dK (((tY k n).map kD).zip G))):=x6.keep p _ qP EI;have ea7:Ea p H6 FZ (upd H6 p (.dK (((tY k n).map kD).zip G))) FZ:=.putX (Nu Ia);have MJ:=(MK.trans x6.ea).trans ea7;exact⟨Ia,FZ,_,O6,_,_,G,by rw[el,el];exact TK,((MM.trans x3.ea).trans ML).trans (x5.ea.trans MJ),Ir.mv (MJ.mv (XV:=XV)),(c6.hide Ia hn).putX (Nu Ia),E4,qP,hd2,Uy.mv (MJ.mv (XV:=XV)),c⟩
 |_=>exact aj qa
end
end DL
namespace DL
open PySem L2
def F2(o:Obj):Nat:=match o.data with
 |.dict _ ep=>ep
 |_=>0
def UJ(a:ae)(o:Obj)(k_:List (Key×V)):It:=⟨λi H=>H a=KB (.frz o (.dK k_))/\i<k_.length,λi H x H'=>H'=H/\∃k v,k_[i]?=KB (k,v)/\x=kV k,λi H=>H a=KB (.frz o (.dK k_))/\k_.length<=i⟩
theorem ON:∀{k_:List (Key×V)}{ws:List (Key×ab)}{i:Nat}{k:Key}{v:V},KV k_ ws->k_[i]?=KB (k,v)->∃u,ws[i]?=KB (k,u)
 |_,_,_,_,_,.nil,h=>by simp at h
 | (k0,v0)::_,(k1,u1)::_,0,k,v,.cons h _,e=>by
  simp at e;obtain⟨rfl,rfl⟩:=e;have a:k0=k1:=h.1;subst a;exact⟨u1,rfl⟩
 |_::_,_::_,i+1,k,v,.cons _ t,e=>ON (i:=i) t (by simpa using e)
def Ze(h:(vE P w).is k u=KM):RelV (kV k) u:=by
 rcases yr (k:=k) (v:=u) h with⟨i,t,rfl,rfl⟩|⟨x,t,rfl,rfl⟩
 ·exact⟨t,rfl⟩
 ·exact⟨t,rfl⟩
def JD(ok:HOk P w H h)(e:H a=KB (.frz o (.dK k_))):(a==sysModules)=K7/\∃b,KV k_ b/\h.DictAt (vE P w) a b (F2 o):=by
 obtain⟨d,z,i,b,c,m,j,k,f,l,g,r⟩:=ok a _ e;rw[d] at f;cases f;have:F2 o=k:=by unfold F2;rw[g]
 rw[this];exact⟨i,b,c,o,j,d,l,g,r⟩
def zfG(a it:ae)(o:Obj)(q:List (Key×V)):wK P w K tg (UJ a o q) [it] it (λi h=>h.IsKeyIter it a i q.length (F2 o)) where
 mem:=by simp
 obj:=λi h g b l=>by
  have e:b=it:=by simpa using l
  subst e;obtain⟨o,e,c,d⟩:=g;exact⟨o,e,λv z=>by rw[d] at z;cases z⟩
 keep:=λi h m g k=>g.at λo e=>k it 'k' o e
 item:=by
  intro X r t x O i j s Q H E I n g y;subst r t x;obtain⟨A,B⟩:=y;obtain⟨S,T,f,C⟩:=JD I.hok A;obtain⟨⟨k,v⟩,R⟩:∃p,q[i]?=KB p:=⟨_,ao B⟩;obtain⟨u,U⟩:=ON f R;obtain⟨D,F,W,G,J,L⟩:=n it 'k';rw[f.length] at g;refine wpAny_pyNext_dict_item g C U λM m Y N Z=>?_;have I1:Inv X j Q H { s with heap:=m }:=I.turned (t':=s.toks) (λb o l e=>(Z.2 b l).trans e) D F G J L;obtain⟨o2,e,c,d⟩:=id N;rw[<- f.length] at N;exact⟨M,rfl,Dq (s:={ s with heap:=m }) e c d 'u' ⟨kV k,H,I1,Ze Y,⟨rfl,k,v,R,rfl⟩,N,λb l=>(n b l).1⟩⟩
 done:=by
  intro X r t x O i j s Q H E I n g y;subst r t x;obtain⟨A,B⟩:=y;obtain⟨S,T,f,C⟩:=JD I.hok A;obtain⟨D,F,W,G,J,L⟩:=n it 'k';rw[f.length] at g;exact wpAny_pyNext_dict_end (I.ok.hd O) g C (aQ.mpr (by rw[<- f.length];exact B)) λm eb=>⟨rfl,I.turned (t':=s.toks) (λb o l e=>eb b o l e) D F G J L⟩
 self:=λ_ _ _ _ _ g h=>wpAny_pyIter_keyiter g h
noncomputable def An:DK->D
 |.inl i=>.int i
 |.inr cs=>.str cs
def Y9:∀k:DK,Y2 K H XV μ (An k) (kV (kD k))
 |.inl _=>by unfold An Y2;rfl
 |.inr _=>by unfold An Y2;rfl
def oi.keys{K:ai}{H:Hp}{XV μ:List ae}{b:List DK}{vs:List V}{a:ae}{o:Obj}(h:H a=KB (.frz o (.dK ((b.map kD).zip vs))))(n:a∉XV)(p:a∉μ)(g:b.length=vs.length):oi K (UJ a o ((b.map kD).zip vs)) (.val (b.map An)) H XV μ:=by
 intro j u v w m c i;have l:=m.kept a _ h p n (by intro A z;cases z);have f:((b.map kD).zip vs).length=b.length:=by rw[np,ax,g,Nat.min_self]
 show match (b.map An)[i]? with|some d=>_|none=>_
 rw[a8];cases e:b[i]? with
 | some k=>
  have q:=(ar.mp e).1;refine⟨⟨l,by rw[f];exact q⟩,λx B y=>?_⟩;obtain⟨rfl,r,C,s,rfl⟩:=y;have t:r=kD k:=by
   have:=congrArg (m7 Prod.fst) s;rw[<- a8,List.map_fst_zip (by rw[ax];exact jV g),a8,e] at this;cases this;rfl
  subst t;exact⟨.refl,c,Y9 k⟩
 | none=>
  exact⟨l,by rw[f];exact aQ.mp e⟩
def F7(t:DE):DI:=λσ O=>(t σ O).bnd λx O1=>match x with
 |.map ks _=>.ok (.val (ks.map An)) O1
 |_=>.bad
def zge{X:Cx}{m:Nat->Hp->Prop}{a y:aT}{t:DE}(z:PD X m a t):sC X m y a (F7 t):=by
 refine⟨?_⟩;rintro i s A H B I ⟨f,S,T,O,C,D,q⟩;refine pG (z.out i s A H _ I (rd.go C D q (Q1:=λv g=>∃f h j d,n6 X.K g f h j/\Y2 X.K g f h d v/\post m X.K (λE F s J=>oi X.K J s E f F) g f h (match d with|.map ks _=>.ok (.val (ks.map An)) j|_=>.bad) B)
  λd j v g h U x c r p=>⟨f,h,j,d,c,r,p⟩)) λu k ⟨v,g,l,G,f,h,j,d,c,r,p⟩=>?_
 cases d with
 | map ks ds=>
  unfold Y2 at r;obtain⟨a,V,rfl,⟨o,w⟩,L,M,N,W⟩:=r;cases G;obtain⟨P,Y,n,Q⟩:=JD l.hok w;refine wpAny_pyIter_dict P Q ?_;rw[<- n.length];refine⟨k.heap.objs.size,[k.heap.objs.size],_,_,g,rfl,l.kept (t':=k.toks) λb o e=>af _ e,zfG a _ o _,⟨_,aC _ rfl,rfl,rfl⟩,λb R=>?_,post.here p c (.keys w L M N)⟩;have e:b=k.heap.objs.size:=by simpa using R
  subst e;exact l.fpOk (aF _) (l.hok.fresh (aF _))
 |_=>exact aj p
end DL
namespace DL
open PySem L2 PyProof.Rows
noncomputable def sZ(i j k l:Int):Bool:=decide (i<k)||(decide (i=k)&&decide (j<l))
def NR(h:Q (.bool (decide (a<b))) s):am (av prog w) A (richCompare .Lt (.int a t) (.int b u)) Q E s:=wpAny_lt_int h
set_option maxHeartbeats 4000000 in
def zdJ(l b:ae)(a c i e:Int)(m o p q:Tok)(n x:Nat)(y z:Option ae)(sl B:Array (Option ab)):
  Meets (dH.«tuple.__lt__» ⟨[.ref l,.ref b],[]⟩)
   (λA R s=>s.heap.get? l=KB { cls:=.type "tuple",dict:=y,data:=.seq #[.int a m,.int c o] n,slots:=sl }/\s.heap.get? b=KB { cls:=.type "tuple",dict:=z,data:=.seq #[.int i p,.int e q] x,slots:=B }/\
    R (.ok (.ret (.bool (sZ a c i e)))) s):=
 .of_wp λf w A R s h=>by
  obtain⟨r,g,d,t,u⟩:=s;obtain⟨C,D,h⟩:=h;have E:=jX
  wp_walk using wpAny_loadPart' C,wpAny_loadPart' D
  refine j6 (A:=A.in1) (s:=⟨r,g,d,t,u⟩) a m i p f w _ _ ?_;by_cases k:a=i
  ·subst k;rw[show(a==a)=KM from beq_self_eq_true a]
   wp_walk
   refine j6 (A:=A.in1) (s:=⟨r,g,d,t,u⟩) c o e q f w _ _ ?_;by_cases v:c=e
   ·subst v;rw[show(c==c)=KM from beq_self_eq_true c]
    wp_walk
    have j:sZ a c a c=K7:=by unfold sZ;simp
    rw[j] at h;exact⟨_,rfl,h⟩
   ·rw[show(c==e)=K7 from beq_eq_false_iff_ne.mpr v]
    wp_walk using NR
    have j:sZ a c a e=decide (c<e):=by unfold sZ;simp
    rw[j] at h;exact⟨_,rfl,h⟩
  ·rw[show(a==i)=K7 from beq_eq_false_iff_ne.mpr k]
   wp_walk using NR
   have j:sZ a c i e=decide (a<i):=by unfold sZ;simp[k]
   rw[j] at h;exact⟨_,rfl,h⟩
def DC(k:s.heap.IsTuple l #[.int i1 t1,.int i2 t2])(m:s.heap.IsTuple b #[.int j1 u1,.int j2 u2])(o:A.units<cLine)(h:Q (.bool (sZ i1 i2 j1 j2)) s):
  am (av prog w) A (richCompare .Lt (.ref l) (.ref b)) Q E s:=by
 obtain⟨⟨p,q,d,r⟩,e,f,n,g⟩:=id k;obtain⟨⟨y,t,c,u⟩,i,j,v,a⟩:=id m;simp only at f g j a;subst f g j a;exact richCompare_meets_room (op:=.Lt) ⟨_,e,rfl⟩ ⟨_,i,rfl⟩ F.slot_tuple_lt F.entry_tuple_lt (F.args_tuple_lt_2 _ _) (zdJ l b i1 i2 j1 j2 t1 t2 u1 u2 n v q t r u)
  ⟨e,i,show jL (sZ i1 i2 j1 j2)≠Value.notImplemented/\Q (.bool (sZ i1 i2 j1 j2)) s from ⟨(λx=>nomatch x),h⟩⟩ o
section
variable{prog:aN}{w:aY}{A:ba}{R:Result->ag->Prop}{I S:ae}{fp wr:List ae}{n:Nat}{P:Nat->ab->Prop}{St:Nat->aX->Prop}{bt:Nat->Nat->Bool}{kp:aX->Prop}
def Nj(prog:aN)(w:aY)(A:ba)(P:Nat->ab->Prop)(bt:Nat->Nat->Bool)(kp:aX->Prop):Prop:=∀i j vi vj(s:ag)(Q:ab->ag->Prop)(E:ab->ag->Prop),kp s.heap->P i vi->P j vj->Q (.bool (bt i j)) s->am (av prog w) A (richCompare .Lt vi vj) Q E s
def Od(kp:aX->Prop)(wr:List ae)(S:ae):Prop:=∀h h',kp h->(∀b o,b∉wr->b≠S->h.get? b=KB o->h'.get? b=KB o)->kp h'
def ZO(W:Walks prog w A.in1 I fp wr n P St)(M:Nj prog w A.in1 P bt kp)(D:S∉fp)(E:Od kp wr S):
  ∀(k j:Nat)(s:ag)(a:ab)(c:Nat),n-(j+1)=k->j+1<=n->kp s.heap->St (j+1) s.heap->P (argBest bt j) a->s.heap.get? S=KB { cls:=.type "list",dict:=KF,data:=.seq #[a,a] c,slots:=#[] }->
  (∀v h' tk,P (argBest bt (n-1)) v->(∀b o,b∉wr->b≠S->s.heap.get? b=KB o->h'.get? b=KB o)->R (.ok (.ret v)) { s with heap:=h',toks:=tk })->codeAny (av prog w) A (.builtin "min.loop" ⟨[.ref I,.none,.ref S],[]⟩) R s:=by
 have F:S∉wr:=λh=>D (W.sub _ h);have G:(toString "min" ++ toString ".loop":String) = "min.loop":=by decide
 intro k
 induction k with
 | zero=>
  intro j s a c N O H q l i m;have J:j+1=n:=by lia
  refine eR eu ?_;rw[dO bD _];show am _ A.in1 (seqItems? (.ref S) >>= _) _ _ s;refine aa (cH i rfl ?_);show am _ A.in1 (tryCatch (pyNext (.ref I)) _ >>= _) _ _ s;refine aa (ee (W.done s _ _ (J▸q) λh' tk d=>?_));show am _ A.in1 (updateSeq S (λ_=>#[]) >>= _) _ _ _;exact aa (eo (d S _ F i) rfl (aa (d7 (ah (m a _ tk (by rw[<- J];exact l) λb o f g e=>(bj _ _ (bB g)).trans (d b o f e))))))
 | succ k ih=>
  intro j s a c N O H q l i m;have r:j+1<n:=by lia
  refine eR eu ?_;rw[dO bD _];show am _ A.in1 (seqItems? (.ref S) >>= _) _ _ s;refine aa (cH i rfl ?_);show am _ A.in1 (tryCatch (pyNext (.ref I)) _ >>= _) _ _ s;refine aa (ee (W.item (j+1) s _ _ r q λv h' tk K L d=>?_));have t:=d S _ F i;have u:kp h':=E _ _ H λb o p _ e=>d b o p e;show am _ A.in1 (tryCatch (holding [v,v] (richCompare .Lt v a >>= _)) _ >>= _) _ _ _;refine aa (ee (bz (aa (M (j+1) (argBest bt j) v a { s with heap:=h',toks:=tk } _ _ u K l (aa (bz (cX (aa (d7 (ah ?_))))))))));cases p:bt (j+1) (argBest bt j) with
  | true=>
   simp only[if_true];refine aa (eo t rfl (aa (d7 ?_)));rw[G];refine ah ⟨eC bD _,ih (j+1) _ v _ 'd' r (E _ _ u λb o _ n e=>(bj _ _ (bB n)).trans e) (W.frame _ _ _ L λb Q o e=>(bj _ _ (λh:S=b=>D (by rw[h];exact Q))).trans e) (by simp only[argBest,p,if_true];exact K) (bJ _ t rfl)
    λx y z B C=>m x y z B λb o f g e=>C b o f g ((bj _ _ (bB g)).trans (d b o f e))⟩
  | false=>
   simp only[bi,if_false];refine aa (d7 ?_);rw[G];exact ah ⟨eC bD _,ih (j+1) _ a c 'd' r u L (by simp only[argBest,p,bi,if_false];exact l) t λx y z B C=>m x y z B λb o f g e=>C b o f g (d b o f e)⟩
def zgu(W:Walks prog w A.in1 I fp wr n P St)(m:Nj prog w A.in1 P bt kp)(a:S∉fp)(d:Od kp wr S)(g:0<n)(p:kp s.heap)(q:St 0 s.heap)(i:s.heap.get? S=KB { cls:=.type "list",dict:=KF,data:=.seq #[] c,slots:=#[] })
  (r:∀v h' tk,P (argBest bt (n-1)) v->(∀b o,b∉wr->b≠S->s.heap.get? b=KB o->h'.get? b=KB o)->R (.ok (.ret v)) { s with heap:=h',toks:=tk }):codeAny (av prog w) A (.builtin "min.loop" ⟨[.ref I,.none,.ref S],[]⟩) R s:=by
 have t:S∉wr:=λh=>a (W.sub _ h);have u:(toString "min" ++ toString ".loop":String) = "min.loop":=by decide
 refine eR eu ?_;rw[dO bD _];show am _ A.in1 (seqItems? (.ref S) >>= _) _ _ s;refine aa (cH i rfl ?_);show am _ A.in1 (tryCatch (pyNext (.ref I)) _ >>= _) _ _ s;refine aa (ee (W.item 0 s _ _ g q λv h' tk x y f=>?_));have j:=f S _ t i;have z:kp h':=d _ _ p λb o B _ e=>f b o B e;show am _ A.in1 (updateSeq S (λ_=>#[v,v]) >>= _) _ _ _;refine aa (eo j rfl ?_);rw[u];exact ah ⟨eC bD _,ZO W m a d _ 0 _ v _ rfl g (d _ _ z λb o _ n e=>(bj _ _ (bB n)).trans e) (W.frame _ _ _ y λb C o e=>(bj _ _ (λh:S=b=>a (by rw[h];exact C))).trans e) x (bJ _ j rfl)
  λD E F G H=>r D E F G λb o k l e=>H b o k l ((bj _ _ (bB l)).trans (f b o k e))⟩
end
def Wz(y:A.handled=KF)(q:A.units+1<cLine)(J:s.heap.IsTuple l #[.int i1 t1,.int i2 t2])(K:s.heap.IsTuple b #[.int j1 u1,.int j2 u2])
  (h:∀h' tk,(∀c o,s.heap.get? c=KB o->h'.get? c=KB o)->Q (.ref (if sZ j1 j2 i1 i2=KM then b else l)) { s with heap:=h',toks:=tk }):am (av prog w) A (call (.builtin "min") [.ref l,.ref b]) Q E s:=by
 have L:(toString "min" ++ toString ".loop":String) = "min.loop":=by decide
 refine kmb_tree mY mI mJ (PySem.F.args_min2 _ _) ?_;show am _ A.in1 (fA "min" ["key", "default"] 0 ⟨[],[]⟩ >>= _) _ _ s;refine aa (ji (show fA "min" ["key", "default"] 0 ⟨[],[]⟩=pure [KF,KF] from rfl) ?_);show am _ A.in1 (newTuple [.ref l,.ref b] >>= _) _ _ s;refine aa (b9 ?_);have H:(s.heap.push { cls:=.type "tuple",data:=.seq #[.ref l,.ref b] }).IsTuple s.heap.objs.size #[.ref l,.ref b]:=⟨_,aC _ rfl,rfl,0,rfl⟩;refine aa (jm H ?_);refine aa (b9 ?_);rw[L];have f:(s.heap.push { cls:=.type "tuple",data:=.seq #[.ref l,.ref b] }).objs.size=s.heap.objs.size+1:=cu ..;generalize M:s.heap.push { cls:=.type "tuple",data:=.seq #[.ref l,.ref b] } = h1 at *;generalize B:h1.push { cls:=.type "tuple_iterator",data:=.fields #[.ref s.heap.objs.size,.int 0 0] } = h2 at *;have C:h2.objs.size=s.heap.objs.size+2:=by rw[<- B,cu,f]
 have p:∀c o,s.heap.get? c=KB o->h1.get? c=KB o:=λc o e=>by rw[<- M];exact af _ e
 have D:∀c o,h1.get? c=KB o->h2.get? c=KB o:=λc o e=>by rw[<- B];exact af _ e
 have G:h2.IsTupleIter h1.objs.size s.heap.objs.size 0:=⟨_,by rw[<- B];exact aC _ rfl,rfl,rfl⟩;have W:=Walks.tuple (prog:=prog) (w:=w) (A:=A.in1) y h1.objs.size s.heap.objs.size (by rw[f];exact bh (cC _)) #[.ref l,.ref b];let a:Nat->Int×Int:=λi=>if i=0 then (i1,i2) else (j1,j2)
 refine ah ⟨eC bD _,zgu (kp:=λh=>∀c o,s.heap.get? c=KB o->h.get? c=KB o) (bt:=λi j=>sZ (a i).1 (a i).2 (a j).1 (a j).2) (S:=h2.objs.size) W ?_ ?_ ?_ (cR _) (λc o e=>af _ (D c o (p c o e))) ⟨let ⟨o,e,r⟩:=G;⟨o,af _ e,r⟩,let ⟨o,e,r⟩:=H;⟨o,af _ (D _ o e),r⟩⟩ (aC _ rfl) ?_⟩
 ·rintro i j N O I U V n P R t;have g:∀k(v:ab),(#[fx l,.ref b]:Array ab)[k]?=KB v->(k=0/\v=.ref l)\/(k=1/\v=.ref b):=λk v e=>by
   match k with
   |0=>exact .inl ⟨rfl,by simpa using e.symm⟩
   |1=>exact .inr ⟨rfl,by simpa using e.symm⟩
   |k+2=>simp at e
  have u:I.heap.IsTuple l #[.int i1 t1,.int i2 t2]:=let ⟨o,e,r⟩:=J;⟨o,n _ o e,r⟩;have x:I.heap.IsTuple b #[.int j1 u1,.int j2 u2]:=let ⟨o,e,r⟩:=K;⟨o,n _ o e,r⟩;rcases g i N P with⟨rfl,rfl⟩|⟨rfl,rfl⟩<;>rcases g j O R with⟨rfl,rfl⟩|⟨rfl,rfl⟩
  ·exact DC u u q t
  ·exact DC u x q t
  ·exact DC x u q t
  ·exact DC x x q t
 ·intro z;have z:h2.objs.size=h1.objs.size\/h2.objs.size=s.heap.objs.size:=by simpa using z
  rw[C,f] at z;rcases z with z|z
  ·exact absurd z (dU (cC _))
  ·exact absurd z (dU (bb (cC _) (eL _)))
 ·intro h h' n y c o e;have d:c<s.heap.objs.size:=aI e;refine y c o (λz=>?_) (λz=>?_) (n c o e)
  ·have z:c=h1.objs.size:=by simpa using z
   rw[z,f] at d;exact absurd (fR d) (bN _)
  ·rw[z,C] at d;exact absurd (fR (fR d)) (bN _)
 ·intro v h' tk m n;have e:v=.ref (if sZ j1 j2 i1 i2=KM then b else l):=by
   have m:(#[fx l,.ref b]:Array ab)[argBest (λi j=>sZ (a i).1 (a i).2 (a j).1 (a j).2) 1]?=KB v:=m;have T:argBest (λi j=>sZ (a i).1 (a i).2 (a j).1 (a j).2) 1=if sZ j1 j2 i1 i2=KM then 1 else 0:=rfl
   rw[T] at m;by_cases d:sZ j1 j2 i1 i2=KM
   ·rw[qb d] at m ⊢;simpa using m.symm
   ·rw[qq d] at m ⊢;simpa using m.symm
  subst e;refine h h' tk λc o e=>?_;have d:c<s.heap.objs.size:=aI e;refine n c o (λz=>?_) (λz=>?_) (af _ (D c o (p c o e)))
  ·have z:c=h1.objs.size:=by simpa using z
   rw[z,f] at d;exact absurd (fR d) (bN _)
  ·rw[z,C] at d;exact absurd (fR (fR d)) (bN _)
section
variable{X:Cx}{Ex:Nat->Hp->Prop}
def M6(K:ai):R2:=λx y H Q=>∃a b i j k l,x=.ref a/\y=.ref b/\qT K H a [.int i,.int j]/\qT K H b [.int k,.int l]/\Q (.bl (sZ i j k l)) H
def GN(I:L2.Inv X Y1 σ H s)(b:qT X.K H a [.int i,.int j]):∃t u,s.heap.IsTuple a #[.int i t,.int j u]:=by obtain⟨e,c,p,_⟩:=I.tuple b;obtain⟨u,f,rfl,⟨t,rfl⟩,⟨d,rfl⟩⟩:=Cb c;exact⟨t,d,p⟩
def OH(d:X.A.units+64<cLine):qm X (cm .Lt) (M6 X.K):=by intro c s p H x y v u Q I e f h;obtain⟨a,b,i,j,k,l,rfl,rfl,g,m,q⟩:=h;cases e;cases f;obtain⟨r,t,n⟩:=GN I g;obtain⟨w,z,o⟩:=GN I m;exact DC n o (eG (gG _ 64) d) ⟨.bl _,H,I,rfl,q⟩
def B1:Ow->D->D->R D:=λO x y=>match x,y with
 |.tup [.int i,.int j],.tup [.int k,.int l]=>.ok (.bl (sZ i j k l)) O
 |_,_=>.bad
def GQ{K:ai}{H:Hp}{XV μ:List ae}{i j:Int}{v:V}(h:Y2 K H XV μ (.tup [.int i,.int j]) v):∃a,v=.ref a/\qT K H a [.int i,.int j]:=by obtain⟨t,f,rfl,d,e⟩:=AZ h rfl;obtain⟨x,y,rfl,b,c⟩:=zU e;unfold Y2 at b c;subst b;subst c;exact⟨t,rfl,d⟩
def OU:rD X Ex (M6 X.K) B1:=by
 intro H d i O x y v w Q c e f q;unfold B1 at q;split at q
 ·obtain⟨a,rfl,g⟩:=GQ e;obtain⟨b,rfl,h⟩:=GQ f;exact⟨a,b,_,_,_,_,rfl,rfl,g,h,post.here q c tN⟩
 ·exact aj q
def Nt(K:ai):List V->Hp->VK->Prop:=λxs H Q=>∃a b i j k l,xs=[.ref a,.ref b]/\qT K H a [.int i,.int j]/\qT K H b [.int k,.int l]/\Q (.ref (if sZ k l i j=KM then b else a)) H
def zer(d:X.calm=KM)(e:X.A.units+64<cLine):on X (.builtin "min") (Nt X.K):=by intro c s w H x y Q I r h;obtain⟨a,b,i,j,k,l,rfl,f,g,q⟩:=h;obtain⟨u,z,rfl,m,n⟩:=Cb r;cases m;cases n;obtain⟨B,C,o⟩:=GN I f;obtain⟨D,E,p⟩:=GN I g;exact wT I (Wz (I.ok.hd d) (eG (Nat.add_le_add_left 'u' _) e) o p λF t v G=>⟨.ref _,H,I.kept (t':=t) v,rfl,q⟩)
def Ce:Ow->List D->R D:=λO xs=>match xs with
 |[.tup [.int i,.int j],.tup [.int k,.int l]]=>.ok (if sZ k l i j=KM then .tup [.int k,.int l] else .tup [.int i,.int j]) O
 |_=>.bad
def ZQ:uH X Ex (Nt X.K) Ce:=by
 intro H g k O l m Q c d q;unfold Ce at q;split at q
 ·obtain⟨v,w,rfl,e,f⟩:=zU d;obtain⟨a,rfl,i⟩:=GQ e;obtain⟨b,rfl,j⟩:=GQ f;refine⟨a,b,_,_,_,_,rfl,i,j,?_⟩;split at q
  ·rename_i h;rw[qb h];exact post.here q c f
  ·rename_i h;rw[qq h];exact post.here q c e
 ·exact aj q
def zM:List Int->Int
 |[]=>0
 |x::l=>l.foldl min x
theorem PL:∀(l:List Int)(x:Int),l.foldl min x<=x/\∀a∈l,l.foldl min x<=a
 |[],x=>⟨Int.le_refl _,λ_ h=>by cases h⟩
 | y::l,x=>by
  obtain⟨c,b⟩:=PL l (min x y);rw[fE];refine⟨by lia,λa ha=>?_⟩;rcases aq.mp ha with rfl|ha
  ·lia
  ·exact b a ha
theorem D4:∀(l:List Int)(x:Int),l.foldl min x=x\/l.foldl min x∈l
 |[],x=>.inl rfl
 | y::l,x=>by
  rw[fE];rcases D4 l (min x y) with h|h
  ·rcases Int.le_total x y with e|e
   ·left;rw[h];lia
   ·right;rw[h];rw[show min x y=y by lia];exact au
  ·exact .inr (al _ h)
def zfw(hm:M∈ns)(b:∀a,a∈ns->M<=a):M=zM ns:=by
 cases ns with
 |nil=>cases hm
 | cons x l=>
  show M=l.foldl min x;obtain⟨c,d⟩:=PL l x;have f:l.foldl min x<=M:=by
   rcases aq.mp hm with rfl|hm
   ·exact c
   ·exact d M hm
  have g:M<=l.foldl min x:=by
   rcases D4 l x with e|e
   ·rw[e];exact b x au
   ·exact b _ (al _ e)
  lia
def zeb(m:X.calm=KM):on X (.builtin "min") (λxs H Q=>∃(p:ae)(ns:List Int),xs=[.ref p]/\qz X.K H p (ns.map V.int)/\ns≠[]/\Q (.int (zM ns)) H):=by
 intro e s G H xs J Q I r h;obtain⟨p,ns,rfl,n,o,q⟩:=h;obtain⟨u,rfl,w⟩:=uI r;cases w;obtain⟨L,x,y,M⟩:=I.list n;have f:=R5 x;obtain⟨b,g⟩:=f.allInts.items;have c:ns=b.toList.map (·.1):=by rw[<- f.numsOf,<- lP,<- g]
 have k:=y.isList;rw[g] at k;have d:0<b.size:=by
  rcases Nat.eq_zero_or_pos b.size with z|z
  ·exact absurd (by rw[c,Array.eq_empty_of_size_eq_zero z];rfl) o
  ·exact z
 refine wT I (min_intList (I.ok.hd m) k d λv N A B C O=>?_);obtain⟨t,rfl⟩:=intItems_at B;obtain⟨P,D⟩:=argBest_lt (numAt b) (b.size-1);have E:numAt b (argBest (λi j=>decide (numAt b i<numAt b j)) (b.size-1))=zM ns:=by
  refine zfw ?_ λa l=>?_
  ·rw[c,numAt_eq];exact getD_mem (by rw[ax,az];lia)
  ·rw[c] at l;obtain⟨j,F,rfl⟩:=mem_getD l;rw[ax,az] at F;rw[<- numAt_eq];exact D j 'd'
 rw[E];exact⟨.int _,H,I.kept (t':=A) C,⟨_,rfl⟩,q⟩
def Dv:Ow->List D->R D:=λO xs=>match xs with
 | [x]=>match rJ O x with
  | some ds=>match yd ds with
   |some ns=>if ns≠[] then .ok (.int (zM ns)) O else .bad
   |none=>.bad
  |none=>.bad
 |_=>.bad
def Yp:uH X Ex (λxs H Q=>∃(p:ae)(ns:List Int),xs=[.ref p]/\qz X.K H p (ns.map V.int)/\ns≠[]/\Q (.int (zM ns)) H) Dv:=by
 intro H a j O xs k Q c d q;unfold Dv at q;split at q
 ·rename_i x;obtain⟨v,rfl,b⟩:=uf d;split at q
  ·rename_i l e;obtain⟨p,m,rfl,f,g⟩:=uX c b e;split at q
   ·rename_i ns h;obtain⟨i,q⟩:=post.ite q;refine⟨p,ns,rfl,?_,i,post.here q c sN⟩;rw[<- J3 g h];exact f
   ·exact aj q
  ·exact aj q
 ·exact aj q
noncomputable def Dh(i:Nat)(t:DE):DS:=λσ O=>match σ[i]? with
 | some (KB (.int a))=>(t σ O).bnS λd O1=>match d with
  |.int b=>.nx (σ.set i (KB (.int (a+b)))) O1
  |_=>.bad
 |_=>.bad
def Y7(h:X.N.Nodup)(j:X.N[i]?=KB x)(k:Loc X.env.scope x)(l:PD X Ex e te)(m:X.fn x=KM\/X.env.scope.names.lookup x=KB .local:=by first|exact .inl rfl|exact .inr rfl):
  rK X Ex (.AugAssign (.Name x pos') .Add e pos) (Dh i te):=
 xl (Xb h j k l.out V2 m) λn A B O E o H f s q=>by
  unfold Dh at q;split at q
  ·rename_i a t;obtain⟨v,u,g⟩:=f.at_ i _ t;unfold Y2 at g;subst g;refine⟨.int a,u,rd.goS f s q λd C v w y z x c r p=>?_⟩;cases d with
   | int b=>
    unfold Y2 at r;subst r;exact⟨a,b,rfl,rfl,p (o.set i (KB (.int (a+b)))) w y .refl (z.set sN i) c⟩
   |_=>exact aj p
  ·exact aj q
end
end DL
namespace DL
open PySem L2
open PyProof.Rows (AllBare)
structure oh(P:aN)(w:aY)(K:ai)(mg:Str->Option ab)(base:aX)(x:Str)(k n:Nat)(Pt:ae)(F:List D->Ow->R D):Prop where
 ex:∃f fd ps,mg x=KB (.ref f)/\cZ K (.ref f)=KM/\Binds K fd ps []/\oB P w K mg base w6 k f fd ps (yI K yC n Pt F)
section
variable{P:aN}{w:aY}{K:ai}{mg:Str->Option ab}{base:aX}{k n i:Nat}{x z:Str}{Pt c:ae}{F G:List D->Ow->R D}
def oh.imp(c:oh P w K mg base x k n Pt F)(h:∀ds O H XV μ Q,n6 K H XV μ O->qy qc K H XV μ (G ds O) Q->qy qc K H XV μ (F ds O) Q):oh P w K mg base x k n Pt G:=by obtain⟨f,b,e,g,j,l,m⟩:=c.ex;exact⟨f,b,e,g,j,l,m.imp λr H Q E ⟨o,XV,μ,ds,O,d,a,p,q⟩=>⟨o,XV,μ,ds,O,d,a,p,h ds O H XV μ Q a q⟩⟩
def oh.bad(c:oh P w K mg base x k n Pt F):oh P w K mg base x k n Pt (λ_ _=>.bad):=c.imp λ_ _ _ _ _ _ _ q=>aj q
def oh.self(c:oh P w K mg base x k n Pt F):oh P w K mg base x k n Pt F:=c
def oh.frz(c:oh P w K mg base x k n Pt F):oh P w K mg base x k n Pt (Dd F):=c.imp λd O H a e Q b q=>QQ b.len q
def Ju{f:ae}{name a:Str}{g:iI}{body:List eJ}{scope:c8}{B C l I m ct M:ab}{J T:Option ae}{U:Array (Option ab)}{N u:List Str}{t:DS}
  (V:K.lookup f=KB ⟨M,T,.func (cF name a g body scope B C l I J m ct),U⟩) (W:fh K m a=KM) (S:pV N u scope) (X:N[i]?=KB z) (hz:¬ uE scope z)
  (Y:∀(A:ba)(b:List Env)(s:ag)(H:Hp)(E:XK),om k (A.deeper (fe a scope s.heap.objs.size f m))->sV (C9 P w K mg base N a scope f m A b s H E) qc body t):
  oB P w K mg base w6 (k+1) f (cF name a g body scope B C l I J m ct) u (yI K yC u.length Pt (vQ N.length i Pt t)):=by
 refine pP V W S (λZ H Q E h=>h.1) λA b s H Z Q E hr h=>?_;obtain⟨hl,y,μ,L,O,d,c,ti,j⟩:=h;refine⟨_,(sJ.fake (v:=.bl K7) X hz (Y A b s H E hr).out).nox,y,μ,_,O,(SJ d N).set (d:=.tab Pt) (v:=.bl K7) (by unfold Y2;exact⟨rfl,ti⟩) i,c,?_⟩;unfold vQ at j;generalize t ((L.map KB++aw (N.length-L.length) KF).set i (KB (.tab Pt))) O=r at j;cases r with
 |nx σ O'=>exact λc_ o p x e q=>j .non o p x q GK
 |rt d' O'=>exact λv o p x q r=>j v o p x q r
 |bk σ O'=>exact aj j
 |ct σ O'=>exact aj j
 |exc q O'=>exact λo p x c2=>j o p x c2
 |bad=>exact aj j
def FI(h:qd K mg x st)(S:pV N ps (pJ st))(o:N[i]?=KB z)(hz:¬ uE (pJ st) z)
  (p:∀(g d j:ab)(l:Option ae)(b m:ab)(e:List ab),e.length=ps.length->bindArgs (cF x x (xp st) (uK st) (pJ st) .none g d j l b m) ⟨e,[]⟩=pure (ps.zip e))
  (q:∀(f:ae)(b:ab)(A:ba)(a:List Env)(s:ag)(H:Hp)(E:XK),om k (A.deeper (fe x (pJ st) s.heap.objs.size f b))->sV (C9 P w K mg base N x (pJ st) f b A a s H E) qc (uK st) t):
  oh P w K mg base x (k+1) ps.length Pt (vQ N.length i Pt t):=by obtain⟨f,r,u,F⟩:=h;refine⟨f,r,ps,u,F.kp,F.binds p,?_⟩;obtain⟨C,I,g,d,j,l,b,m,J,rfl,v,y⟩:=F.ex;exact Ju v y S o hz λA a s H E B=>q f b A a s H E B
def Nf(h:xh K mg x st c)(S:pV N ps (pJ st))(o:N[i]?=KB z)(hz:¬ uE (pJ st) z)
  (p:∀(g b j:ab)(l:Option ae)(d m:ab)(e:List ab),e.length=ps.length->bindArgs (cF x x (xp st) (uK st) (pJ st) .none g b j l d m) ⟨e,[]⟩=pure (ps.zip e))
  (q:∀(f:ae)(A:ba)(a:List Env)(s:ag)(H:Hp)(E:XK),om k (A.deeper (fe x (pJ st) s.heap.objs.size f (.ref c)))->sV (C9 P w K mg base N x (pJ st) f (.ref c) A a s H E) qc (uK st) t):
  oh P w K mg base x (k+1) ps.length Pt (vQ N.length i Pt t):=by obtain⟨f,r,u,F,v⟩:=h.ex;refine⟨f,r,ps,u,F.kp,F.binds p,?_⟩;obtain⟨I,J,g,b,j,l,d,m,L,rfl,y,B⟩:=F.ex;cases (show d=.ref c from v);exact Ju y B S o hz λA a s H E C=>q f A a s H E C
def Va(F:L2.Fun K x x st f fd)(S:pV N ps (pJ st))(d:N[i]?=KB z)(hz:¬ uE (pJ st) z)
  (e:∀(b:ab)(A:ba)(a:List Env)(s:ag)(H:Hp)(E:XK),om k (A.deeper (fe x (pJ st) s.heap.objs.size f b))->sV (C9 P w K mg base N x (pJ st) f b A a s H E) qc (uK st) t):
  oB P w K mg base w6 (k+1) f fd ps (yI K yC ps.length Pt (vQ N.length i Pt t)):=by obtain⟨m,o,p,g,q,r,b,u,v,rfl,h,j⟩:=F.ex;exact Ju h j S d hz λA a s H E l=>e b A a s H E l
end
def zX(c:oh X.prog X.w X.K X.mg X.base x k n Pt F)(l:om j X.A)(m:k<=j)(o:Gl X x)(r:tJ X qc (e::es) t)
  (s:(x==("__debug__":Str))=K7:=by decide) (u:aV (e::es) X.env=(K7,eval e X.env)::aV es X.env:=by rfl) (y:(backTo pos (aV es X.env)).any (·.1)=K7:=by rfl):
  PD X qc (.Call (.Name x p) (e::es) [] pos) (qS Pt iT n F t):=by
 obtain⟨f,U,V,z,B,C,G⟩:=c.ex;refine q9 (OZ (dvs:=[]) (ds:=[]) (E:=E0) (G.mono m) l o z B C .nil NC r.out s u y) λa D I O W H Q h J q=>?_;obtain⟨L,q⟩:oz H Pt/\qy qc X.K H a D (j_ n F t I O) Q:=by
  unfold qS at q;split at q
  ·rename_i p M;by_cases b:p=Pt
   ·rw[qb b] at q;obtain⟨v,_,d⟩:=h.at_ iT _ M;unfold Y2 at d;rw[b] at d;exact⟨d.2,q⟩
   ·rw[qq b] at q;exact aj q
  ·exact aj q
 refine uh.go h J q λds N Y Z P e2 R S i g=>?_;obtain⟨T,g⟩:=post.ite g;refine⟨by rw[bC,<- i.length];exact T,a,P,ds,N,?_,S,R.tab _ L,g⟩;rw[bC];exact i
def walkU{l:lX}{q:aN}{loose:List Str}{XP:(Str->Option ab)->aX->Prop}{p:aY->aX->Prop}{d:DefRec}{K:iO->ai}{k:Nat}{x xd:Str}{F:Nat->List D->Ow->R D}{α:Type}{Yf:ag->α}{Ya:aY->α}(J:l.most=KB 63)(L:d.params.defaults=[])(M:om k callerA)
  (N:∀w s,Yf s=Ya w->p w s.heap) (P:∀w h h',p w h->(∀b o,h.get? b=KB o->h'.get? b=KB o)->p w h')
  (Q:∀(w:aY)(h:aX),p w h->(K w.params).In h) (S:((PyProof.Rows.recsOf q).find? (λe=>e.name==xd)).isSome=KM)
  (U:∀(w:aY)(mg:Str->Option ab)(r:ae)(h:aX),(K w.params).In h->h.Ns bI mg->mg d.name=KB (.ref r)->
   jb (K w.params)=KM/\∃(c Pt:ae),jx (K w.params) xd=KB (c,Pt)/\∃t:eD,(∀(s:ag)(u:ab),kM s t ⟨[u],[]⟩ [(x,u)])/\∀base:aX,(K w.params).In base->base.Ns bI mg->uJ mg base c Pt->oB l.prog w (K w.params) mg base w6 k r t [x] (yI (K w.params) yC 1 Pt (F Pt)))
  (j:∀(Pt:Nat)(ns:List Int),ns.length<=63->∃O,F Pt [.lst (ns.map .int)] []=.ok (.bl KM) O):
  PySem.W.WalkX q loose XP (λs=>(Yf s,decide (0<s.toks))) (λw=>(Ya w,KM)) l.row.toRowW d [] (λf vs=>PySem.call f vs):=by
 refine Att.attach_call J L N P λw A V mg mb r o pm cd X a vs ns G Y ho B qK Z BA m i hg qp=>?_;have v:=Q w _ Y;obtain⟨hK,c,Pt,ht,t,hb,hG⟩:=U w mg r _ v G.T.g Z;obtain⟨dd,C⟩:=g8.mp S;have L5:dd.name=xd:=by simpa using List.find?_some C
 subst L5;obtain⟨hC,E⟩:=PySem.W.tab_of G.T v C ht;have hB:V.heap.BuiltinsAt mg Pt:=by
  obtain⟨bm,ob,b1,b2,n,I,b5,y⟩:=G.T.bmain;refine⟨bm,ob,b1,b2,λq=>?_,λq=>?_,n,I,b5,y⟩
  ·obtain⟨o,es,ep,e,B,_⟩:=G.T.g;rw[q,e] at n;cases n;rw[B] at y;cases y
  ·rw[q,E] at n;cases n;cases I
 exact zex v G.T.g G.T.b G.T.builtins G.T.nolimit hg qp BA m (aM i 'u') M hC E hK hB hG hb (λH hT hS=>Xu (j Pt ns i) hT hS) λH e s' z=>z
noncomputable def Dr(k1 k2:List Nat)(t1 t2 ti:DE):DE:=λσ O=>(t1 σ O).bnd λd1 O1=>(t2 σ O1).bnd λd2 O2=>(ti σ O2).bnd λy O3=>match y with
 |.str cs=>if cs=k1 then .ok d1 O3 else if cs=k2 then .ok d2 O3 else .bad
 |_=>.bad
def n6.laidX(f:n6 K H XV μ O)(b:H p=KF):n6 K (upd H p o) (p::XV) μ O:=by
 have d:=f.laid (o:=o) b;refine⟨d.len,d.nd,λa m z=>?_,λa m=>?_,λk a e=>?_⟩
 ·rcases aq.mp z with e|z
  ·obtain⟨k,g,h⟩:=dM.mp m;obtain⟨_,_,_,c,_⟩:=f.at_ k p (by rw[ao g,h,e]);rw[b] at c;cases c
  ·exact d.nh a m z
 ·rcases aq.mp m with e|m
  ·rw[e,qP];simp
  ·exact d.ht a m
 ·obtain⟨i,j,l,c,n⟩:=f.at_ k a e;exact⟨i,j,l,by rw[pI (rm c b)];exact c,n.mv ((Mv.hide b).trans (Ext.laid b).mv)⟩
def XY(a b:List Nat)(h1:s1=⟨a.toArray⟩)(h2:s2=⟨b.toArray⟩)(pZ:a≠b)(D:PD X Ex e1 t1)(Mi:PD X Ex e2 t2)(hi:PD X Ex i ti)(hs:Dg i):
  PD X Ex (.Subscript (.Dict [KB (.Constant (.str s1) j1 p1),KB (.Constant (.str s2) j2 p2)] [e1,e2] dpos) i pos) (Dr a b t1 t2 ti):=
 q9 (QF (Zu (Qn Jp D.out (Qn Jp Mi.out YU)) rfl rfl (List.cons_ne_nil _ _) (gA rfl)) hi.out hs) λXV g e O c_ H Q E F q=>by
  intro p h;have G:Mv H XV g (upd H p (.dK [])) (p::XV) g:=(Mv.hide h).trans (Ext.laid h).mv;have HS:p∉g:=(F.not_in h).2;have Tu:p∉XV:=(F.not_in h).1;have I:Ea p H g (upd H p (.dK [])) g:=(Ext.laid h).ea;have q:qy Ex X.K H XV g ((t1 e O).bnd λn r=>(t2 e r).bnd λl k=>(ti e k).bnd λy f=>match y with
   |.str cs=>if cs=a then .ok n f else if cs=b then .ok l f else .bad
   |_=>.bad) Q:=q
  refine⟨p::XV,g,e,O,E.mv G,F.laidX h,?_⟩;cases J:t1 e O with
  |bad=>rw[J] at q;exact q
  |exc c O'=>rw[J] at q;exact λs t x c=>q s t ((I.trans x.ea).ext h) c.unhide
  | ok n r=>
   rw[J] at q;intro d H1 g_ u T r1;refine⟨p::XV,g_,e,r,(E.mv G).ext u,T,?_⟩;have q:qy Ex X.K H XV g ((t2 e r).bnd λl k=>(ti e k).bnd λy f=>match y with
    |.str cs=>if cs=a then .ok n f else if cs=b then .ok l f else .bad
    |_=>.bad) Q:=q
   cases L:t2 e r with
   |bad=>rw[L] at q;exact q
   |exc c O'=>rw[L] at q;exact λs t x c=>q s t ((I.trans (u.ea.trans x.ea)).ext h) c.unhide
   | ok l k=>
    rw[L] at q;intro j M v w U r2;have zp:H1 p=KB (.dK []):=u.keep p _ qP HS;have N:M p=KB (.dK []):=w.keep p _ zp (λm=>T.nh p m 'k');have hm:Ck [] [(kD (.inr a),d),(kD (.inr b),j)]=[(kD (.inr a),d),(kD (.inr b),j)]:=by
     show vo (vo [] (kD (.inr a)) d) (kD (.inr b)) j=_;rw[Kb d rfl];refine Kb j ?_;show tT [(kD (.inr a),d)] (kD (.inr b))=KF;rw[Ad (p:=(kD (.inr a),d)) (λz=>pZ (gQ (Co z)))];rfl
    refine⟨N,[(kD (.inr a),d),(kD (.inr b),j)],by subst h1 h2;rfl,gA rfl,?_⟩;rw[hm];have A:Ea p M v (upd M p (.dK [(kD (.inr a),d),(kD (.inr b),j)])) v:=.putX (xk N);have P:=((r1.ext w).mv (A.mv (XV:=XV))).mv .unhide;have wy:=(r2.mv (A.mv (XV:=XV))).mv .unhide;have FK:=((((E.mv G).ext u).ext w).mv (A.mv (XV:=XV))).mv .unhide;have c3:=(U.putX (o:=.dK [(kD (.inr a),d),(kD (.inr b),j)]) (xk N)).unhide;have yZ:p∉v:=λm=>U.nh p m 'k';have V:=I.trans (u.ea.trans (w.ea.trans A));refine⟨XV,v,e,k,FK,c3,?_⟩;have q:qy Ex X.K H XV g ((ti e k).bnd λy f=>match y with
     |.str cs=>if cs=a then .ok n f else if cs=b then .ok l f else .bad
     |_=>.bad) Q:=q
    cases R:ti e k with
    |bad=>rw[R] at q;exact q
    |exc c O'=>rw[R] at q;exact λs t x c=>q s t ((V.trans x.ea).ext h) c
    | ok y f=>
     rw[R] at q;intro yv W Y B Z r4;have TQ:=B.keep p _ qP yZ;have eB:=(V.trans B.ea).ext h;cases y with
     | str cs=>
      unfold Y2 at r4;subst r4;have q:qy Ex X.K H XV g (if cs=a then .ok n f else if cs=b then .ok l f else .bad) Q:=q;by_cases C:cs=a
      ·rw[qb C] at q;exact⟨p,_,kD (.inr cs),d,rfl,.inl TQ,rfl,A9 (p:=(kD (.inr a),d)) (by rw[C]),q d W Y eB Z (P.ext B)⟩
      ·rw[qq C] at q;by_cases S:cs=b
       ·rw[qb S] at q;refine⟨p,_,kD (.inr cs),j,rfl,.inl TQ,rfl,?_,q j W Y eB Z (wy.ext B)⟩;rw[Ad (p:=(kD (.inr a),d)) (λz=>C (gQ (Co z)).symm)];exact A9 (p:=(kD (.inr b),j)) (by rw[S])
       ·rw[qq S] at q;exact aj q
     |_=>exact aj q
end DL
namespace DL
open PySem L2 PyProof.Rows
def z9C(u:T = "list" \/ T = "tuple")(v:s.heap.get? p=KB o)(x:o.cls=.type T)(y:o.data=.seq vs.toArray n)(g:e9 vs ss)(k:vs.length<=4000000)
  (h:∀(a h':aX)(d:Array ab)(i:List Str)(c:Nat),(∀b f,s.heap.get? b=KB f->a.get? b=KB f)->(∀b f,a.get? b=KB f->h'.get? b=KB f)->h'.get? a.objs.size=KB { cls:=.type "list",data:=.seq d c }->e9 d.toList i->i.Perm ss->sortedS i=KM->Q (.ref a.objs.size) { s with heap:=h' }):
  am (av prog w) A (call (.builtin "sorted") [.ref p]) Q E s:=by
 refine gY mL ma md (me _) ?_;unfold dH.«sorted»;refine aa (m:=checkCount "sorted" 1 1 _) (ah ?_);have hsz:vs.toArray.size<=qN:=by rw[aH];exact aM k 'u'
 refine aa (wpAny_collect_seq (hsz:=hsz) p u v x y λa z=>?_);refine aa (gN ?_);have B:vs.toArray.toList=vs:=by simp
 rw[B];have j:(a.push (seqObj "list" vs.toArray 0)).get? a.objs.size=KB (seqObj "list" vs.toArray 0):=aC _ rfl;refine aa (bz (bL le (s:={ s with heap:=a.push (seqObj "list" vs.toArray 0) }) ⟨_,j,rfl⟩ ku (TS.list_sort_big lJ j g.keysOf (λN O l e=>keyKind_strs (by rw[<- e];exact g)) k λC D F=>⟨_,rfl,?_⟩) (lf _)));obtain⟨G,H,I,J⟩:=sorted_out_str g D F;refine ah ⟨_,rfl,?_⟩;have K:=bJ (br λ_=>#[]) j rfl;have L:=af (seqObj "list" #[] 0) (af (seqObj "tuple" vs.toArray 0) K);have M:=bJ (br λ_=>(qt C).map (·.2)) L rfl;refine h a _ _ G _ z (λb o r=>?_) M H I J;have t:a.objs.size≠b:=λq=>absurd (aI r) (by rw[<- q];exact bN _);exact(bj _ _ t).trans (af _ (af _ ((bj _ _ t).trans (af _ r))))
section
variable{X:Cx}{Ex:Nat->Hp->Prop}{H:Hp}{XV μ:List ae}
def NN(K:ai):List V->Hp->VK->Prop:=λxs H Q=>∃p ss,xs=[.ref p]/\qT K H p (ss.map λcs=>V.str ⟨cs.toArray⟩)/\ss.Nodup/\ss.length<=1000/\∀l,H l=KF->Q (.ref l) (upd H l (.lst ((p8 ss).map λcs=>V.str ⟨cs.toArray⟩)))
def zeY:on X (.builtin "sorted") (NN X.K):=by
 intro b s v H O P Q I r h;obtain⟨p,a,rfl,w,x,y,q⟩:=h;obtain⟨u,rfl,z⟩:=uI r;cases z;obtain⟨i,j,⟨o,A,B,n,C⟩,R⟩:=I.tuple w;have D:(a.map λd=>V.str ⟨d.toArray⟩)=(a.map toS).map V.str:=by rw[bg];rfl
 have E:e9 i (a.map toS):=KN (by rw[<- D];exact j);have k:i.length=a.length:=by have:=j.length;simpa using this.symm
 refine z9C (.inr rfl) A B C E 'd' λl S f T c F G J L m M=>?_;have e:=YR m x M;subst e;have t:L2.Inv X b v H { s with heap:=l }:=I.kept (t':=s.toks) F;have g:oa ((p8 a).map λd=>V.str ⟨d.toArray⟩) f.toList:=by
  have g:=Kn L;rw[bg] at g;exact g
 have N:(p8 a).length=a.length:=by have:=m.length_eq;simpa using this
 exact⟨.ref l.objs.size,_,t.laid (t':=s.toks) (o:=.lst ((p8 a).map λd=>V.str ⟨d.toArray⟩)) G (aF _) ⟨by rw[ax,N];exact aM y 'u',f.toList,c,g,by rw[J]⟩,rfl,q _ (t.hok.fresh (aF _))⟩
def AO:Ow->List D->R D:=λO xs=>match xs with
 | [.tup ds]=>match ue ds with
  |some ss=>if ss.Nodup/\ss.length<=1000 then .ok (.lst ((p8 ss).map .str)) O else .bad
  |none=>.bad
 |_=>.bad
def Zi:uH X Ex (NN X.K) AO:=by
 intro H XV μ O m n Q c d q;unfold AO at q;split at q
 ·rename_i o;obtain⟨v,rfl,b⟩:=uf d;obtain⟨p,r,rfl,e,f⟩:=AZ b rfl;split at q
  ·rename_i g h;obtain⟨⟨i,j⟩,q⟩:=post.ite q;have k:=JR f h;subst k;exact⟨p,g,rfl,e,i,j,λl a=>post.ok q (.laid a) (c.laid a) (Y2.newL c a (G0 _))⟩
  ·exact aj q
 ·exact aj q
end
noncomputable def IY(out sc:c8)(x:Str):Bool:=(match sc.kind with|.function=>KM|_=>K7) && !sc.isCoroutine && !sc.isGenerator&&decide ((sc.names.map (·.1)).Nodup)&&(sc.names.lookup x==KB .local)&&(sc.names.all λy=>!(y.2 == .cell)&&(!(y.2 == .local)||y.1==x))&&(sc.names.all λy=>!(y.2 == .free)||out.names.lookup y.1==KB .cell||out.names.lookup y.1==KB .free)
def Vr(h:IY out sc x=KM):Nz out sc x:=by
 unfold IY at h;simp only[aW,decide_eq_true_eq,ak] at h;obtain⟨⟨⟨⟨⟨⟨c,f⟩,g⟩,i⟩,j⟩,d⟩,k⟩:=h;refine⟨?_,by simpa using f,by simpa using g,i,λy a=>?_,by simpa using j,λy a b=>?_,λy a b=>?_⟩
 ·cases e:sc.kind<;>rw[e] at c<;>first|rfl|cases c
 ·have:=(d y a).1;simpa using this
 ·have:=(d y a).2;rw[b] at this;simpa using this
 ·have:=k y a;rw[b] at this;simpa using this
def zfX(f:om (k+2) X.A)(g:X.calm=KM)(L:uJ X.mg X.base c Pt)(h:X.env.code=.ref c)(i:IY X.env.scope scope x=KM)(j:defaultsOf params X.env=([],[]))
  (l:∀(name a:Str)(cl:List (Str×ae))(pm d ct u:ab),bindArgs (d9 name a params body scope cl pm d ct) ⟨[u],[]⟩=pure [(x,u)]) (m:(X.N++[x]).Nodup) (n:PD X Ex e te)
  (o:∀(q:Str)(b:ae)(d:ab)(cl:List (Str×ae))(A:ba)(outer:List Env)(s:ag)(H:Hp),om k (A.deeper (wI q scope s.heap.objs.size b d cl))->PD (FQ X.prog X.w X.K X.mg X.base (X.N++[x]) (wI q scope s.heap.objs.size b d cl) A outer s H) qc body tE)
  (p:Gl X "min") (r:X.mg "min" = KF) (t:aV [e] X.env=[(K7,eval e X.env)]:=by rfl):PD X Ex (.Call (.Name "min" pn) [e] [⟨KB (fw "key"),.Lambda params body scope pl,kq⟩] pp) (Cc Pt iT te tE):=
 YV f g L h (Vr i) j l (λz=>(fN.mp m).2.2 x z x 'k' rfl) n o p r t
def Ss{X:Cx}{e:Nat->Hp->Prop}{b d a:aT}{c:List aT}{gs:List bP}{scope:c8}{pos f h:Pos}{y:Str}{i k:Nat}{ext:List Str}{it0:DI}{g:Tg}{ts:List DT}{cs:List Cl}{te:DE}(_:Nx ext)(o:Bool)(j:X.calm=KM)(l:X.N.Nodup)(m:X.N[i]?=KB y)(n:X.env.scope.names.lookup y=KB .local)(p:vf X.env.scope scope (X.N++ext) (pX (⟨it0,g,ts⟩::cs)))(q:sC X e d a it0)(r:Ds X ext scope d g c ts gs cs b te)
  (s:swapsWith (.ListComp b (⟨d,a,c,0⟩::gs) scope pos) (KB (.Name y h)) f.line X.env=pure KM) (t:ext.length=k:=by rfl) (u:∀x,bK a X.env x=pure x:=by intro _;rfl):
  PS X (.Assign [.Name y h] (.ListComp b (⟨d,a,c,0⟩::gs) scope pos) f) (B2 (rd e X.K (qj o k it0 g ts cs te)) (yf i)):=t▸zca o ext j l m n q p r s u
end DL
namespace DLC
section
variable{α:Type}[DecidableEq α]
abbrev Held(α:Type):=List (List Nat×List α)
def keys(h:Held α):List (List Nat):=h.map (·.1)
def hold(h:Held α)(x:α):List (List Nat):=(h.filter λkv=>kv.2.contains x).map (·.1)
noncomputable def at_(h:Held α)(t:List Nat):List α:=((h.find? λkv=>decide (kv.1=t)).map (·.2)).getD []
def drop(h:Held α)(t:List Nat):Held α:=h.filter λkv=>decide (kv.1≠t)
noncomputable def minGo(f:α->Nat):List α->α->α
 |[],b=>b
 |x::xs,b=>if f x<f b then minGo f xs x else minGo f xs b
def left(h:Held α)(w:List α)(t:List Nat):List α:=w.filter λx=>!(at_ h t).contains x
def covL(rec:Held α->List α->List (List (List Nat)))(h:Held α)(w:List α):List (List Nat)->Held α->List (List (List Nat))
 |[],_=>[]
 |t::ts,r=>(rec (drop r t) (left h w t)).map (t :: ·)++covL rec h w ts (drop r t)
def cov:Nat->Held α->List α->List (List (List Nat))
 |_,_,[]=>[[]]
 |0,_,_::_=>[]
 |m+1,h,x::w=>covL (cov m) h (x::w) (hold h (minGo (λy=>(hold h y).length) w x)) h
theorem minGo_mem(f:α->Nat):∀(l:List α)(b:α),minGo f l b=b\/minGo f l b∈l
 |[],b=>.inl rfl
 | x::xs,b=>by
  unfold minGo;split
  ·rcases minGo_mem f xs x with h|h
   ·exact .inr (by rw[h];exact au)
   ·exact .inr (al _ h)
  ·rcases minGo_mem f xs b with h|h
   ·exact .inl h
   ·exact .inr (al _ h)
def Cov(h:Held α)(w:List α)(S:List (List Nat)):Prop:=(∀t∈S,t∈keys h)/\∀x∈w,∃t∈S,x∈at_ h t
def mem_drop{h:Held α}{t:List Nat}{kv:List Nat×List α}:kv∈drop h t↔kv∈h/\kv.1≠t:=by unfold drop;simp
def keys_drop{h:Held α}{t s:List Nat}:s∈keys (drop h t)↔s∈keys h/\s≠t:=by
 unfold keys;simp only[aB,mem_drop];constructor
 ·rintro⟨a,⟨b,c⟩,rfl⟩;exact⟨⟨a,b,rfl⟩,c⟩
 ·rintro⟨⟨a,b,rfl⟩,c⟩;exact⟨a,⟨b,c⟩,rfl⟩
def nd_drop{h:Held α}{t:List Nat}(n:(keys h).Nodup):(keys (drop h t)).Nodup:=by unfold keys drop at *;exact n.sublist ((gU).map _)
def O_{h:Held α}{t s:List Nat}(b:s≠t):at_ (drop h t) s=at_ h s:=by
 unfold at_ drop;congr 2
 induction h with
 |nil=>rfl
 | cons kv r ih=>
  by_cases e:kv.1=t
  ·rw[dJ (by simpa using e),gi (by simpa using λz=>b (z.symm.trans e)),ih]
  ·rw[dL (by simpa using e)];by_cases a:kv.1=s
   ·rw[iw (by simpa using a),iw (by simpa using a)]
   ·rw[gi (by simpa using a),gi (by simpa using a),ih]
def at_mem{h:Held α}(n:(keys h).Nodup){kv:List Nat×List α}(m:kv∈h):at_ h kv.1=kv.2:=by
 unfold at_
 induction h with
 |nil=>cases m
 | cons a r ih=>
  unfold keys at n;rw[bH,bG] at n;rcases aq.mp m with rfl|m
  ·rw[iw 'k'];rfl
  ·have b:a.1≠kv.1:=λz=>n.1 (z▸aB.mpr ⟨kv,m,rfl⟩);rw[gi (by simpa using b)];exact ih n.2 m
def mem_hold{h:Held α}(n:(keys h).Nodup){x:α}{t:List Nat}:t∈hold h x↔t∈keys h/\x∈at_ h t:=by
 unfold hold;simp only[aB,aO,ci];constructor
 ·rintro⟨b,⟨a,c⟩,rfl⟩;exact⟨aB.mpr ⟨b,a,rfl⟩,by rw[at_mem n a];exact c⟩
 ·rintro⟨a,c⟩;obtain⟨b,d,rfl⟩:=aB.mp a;exact⟨b,⟨d,by rw[<- at_mem n d];exact c⟩,rfl⟩
def hold_nd{h:Held α}(n:(keys h).Nodup)(x:α):(hold h x).Nodup:=by unfold keys at n;unfold hold;exact n.sublist ((gU).map _)
def mem_left{h:Held α}{w:List α}{t:List Nat}{x:α}:x∈left h w t↔x∈w/\x∉at_ h t:=by unfold left;simp
theorem cov_sound:∀(m:Nat){h:Held α}{w:List α}{c:List (List Nat)},(keys h).Nodup->c∈cov m h w->c.length<=m/\c.Nodup/\Cov h w c
 | m,h,[],c,n,hc=>by
  have:c=[]:=by unfold cov at hc;simpa using hc
  subst this;exact⟨cn _,ie,⟨λ_ z=>(aZ z).elim,λ_ z=>(aZ z).elim⟩⟩
 |0,h,x::w,c,n,hc=>by unfold cov at hc;cases hc
 | m+1,h,x::w,c,n,hc=>by
  unfold cov at hc;have v:∀(b:List (List Nat))(r:Held α),(∀t∈b,t∈keys h)->(∀a∈r,a∈h)->(keys r).Nodup->c∈covL (cov m) h (x::w) b r->c.length<=m+1/\c.Nodup/\Cov h (x::w) c:=by
   intro b
   induction b with
   |nil=>intro r _ _ _ hc;cases hc
   | cons t b ih=>
    intro r g j k hc;unfold covL at hc;rcases aP.mp hc with hc|hc
    ·obtain⟨p,A,rfl⟩:=aB.mp hc;obtain⟨B,C,q,D⟩:=cov_sound m (nd_drop k) A;have d:∀s∈p,s∈keys h/\s≠t:=λs hs=>by
      obtain⟨l,o⟩:=keys_drop.mp (q s hs);obtain⟨a,i,rfl⟩:=aB.mp l;exact⟨aB.mpr ⟨a,j a i,rfl⟩,o⟩
     have f:∀s∈p,at_ (drop r t) s=at_ h s:=λs hs=>by
      obtain⟨l,o⟩:=keys_drop.mp (q s hs);rw[O_ o];obtain⟨a,i,rfl⟩:=aB.mp l;rw[at_mem k i,at_mem n (j a i)]
     refine⟨by simpa using B,bG.mpr ⟨λz=>(d t z).2 rfl,C⟩,λs hs=>?_,λy E=>?_⟩
     ·rcases aq.mp hs with rfl|hs
      ·exact g s au
      ·exact(d s hs).1
     ·by_cases e:y∈at_ h t
      ·exact⟨t,au,e⟩
      ·obtain⟨s,u,F⟩:=D y (mem_left.mpr ⟨E,e⟩);exact⟨s,al _ u,by rw[<- f s u];exact F⟩
    ·exact ih (drop r t) (λs hs=>g s (al _ hs)) (λa G=>j a (mem_drop.mp G).1) (nd_drop k) hc
  exact v _ h (λt g=>(mem_hold n).mp g |>.1) (λ_ h=>h) n hc
def cov_some:∀(m:Nat){h:Held α}{w:List α}{S:List (List Nat)},(keys h).Nodup->Cov h w S->S.length<=m->∃c∈cov m h w,∀t∈c,t∈S
 |m,h,[],S,n,hS,hl=>⟨[],by unfold cov;simp,λ_ z=>(aZ z).elim⟩
 | 0,h,x::w,S,n,hS,hl=>by
  obtain⟨t,a,_⟩:=hS.2 x au;have:S=[]:=dI.mp 'd';subst this;cases a
 | m+1,h,x::w,S,n,hS,hl=>by
  unfold cov;generalize u:minGo (λy=>(hold h y).length) w x=y;have H:y∈x::w:=by
   rcases minGo_mem (λy=>(hold h y).length) w x with e|e
   ·rw[<- u,e];exact au
   ·rw[<- u];exact al _ e
  obtain⟨s,v,I⟩:=hS.2 y H;have hs:s∈hold h y:=(mem_hold n).mpr ⟨hS.1 s v,I⟩;have J:∀(b:List (List Nat))(r:Held α),(∃t∈b,t∈S)->(∀d∈r,d∈h)->(keys r).Nodup->(∀t∈S,t∈keys r)->b.Nodup->∃c∈covL (cov m) h (x::w) b r,∀t∈c,t∈S:=by
   intro b
   induction b with
   |nil=>rintro r ⟨_,h,_⟩;cases h
   | cons t b ih=>
    intro r g A i f K;unfold covL;by_cases a:t∈S
    ·have L:Cov (drop r t) (left h (x::w) t) (S.filter λs=>decide (s≠t)):=by
      refine⟨λs hs=>?_,λz M=>?_⟩
      ·obtain⟨j,k⟩:=aO.mp hs;exact keys_drop.mpr ⟨f s j,by simpa using k⟩
      ·obtain⟨j,k⟩:=mem_left.mp M;obtain⟨l,B,C⟩:=hS.2 z j;have D:l≠t:=λe=>k (e▸C);refine⟨l,aO.mpr ⟨B,by simpa using D⟩,?_⟩;rw[O_ D];obtain⟨d,E,rfl⟩:=aB.mp (f l B);rw[at_mem i E,<- at_mem n (A d E)];exact C
     have N:(S.filter λs=>decide (s≠t)).length<S.length:=by
      rcases Nat.lt_or_ge (S.filter λs=>decide (s≠t)).length S.length with z|z
      ·exact z
      ·have e:(S.filter λs=>decide (s≠t))=S:=gU.eq_of_length (Nat.le_antisymm (bu _ _) z);rw[<- e] at a;have:=(aO.mp a).2;simp at this
     obtain⟨c,o,p⟩:=cov_some m (nd_drop i) L 'd';refine⟨t::c,bV _ (aB.mpr ⟨c,o,rfl⟩),λs hs=>?_⟩;rcases aq.mp hs with rfl|hs
     ·exact a
     ·exact(aO.mp (p s hs)).1
    ·obtain⟨F,q,G⟩:=g;have q:F∈b:=(aq.mp q).resolve_left (λe=>a (e▸G));obtain⟨c,o,p⟩:=ih (drop r t) ⟨F,q,G⟩ (λd f=>A d (mem_drop.mp f).1) (nd_drop i) (λs hs=>keys_drop.mpr ⟨f s hs,λe=>a (e▸hs)⟩) (bG.mp K).2;exact⟨c,ay _ o,p⟩
  exact J _ h ⟨s,hs,v⟩ (λ_ h=>h) n hS.1 (hold_nd n y)
def hold_drop(h:Held α)(t:List Nat)(x:α):(hold (drop h t) x).length<=(hold h x).length:=by unfold hold drop;rw[ax,ax];exact((gU).filter _).length_le
theorem cov_few{B:Nat}(b:1<=B):∀(m:Nat){h:Held α}{w:List α},(∀x∈w,(hold h x).length<=B)->(cov m h w).length<=B ^ m
 |m,h,[],_=>by unfold cov;exact Nat.one_le_pow _ _ b
 |0,h,x::w,_=>by unfold cov;exact cn _
 | m+1,h,x::w,hh=>by
  unfold cov;generalize c:minGo (λy=>(hold h y).length) w x=y;have f:y∈x::w:=by
   rcases minGo_mem (λy=>(hold h y).length) w x with e|e
   ·rw[<- c,e];exact au
   ·rw[<- c];exact al _ e
  have g:∀(a:List (List Nat))(r:Held α),(∀x,(hold r x).length<=(hold h x).length)->(covL (cov m) h (x::w) a r).length<=a.length*B ^ m:=by
   intro a
   induction a with
   |nil=>intro r _;exact cn _
   | cons t a ih=>
    intro r i;have d:∀x,(hold (drop r t) x).length<=(hold h x).length:=λx=>aM (hold_drop r t x) (i x);unfold covL;rw[aE,ax,aS,mM,Nat.one_mul,l5];exact Nat.add_le_add (ih _ d) (cov_few b m λz j=>aM (d z) (hh z (mem_left.mp j).1))
  rw[Nat.pow_succ,Nat.mul_comm];exact aM (g _ h λ_=>aF _) (lB _ (hh y f))
end
end DLC
namespace DL
open PySem L2
def F9:List Str->Bool
 |[]=>KM
 |x::l=>!(l.contains x)&&F9 l
theorem vD:∀{l:List Str},F9 l=KM->l.Nodup
 |[],_=>ie
 | x::l,h=>by
  unfold F9 at h;rw[aW,im] at h;refine bG.mpr ⟨λm=>?_,vD h.2⟩;rw[ci.mpr m] at h;exact Bool.noConfusion h.1
noncomputable def IP:Option dr->Bool
 |some .local=>KM
 |some .cell=>KM
 |_=>K7
def Y5(h:IP o=KM):o=KB .local\/o=KB .cell:=by
 unfold IP at h;split at h
 ·exact .inl rfl
 ·exact .inr rfl
 ·cases h
def kNf:dr->Bool
 |.free=>K7
 |_=>KM
def Us(N P:List Str)(sc:c8):Bool:=F9 N&&(N.take P.length==P)&&P.all (λx=>IP (sc.names.lookup x))&&sc.names.all (λy=>kNf y.2)
def fnS(f:sc.kind=.function)(g:sc.isCoroutine=K7)(i:sc.isGenerator=K7)(h:Us N P sc=KM):pV N P sc:=by unfold Us at h;simp only[aW] at h;obtain⟨⟨⟨a,b⟩,c⟩,d⟩:=h;refine⟨f,g,i,vD a,eq_of_beq b,λx j=>Y5 (ak.mp c x j),λy k e=>?_⟩;have:=ak.mp d y k;rw[e] at this;cases this
end DL
namespace DL
def rW{α a d:Type}{x:Option α}{f:α->a}{g:α->d}{b:a}{c:d}(e:x.map f=KB b)(h:x.map g=KB c):x.map (λs=>(f s,g s))=KB (b,c):=by
 cases x with
 |none=>cases e
 | some s=>
  have i:f s=b:=bZ e;have j:g s=c:=bZ h;show KB (f s,g s)=_;rw[i,j]
end DL
namespace DL
open PySem
noncomputable def pl:Nat->D->Bool
 |n,.non=>KM
 |n,.int _=>KM
 |n,.str cs=>cs.all (· < 1114112)
 |n+1,.lst ds=>ds.all (pl n)
 |n+1,.tup ds=>ds.all (pl n)
 |_,_=>K7
theorem GX{α a:Type}{f:α->Option a}:∀{l:List α},(∀x∈l,∃y,f x=KB y)->∃m,pR f l=KB m
 |[],_=>⟨[],rfl⟩
 | x::l,h=>by
  obtain⟨y,b⟩:=h x au;obtain⟨m,c⟩:=GX (l:=l) λz d=>h z (al _ d);exact⟨y::m,by unfold pR;rw[b,c]⟩
def GH(O:Ow):∀(n:Nat)(d:D),pl n d=KM->∃p,qu O n d=KB p:=by
 intro n
 induction n with
 | zero=>
  intro d h;cases d with
  |non=>exact⟨_,rfl⟩
  |int i=>exact⟨_,rfl⟩
  | str cs=>
   refine⟨.str ⟨cs.toArray⟩,?_⟩;show wH cs=_;unfold wH;rw[qb (by simpa [pl] using h)]
  |_=>simp[pl] at h
 | succ n ih=>
  intro d h;cases d with
  |non=>exact⟨_,rfl⟩
  |int i=>exact⟨_,rfl⟩
  | str cs=>
   refine⟨.str ⟨cs.toArray⟩,?_⟩;show wH cs=_;unfold wH;rw[qb (by simpa [pl] using h)]
  | lst ds=>
   have h:ds.all (pl n)=KM:=h;obtain⟨m,a⟩:=GX (f:=qu O n) (l:=ds) λx b=>ih x (ak.mp h x b);exact⟨.list m,by show(pR (qu O n) ds).map fq=_;rw[a];rfl⟩
  | tup ds=>
   have h:ds.all (pl n)=KM:=h;obtain⟨m,a⟩:=GX (f:=qu O n) (l:=ds) λx b=>ih x (ak.mp h x b);exact⟨.tuple m,by show(pR (qu O n) ds).map hJ=_;rw[a];rfl⟩
  |_=>simp[pl] at h
theorem Si{f:D->Option ef}(R:∀x y p q,f x=KB p->f y=KB q->pl 0 x=pl 0 x->True){P:D->Prop}(e:∀x y p q,P x->P y->f x=KB p->f y=KB q->(be p q=KM↔x=y)):
  ∀(xs a:List D)(b c:List ef),(∀x∈xs,P x)->(∀y∈a,P y)->pR f xs=KB b->pR f a=KB c->(fL b c=KM↔xs=a)
 |[],[],b,c,_,_,e1,e2=>by cases e1;cases e2;simp[fL]
 | [],y::a,b,c,_,_,e1,e2=>by
  cases e1;unfold pR at e2;split at e2
  ·cases e2;simp[fL]
  ·cases e2
 | x::xs,[],b,c,_,_,e1,e2=>by
  cases e2;unfold pR at e1;split at e1
  ·cases e1;simp[fL]
  ·cases e1
 | x::xs,y::a,b,c,h1,h2,e1,e2=>by
  unfold pR at e1 e2;split at e1
  ·rename_i p g i j;cases e1;split at e2
   ·rename_i q h k l;cases e2;have m:=e x y p q (h1 x au) (h2 y au) i k;have n:=Si R e xs a g h (λz d=>h1 z (al _ d)) (λz d=>h2 z (al _ d)) j l;show(be p q&&fL g h)=KM↔_;rw[aW,m,n,List.cons.injEq]
   ·cases e2
  ·cases e1
def yo(h:wH cs=KB p):p=.str ⟨cs.toArray⟩:=by
 unfold wH at h;split at h
 ·cases h;rfl
 ·cases h
def Po(a b:List Nat):be (.str ⟨a.toArray⟩) (.str ⟨b.toArray⟩)=KM↔D.str a=D.str b:=by
 show((⟨a.toArray⟩:Str)==⟨b.toArray⟩)=KM↔_;rw[beq_iff_eq];constructor
 ·intro h;have h:a.toArray=b.toArray:=by injection h
  rw[show a=b by simpa using congrArg lU h]
 ·intro h;injection h with h;rw[h]
def N7(O:Ow):∀(n:Nat)(x y:D)(p q:ef),pl n x=KM->pl n y=KM->qu O n x=KB p->qu O n y=KB q->(be p q=KM↔x=y):=by
 intro n
 induction n with
 | zero=>
  intro x y p q v l m f;cases x with
  | non=>cases m;cases y with
   |non=>cases f;simp[be]
   |int j=>cases f;simp[be]
   |str b=>have:=yo f;subst this;simp[be]
   |_=>simp[pl] at l
  | int i=>cases m;cases y with
   |non=>cases f;simp[be]
   |int j=>cases f;simp[be]
   |str b=>have:=yo f;subst this;simp[be]
   |_=>simp[pl] at l
  | str a=>have:=yo m;subst this;cases y with
   |non=>cases f;simp[be]
   |int j=>cases f;simp[be]
   |str b=>have:=yo f;subst this;exact Po a b
   |_=>simp[pl] at l
  |_=>simp[pl] at v
 | succ n ih=>
  have w:∀s k g r,(s.all (pl n))=KM->(k.all (pl n))=KM->pR (qu O n) s=KB g->pR (qu O n) k=KB r->(fL g r=KM↔s=k):=λs k g r z A m f=>
   Si (λ_ _ _ _ _ _ _=>trivial) (P:=λd=>pl n d=KM) (λx y p q a b c d=>ih x y p q a b c d) s k g r (ak.mp z) (ak.mp A) m f
  have t:∀{o:List D}{p},qu O (n+1) (.lst o)=KB p->∃g,pR (qu O n) o=KB g/\p=.list g:=λ{o p}e=>by
   have e:(pR (qu O n) o).map fq=KB p:=e;cases h:pR (qu O n) o with
   |none=>rw[h] at e;cases e
   |some g=>rw[h] at e;cases e;exact⟨g,rfl,rfl⟩
  have u:∀{o:List D}{p},qu O (n+1) (.tup o)=KB p->∃g,pR (qu O n) o=KB g/\p=.tuple g:=λ{o p}e=>by
   have e:(pR (qu O n) o).map hJ=KB p:=e;cases h:pR (qu O n) o with
   |none=>rw[h] at e;cases e
   |some g=>rw[h] at e;cases e;exact⟨g,rfl,rfl⟩
  intro x y p q v l m f;cases x with
  | non=>cases m;cases y with
   |non=>cases f;simp[be]
   |int j=>cases f;simp[be]
   |str b=>have:=yo f;subst this;simp[be]
   |lst k=>obtain⟨_,_,rfl⟩:=t f;simp[be]
   |tup k=>obtain⟨_,_,rfl⟩:=u f;simp[be]
   |_=>simp[pl] at l
  | int i=>cases m;cases y with
   |non=>cases f;simp[be]
   |int j=>cases f;simp[be]
   |str b=>have:=yo f;subst this;simp[be]
   |lst k=>obtain⟨_,_,rfl⟩:=t f;simp[be]
   |tup k=>obtain⟨_,_,rfl⟩:=u f;simp[be]
   |_=>simp[pl] at l
  | str a=>have:=yo m;subst this;cases y with
   |non=>cases f;simp[be]
   |int j=>cases f;simp[be]
   |str b=>have:=yo f;subst this;exact Po a b
   |lst k=>obtain⟨_,_,rfl⟩:=t f;simp[be]
   |tup k=>obtain⟨_,_,rfl⟩:=u f;simp[be]
   |_=>simp[pl] at l
  | lst s=>obtain⟨g,z,rfl⟩:=t m;cases y with
   |non=>cases f;simp[be]
   |int j=>cases f;simp[be]
   |str b=>have:=yo f;subst this;simp[be]
   | lst k=>
    obtain⟨r,A,rfl⟩:=t f;show fL g r=KM↔_;rw[w s k g r v l z A,D.lst.injEq]
   |tup k=>obtain⟨_,_,rfl⟩:=u f;simp[be]
   |_=>simp[pl] at l
  | tup s=>obtain⟨g,z,rfl⟩:=u m;cases y with
   |non=>cases f;simp[be]
   |int j=>cases f;simp[be]
   |str b=>have:=yo f;subst this;simp[be]
   |lst k=>obtain⟨_,_,rfl⟩:=t f;simp[be]
   | tup k=>
    obtain⟨r,A,rfl⟩:=u f;show fL g r=KM↔_;rw[w s k g r v l z A,D.tup.injEq]
   |_=>simp[pl] at l
  |_=>simp[pl] at v
def Jb(O:Ow)(a:pl 8 x=KM)(c:pl 8 y=KM)(f:b=KM↔x=y):pC rq O x y=.ok (.bl b) O/\pC pT O x y=.ok (.bl !b) O:=by obtain⟨p,d⟩:=GH O 8 x a;obtain⟨q,e⟩:=GH O 8 y c;have h:=N7 O 8 x y p q a c d e;have:be p q=b:=eO.mpr (h.trans f.symm);unfold pC py;rw[d,e];subst this;exact⟨rfl,rfl⟩
theorem Qo(b:pl n x=KM)(c:qu O n x=KB p):∀(l:List D)(a:List ef),(l.all (pl n))=KM->pR (qu O n) l=KB a->((a.any λy=>be y p)=KM↔x∈l)
 |[],a,_,e=>by cases e;simp
 | y::l,a,h,e=>by
  unfold pR at e;split at e
  ·rename_i q d f g;cases e;rw[iz,aW] at h;rw[gL,cz,N7 O n y x q p h.1 b f c,Qo b c l d h.2 g,aq];exact⟨λz=>z.imp Eq.symm id,λz=>z.imp Eq.symm id⟩
  ·cases e
def zfI(O:Ow):∀(n:Nat)(d:D)(p:ef),pl n d=KM->qu O n d=KB p->qu O (n+1) d=KB p:=by
 intro n
 induction n with
 |zero=>intro d p h e;cases d<;>first|exact e|(simp[pl] at h)
 | succ n ih=>
  have f:∀(a:List D)b,(a.all (pl n))=KM->pR (qu O n) a=KB b->pR (qu O (n+1)) a=KB b:=by
   intro a
   induction a with
   |nil=>intro b _ e;exact e
   | cons x a ihd=>
    intro b h e;rw[iz,aW] at h;unfold pR at e ⊢;split at e
    ·rename_i q g j k;rw[ih x q h.1 j,ihd g h.2 k];exact e
    ·cases e
  intro d p h e;cases d with
  | lst a=>
   have e:(pR (qu O n) a).map fq=KB p:=e;show(pR (qu O (n+1)) a).map fq=KB p;cases c:pR (qu O n) a with
   |none=>rw[c] at e;cases e
   |some b=>rw[c] at e;rw[f a b h c];exact e
  | tup a=>
   have e:(pR (qu O n) a).map hJ=KB p:=e;show(pR (qu O (n+1)) a).map hJ=KB p;cases c:pR (qu O n) a with
   |none=>rw[c] at e;cases e
   |some b=>rw[c] at e;rw[f a b h c];exact e
  |non=>exact e
  |int i=>exact e
  |str cs=>exact e
  |_=>simp[pl] at h
def Gi(O:Ow){x y:D}{l:List D}(n:pl 7 x=KM)(o:l.all (pl 7)=KM)(a:rJ O y=KB l\/y=.tup l){b:Bool}(r:b=KM↔x∈l):w4 O x y=.ok (.bl b) O/\vP O x y=.ok (.bl !b) O:=by
 obtain⟨p,q⟩:=GH O 7 x n;obtain⟨d,g⟩:=GX (f:=qu O 7) (l:=l) λz s=>GH O 7 z (ak.mp o z s);have h:=Qo n q l d o g;have e:(d.any λz=>be z p)=b:=eO.mpr (h.trans r.symm);have i:py O x=KB p:=zfI O 7 x p n q;rcases a with a|rfl
 ·have c:py O y=KB (.list d):=by
   cases y with
   |lst ds=>cases a;show(pR (qu O 7) l).map fq=_;rw[g];rfl
   | own k=>
    have a:O[k]?=KB l:=a;show(match O[k]? with|some ds=>(pR (qu O 7) ds).map fq|none=>KF)=_;rw[a];dsimp only;rw[g];rfl
   |_=>cases a
  have j:pC Av O x y=.ok (.bl b) O:=by unfold pC;rw[i,c];subst e;rfl
  have m:pC B7 O x y=.ok (.bl !b) O:=by unfold pC;rw[i,c];subst e;rfl
  cases y with
  |lst ds=>exact⟨j,m⟩
  |own k=>exact⟨j,m⟩
  |_=>cases a
 ·have c:py O (.tup l)=KB (.tuple d):=by show(pR (qu O 7) l).map hJ=_;rw[g];rfl
  have j:pC Av O x (.tup l)=.ok (.bl b) O:=by unfold pC;rw[i,c];subst e;rfl
  have m:pC B7 O x (.tup l)=.ok (.bl !b) O:=by unfold pC;rw[i,c];subst e;rfl
  exact⟨j,m⟩
def PB(c:t σ O=.ok (.bl a) O)(d:a=KM->u σ O=.ok (.bl b) O):w9 t u σ O=.ok (.bl (a&&b)) O:=by
 show((t σ O).bnd _)=_;rw[c];cases a with
 |true=>exact d rfl
 |false=>rfl
def Oe(O:Ow)(a:x.all (pl 7)=KM)(c:y.all (pl 7)=KM)(d:b=KM↔x=y):pC rq O (.lst x) (.lst y)=.ok (.bl b) O/\pC pT O (.lst x) (.lst y)=.ok (.bl !b) O:=
 Jb O (x:=.lst x) (y:=.lst y) a c (d.trans (by rw[D.lst.injEq]))
def P_(n:Nat)(l:List Nat):(l.map λ(p:Nat)=>D.int (p:Int)).all (pl n)=KM:=ak.mpr λd a=>by
 obtain⟨p,_,rfl⟩:=aB.mp a;cases n<;>rfl
section
variable{σ:Sg}{O O1 O2:Ow}{t u:DE}{d a:DS}{x y:D}{r:RS}{i:Nat}{c:DT}{tA:DA}{ds:List D}
def tx(h:t σ O=.ok x O1)(b:d (σ.set i (KB x)) O1=r):n_ (pY i t) d σ O=r:=by rw[sE (A4 h)];exact b
def A0(h:a σ O=.nx σ' O1)(b:d σ' O1=r):n_ a d σ O=r:=by rw[sE h];exact b
def GL(h:t σ O=.ok x O1)(b:d σ O1=r):n_ (rG t) d σ O=r:=by rw[sE (Cy h)];exact b
def vw(h:c σ O=.ok K7 O1)(b:d σ O1=r):n_ (pS c a' pU) d σ O=r:=by rw[sE (σ':=σ) (O1:=O1) (by rw[tZ h];rfl)];exact b
def Dy(h:c σ O=.ok KM O1)(b:a' σ O1=.rt x O2):n_ (pS c a' e) d σ O=.rt x O2:=A3 (by rw[tZ h,qb rfl];exact b)
def vB(h:d σ O=.rt x O1):fin (d σ O)=.ok x O1:=by rw[h];rfl
def vZ(h:t σ O=.ok x O1):fin (l_ t σ O)=.ok x O1:=by rw[rL h];rfl
def qL(b:t σ O=.ok x O1)(e:u σ O1=.ok y O2)(g:f O2 x y=z):f_ f t u σ O=z:=by rw[qG b e];exact g
def tF(b:tA σ O=.ok ds O1)(e:f O1 ds=z):pB f tA σ O=z:=by rw[uL b];exact e
def pP(b:tA σ O=.ok ds O1)(e:F ds O1=z)(f:ds.length=n:=by rfl):j_ n F tA σ O=z:=by rw[uw b f];exact e
end
end DL
set_option maxHeartbeats 400000
namespace K54
open PySem L2 DL
def top(i:Nat):eJ:=PySem.Challenge.pw_leastterms_k54_whole_sums_and_products.main.body.getD i (.Pass ⟨0,0,0,0⟩)
def HC:List (Int×Int):=[(1,2),(2,4),(3,8),(4,16)]
def v9:List (Int×Int):=[(2,1),(4,2),(8,3),(16,4)]
structure Txt(K:ai)(mg:Str->Option ab):Prop where
 d_is_whole:qd K mg "is_whole" (top 7)
 d_is_whole_within:qd K mg "is_whole_within" (top 8)
 d_need_whole_within:qd K mg "need_whole_within" (top 9)
 d_need_switches:qd K mg "need_switches" (top 10)
 d_is_rising:qd K mg "is_rising" (top 11)
 d_is_answer:qd K mg "is_answer" (top 15)
 d_is_function:qd K mg "is_function" (top 16)
 d_need_function:qd K mg "need_function" (top 17)
 d_switches_of:qd K mg "switches_of" (top 18)
 d_points_with:qd K mg "points_with" (top 19)
 d_has_term_signs:qd K mg "has_term_signs" (top 22)
 d_has_rising_terms:qd K mg "has_rising_terms" (top 23)
 d_all_terms:qd K mg "all_terms" (top 24)
 d_bits_of:qd K mg "bits_of" (top 25)
 d_points_of:qd K mg "points_of" (top 26)
 d_lies_in:qd K mg "lies_in" (top 27)
 d_meet:qd K mg "meet" (top 28)
 d_with_sign:qd K mg "with_sign" (top 29)
 d_exchanged:qd K mg "exchanged" (top 30)
 d_signs_in:qd K mg "signs_in" (top 31)
 d_terms_holding:qd K mg "terms_holding" (top 32)
 d_holds_no_nought:qd K mg "holds_no_nought" (top 34)
 d_holds_a_one:qd K mg "holds_a_one" (top 35)
 d_good_terms:qd K mg "good_terms" (top 36)
 d_can_widen_at:qd K mg "can_widen_at" (top 37)
 d_is_widest:qd K mg "is_widest" (top 38)
 d_greatest:qd K mg "greatest" (top 39)
 d_is_form:qd K mg "is_form" (top 41)
 d_signs_of:qd K mg "signs_of" (top 42)
 d_holders_in:qd K mg "holders_in" (top 43)
 d_covers:qd K mg "covers" (top 44)
 d_least_covers:qd K mg "least_covers" (top 45)
 d_held_points:qd K mg "held_points" (top 46)
 d_least_forms:qd K mg "least_forms" (top 47)
 d_least_form:qd K mg "least_form" (top 48)
 d_opposite_answer:qd K mg "opposite_answer" (top 50)
 d_opposite:qd K mg "opposite" (top 51)
 d_is_product:qd K mg "is_product" (top 52)
 d_least_product:qd K mg "least_product" (top 53)
 d_length_of:qd K mg "length_of" (top 54)
 d_shorter_side:qd K mg "shorter_side" (top 55)
 d_need_rising_terms:qd K mg "need_rising_terms" (top 56)
 d_function_of_sum:qd K mg "function_of_sum" (top 57)
 d_function_of_product:qd K mg "function_of_product" (top 58)
 d_picks_of:qd K mg "picks_of" (top 59)
 d_widest_of:qd K mg "widest_of" (top 60)
 d_multiplied:qd K mg "multiplied" (top 61)
 d__law_cell_at:qd K mg "_law_cell_at" (top 63)
 d__law_state:qd K mg "_law_state" (top 64)
 d__law_take:qd K mg "_law_take" (top 65)
 d__law_function:qd K mg "_law_function" (top 66)
 d__law_agrees:qd K mg "_law_agrees" (top 67)
 d_law:qd K mg "law" (top 68)
 b_all:mg "all" = KF
 b_any:mg "any" = KF
 b_bool:mg "bool" = KF
 b_dict:mg "dict" = KF
 b_enumerate:mg "enumerate" = KF
 b_int:mg "int" = KF
 b_isinstance:mg "isinstance" = KF
 b_len:mg "len" = KF
 b_max:mg "max" = KF
 b_min:mg "min" = KF
 b_range:mg "range" = KF
 b_sorted:mg "sorted" = KF
 b_str:mg "str" = KF
 b_sum:mg "sum" = KF
 b_tuple:mg "tuple" = KF
 b_zip:mg "zip" = KF
 c_SIGNS:IS mg "SIGNS" [45,48,49]
 z00:zL K mg "POINTS_BY_SWITCHES" HC
 z01:zL K mg "SWITCHES_BY_POINTS" v9
 i_MOST_SWITCHES:IU mg "MOST_SWITCHES" 4
section
variable{P:aN}{w:aY}{K:ai}{mg:Str->Option ab}{base:aX}
set_option hygiene false
local macro_rules|`(tactic| exists $t)=>`(tactic| with_reducible show PD _ _ _ $t)
local macro_rules|`(tactic| walk_at "u")=>`(tactic| first|exact λ_ _ _ _ _ _ us hl=>(match us,hl with|[_],_=>rfl)|exact λ_ _ _ _ _ _ us hl=>(match us,hl with|[_,_],_=>rfl)|exact λ_ _ _ _ _ _ us hl=>(match us,hl with|[_,_,_],_=>rfl)|exact λ_ _ _ _ _ _ us hl=>(match us,hl with|[],_=>rfl))
local macro_rules|`(tactic| walk_at "z")=>`(tactic| exact fnS rfl rfl rfl (by kernel_rfl))
local macro_rules|`(tactic| walk_at "v")=>`(tactic| first|exact .inl rfl|exact .inr (.inl rfl)|exact .inr (.inr rfl))
local macro_rules|`(tactic| walk_at "l")=>`(tactic| first|exact .inl rfl|exact .inr rfl)
local macro_rules|`(tactic| walk_at "le")=>`(tactic| first|decide|exact aF _|lia)
local macro_rules|`(tactic| walk_at "fx")=>`(tactic| first|refine VT h hr '9' rfl ?_<;>walk_at "a")
local macro_rules|`(tactic| walk_at "f")=>`(tactic| first|((exists (j_ _ KP _));have h:=@zaJ P w K mg base T;walk_at "fx")|((exists (j_ _ Ed _));have h:=@z8r P w K mg base T;walk_at "fx")|((exists (j_ _ CJ _));have h:=@z6k P w K mg base T;walk_at "fx")|((exists (j_ _ CI _));have h:=@z6A P w K mg base T;walk_at "fx")|((exists (j_ _ Al _));have h:=@z4I P w K mg base T;walk_at "fx")|((exists (j_ _ yS _));have h:=@z9g P w K mg base T;walk_at "fx")|((exists (j_ _ KC _));have h:=@zcl P w K mg base T;walk_at "fx")|((exists (j_ _ GY _));have h:=@zc5 P w K mg base T;walk_at "fx")|((exists (j_ _ DJ _));have h:=@Yk P w K mg base T;walk_at "fx")|((exists (j_ _ Aj _));have h:=@z8U P w K mg base T;walk_at "fx")|((exists (j_ _ Hq _));have h:=@z8l P w K mg base T;walk_at "fx")|((exists (j_ _ CF _));have h:=@z9P P w K mg base T;walk_at "fx")|((exists (j_ _ yU _));have h:=@z82 P w K mg base T;walk_at "fx")|((exists (j_ _ Hw _));have h:=@z42 P w K mg base T;walk_at "fx")|((exists (j_ _ Eo _));have h:=@z5D P w K mg base T;walk_at "fx")|((exists (j_ _ ux _));have h:=@z9t P w K mg base T;walk_at "fx")|((exists (j_ _ Bc _));have h:=@z6r P w K mg base T;walk_at "fx")|((exists (j_ _ Hx _));have h:=@z4m P w K mg base T;walk_at "fx")|((exists (j_ _ Am _));have h:=@z3T P w K mg base T;walk_at "fx")|((exists (j_ _ xw _));have h:=@z8T P w K mg base T;walk_at "fx")|((exists (j_ _ tD _));have h:=@zaz P w K mg base T;walk_at "fx")|((exists (j_ _ Ei _));have h:=@zar P w K mg base T;walk_at "fx")|((exists (j_ _ Eg _));have h:=@z9d P w K mg base T;walk_at "fx")|((exists (j_ _ Ep _));have h:=@z7A P w K mg base T;walk_at "fx")|((exists (j_ _ CN _));have h:=@z59 P w K mg base T;walk_at "fx")|((exists (j_ _ K1 _));have h:=@z3I P w K mg base T;walk_at "fx")|((exists (j_ _ Ee _));have h:=@z95 P w K mg base T;walk_at "fx")|((exists (j_ _ CO _));have h:=@z4Z P w K mg base T;walk_at "fx")|((exists (j_ _ yq _));have h:=@z4o P w K mg base T;walk_at "fx")|((exists (j_ _ Et _));have h:=@z6q P w K mg base T;walk_at "fx")|((exists (j_ _ A_ _));have h:=@z8C P w K mg base T;walk_at "fx")|((exists (j_ _ Eu _));have h:=@z50 P w K mg base T;walk_at "fx")|((exists (j_ _ Es _));have h:=@z6n P w K mg base T;walk_at "fx")|((exists (j_ _ En _));have h:=@z5M P w K mg base T;walk_at "fx")|((exists (j_ _ Ak _));have h:=@z58 P w K mg base T;walk_at "fx")|((exists (j_ _ Eh _));have h:=@z99 P w K mg base T;walk_at "fx")|((exists (j_ _ CM _));have h:=@z3H P w K mg base T;walk_at "fx")|((exists (j_ _ Ek _));have h:=@z7w P w K mg base T;walk_at "fx")|((exists (j_ _ A8 _));have h:=@zcx P w K mg base T;walk_at "fx")|((exists (j_ _ xu _));have h:=@zax P w K mg base T;walk_at "fx")|((exists (j_ _ CS _));have h:=@z4v P w K mg base T;walk_at "fx")|((exists (j_ _ CH _));have h:=@z81 P w K mg base T;walk_at "fx")|((exists (j_ _ Ai _));have h:=@z9S P w K mg base T;walk_at "fx")|((exists (j_ _ Er _));have h:=@z7S P w K mg base T;walk_at "fx")|((exists (j_ _ Ey _));have h:=@z37 P w K mg base T;walk_at "fx")|((exists (j_ _ Hm _));have h:=@z6m P w K mg base T;walk_at "fx")|((exists (j_ _ _ _));have h:=c_self;walk_at "fx"))
local macro_rules|`(tactic| walk_at "k")=>`(tactic| first|exact Xl|exact WJ _ rfl|exact Xd|exact Vl)
local macro_rules|`(tactic| walk_at "n")=>`(tactic| first|exact YA T.c_SIGNS|exact Zg T.i_MOST_SWITCHES)
local macro_rules|`(tactic| walk_at "o")=>`(tactic| first|((exists (f_ rX _ _));refine XF ?_ ?_<;>walk_at "e")|((exists (f_ qf _ _));exact Vx '1' '1' (λ_ _=>rfl))|((exists (f_ (fI wJ) _ _));refine zV Xy YN ?_ ?_<;>walk_at "e")|((exists (f_ (fI tS) _ _));refine zV Xz Yo ?_ ?_<;>walk_at "e")|((exists (f_ (fI wL) _ _));refine zV Z6 X_ ?_ ?_<;>walk_at "e")|((exists (f_ (fI tK) _ _));refine zV XC X9 ?_ ?_<;>walk_at "e")|((exists (f_ (fI xf) _ _));refine zV Xw XZ ?_ ?_<;>walk_at "e")|((exists (f_ (fI B3) _ _));refine zV V6 Zs ?_ ?_<;>walk_at "e")|((exists (f_ Cf _ _));refine zV Zf zh9 ?_ ?_<;>walk_at "e")|((exists (f_ wZ _ _));exact xn Jd Jw '1' '1' (uv _))|((exists (f_ BR _ _));exact xn NJ OK '1' '1' (uv _))|((exists (f_ (pC rq) _ _));exact xn (PX hr.units) Cp '1' '1' (uv _))|((exists (f_ (pC pT) _ _));exact xn (OT hr.units) Cp '1' '1' (uv _))|((exists (f_ w4 _ _));exact xn (Ol hr.units) OF '1' '1' rfl)|((exists (f_ vP _ _));exact xn (PZ hr.units) Pu '1' '1' rfl)|((exists (f_ De _ _));exact xn Oq Py '1' '1' (uv _))|((exists (f_ yJ _ _));exact xn OS Q8 '1' '1' (uv _))|((exists (f_ BY _ _));exact xn WR Yh '1' '1' (uv _))|((exists (f_ zW _ _));exact xn P0 QZ '1' '1' (uv _))|((exists (f_ B1 _ _));exact xn (OH hr.units) OU '1' '1' (uv _))|((exists (yP true v9 _));refine zdx T.z01 rfl ?_<;>walk_at "e")|((exists (JA FJ FJ _ _ _));refine zgX ND OJ ND OJ ?_ ?_ ?_<;>walk_at "e"))
local macro_rules|`(tactic| walk_at "c")=>`(tactic| first|((exists (pB qB _));refine ym zgj XS rfl T.b_len V0 ?_<;>walk_at "a")|((exists (pB vm _));refine ym (zev rfl) WQ rfl T.b_all Xf ?_<;>walk_at "a")|((exists (pB AJ _));refine ym (zdM rfl) WB rfl T.b_any Xq ?_<;>walk_at "a")|((exists (pB F3 _));refine ym (zdL rfl) WZ rfl T.b_sum W1 ?_<;>walk_at "a")|((exists (pB AU _));refine ym (zeW rfl) Zr rfl T.b_max V3 ?_<;>walk_at "a")|((exists (pB AN _));refine ym (zdc rfl) ZM rfl T.b_min Gy ?_<;>walk_at "a")|((exists (pB Dv _));refine ym (zeb rfl) Yp rfl T.b_min Gy ?_<;>walk_at "a")|((exists (pB yM _));refine RX zdj Yz rfl T.b_int OG ?_<;>walk_at "a")|((exists (pB yO _));refine RX z7C zgn rfl T.b_tuple QE ?_<;>walk_at "a")|((exists (uq "bool" _));exact Gx '1' (by decide) rfl T.b_isinstance Hn rfl T.b_bool Zh)|((exists (uq "int" _));exact Gx '1' (by decide) rfl T.b_isinstance Hn rfl T.b_int OG)|((exists (uq "str" _));exact Gx '1' (by decide) rfl T.b_isinstance Hn rfl T.b_str Xh)|((exists (uq "tuple" _));exact Gx '1' (by decide) rfl T.b_isinstance Hn rfl T.b_tuple QE)|((exists (zS _ _ _ _ _ _ _));first|exact Qw x0 _ rfl rfl T.b_sorted GZ (yi (by kernel_rfl)) '6' (λ_ _ _ _ _=>⟨'5','7','8','1'⟩)|exact Qw x1 _ rfl rfl T.b_sorted GZ (yi (by kernel_rfl)) '6' (λ_ _ _ _ _=>⟨'5','7','8','1'⟩))|((exists (qS _ _ _ (Cw _) _));refine zX (zd4 T hT L) hr '9' rfl ?_<;>walk_at "a")|((exists (qS _ _ _ (HA _) _));refine zX (z6a T hT L) hr '9' rfl ?_<;>walk_at "a")|((exists (qS _ _ _ (Hg _) _));refine zX (z6l T hT L) hr '9' rfl ?_<;>walk_at "a")|((exists (qS _ _ _ (xx _) _));refine zX (z7Z T hT L) hr '9' rfl ?_<;>walk_at "a")|((exists (qS _ _ _ (yT _) _));refine zX (z5c T hT L) hr '9' rfl ?_<;>walk_at "a")|((exists (qS _ _ _ (El _) _));refine zX (z5K T hT L) hr '9' rfl ?_<;>walk_at "a")|((exists (qS _ _ _ F _));refine zX c_self hr '9' rfl ?_<;>walk_at "a")|((exists (qS _ _ _ _ _));refine zX c_self hr '9' rfl ?_<;>walk_at "a")|((exists (Cc _ _ _ _));exact zfX (k:=2) (hr.mono (by lia)) rfl L rfl (by kernel_rfl) rfl (λ_ _ _ _ _ _ _=>rfl) (vD (by kernel_rfl)) '1' (λq lam cd cl A outer s H hr=>'1') rfl T.b_min)|((exists (pB Ce _));refine ym (zer rfl hr.units) ZQ rfl T.b_min Gy ?_<;>walk_at "a")|((exists (pB Dm _));refine ym zd6 XW rfl T.b_sorted GZ ?_<;>walk_at "a")|((exists (pB AO _));refine ym zeY Zi rfl T.b_sorted GZ ?_<;>walk_at "a"))
local macro_rules|`(tactic| walk_at "so")=>`(tactic| first|((with_reducible show zC _ _ _ ye);exact zgi)|refine zgq ?_<;>walk_at "e")
local macro_rules|`(tactic| walk_at "m")=>`(tactic| first|((exists (xY _ _));exact zdp '1' (by walk_at "a"))|((exists (AI _ _));exact zf3 '1' (by walk_at "a"))|((exists (AW _ _));exact Yq '1' '1' (λ_ _=>rfl))|((exists (A1 _ _ _ _ _ _ _));first|exact Rj x0 rfl (yi (by kernel_rfl)) '6' (λ_ _ _ _ _=>⟨'5','7','8','1','1'⟩)|exact Rj x1 rfl (yi (by kernel_rfl)) '6' (λ_ _ _ _ _=>⟨'5','7','8','1','1'⟩))|((exists (AQ _ _));exact Yw '1' (by walk_at "a"))|((exists (MN IW _ _));exact VP PySem.F.slot_str_count PySem.F.type_str_count zgo XA '1' (by walk_at "a"))|((exists (Iu _ _ _));exact Wa '1' (by walk_at "so") (by walk_at "so"))|((exists (zI _ _ _));exact WW '1' (by walk_at "so") (by walk_at "so"))|((exists (zN HC _));exact OP T.z00 rfl '1' (λ_ _=>rfl))|((exists (zN v9 _));exact OP T.z01 rfl '1' (λ_ _=>rfl))|((exists (Dr _ _ _ _ _));exact XY _ _ rfl rfl (by decide) '1' '1' '1' (λ_ _=>rfl)))
local macro_rules|`(tactic| walk_at "e1")=>`(tactic| first|((exists (a_ _));refine XR rfl ?_<;>walk_at "v")|((exists (dC _));first|walk_at "k"|walk_at "n")|((exists (f_ _ _ _));walk_at "o")|((exists (j_ _ _ _));walk_at "f")|((exists (w_ _));refine Xj ?_<;>walk_at "a")|((exists (tL _));refine Wy ?_<;>walk_at "a")|((exists (qj _ _ _ _ _ _ _));first|exact Rc x0 _ rfl (yi (by kernel_rfl)) '6' (λ_ _ _ _ _=>⟨'5','7','8','1'⟩)|exact Rc x1 _ rfl (yi (by kernel_rfl)) '6' (λ_ _ _ _ _=>⟨'5','7','8','1'⟩))|((exists (pB _ _));walk_at "c")|((exists (wM _));refine YX ?_<;>walk_at "a")|((exists (w9 _ _));refine W6 ?_ ?_<;>walk_at "e")|((exists (C8 _ _));refine VD ?_ ?_<;>walk_at "e")|((exists (Dk _));refine Wn ?_<;>walk_at "e")|((exists (zB _ _ _));exact zhy (by walk_at "t") '1' '1')|walk_at "c"|walk_at "m"|walk_at "o")
local macro_rules|`(tactic| walk_at "e")=>`(tactic| first|(show PD _ _ (.BoolOp _ [_] _) _;refine VW ?_<;>walk_at "e1")|walk_at "e1")
local macro_rules|`(tactic| walk_at "a")=>`(tactic| first|((with_reducible show tJ _ _ _ d_);exact Yg)|exact zg2 '1' (by walk_at "a"))
local macro_rules|`(tactic| walk_at "t")=>`(tactic| first|((with_reducible show qF _ _ _ (pA (f_ wZ _ _)));exact yk Jd Jw '1' '1' (uv _))|((with_reducible show qF _ _ _ (pA (f_ BR _ _)));exact yk NJ OK '1' '1' (uv _))|((with_reducible show qF _ _ _ (pA (f_ (pC rq) _ _)));exact yk (PX hr.units) Cp '1' '1' (uv _))|((with_reducible show qF _ _ _ (pA (f_ (pC pT) _ _)));exact yk (OT hr.units) Cp '1' '1' (uv _))|((with_reducible show qF _ _ _ (pA (f_ w4 _ _)));exact yk (Ol hr.units) OF '1' '1' rfl)|((with_reducible show qF _ _ _ (pA (f_ vP _ _)));exact yk (PZ hr.units) Pu '1' '1' rfl)|((with_reducible show qF _ _ _ (pA (f_ De _ _)));exact yk Oq Py '1' '1' (uv _))|((with_reducible show qF _ _ _ (pA (f_ yJ _ _)));exact yk OS Q8 '1' '1' (uv _))|((with_reducible show qF _ _ _ (pA (f_ zW _ _)));exact yk P0 QZ '1' '1' (uv _))|((with_reducible show qF _ _ _ (pA (f_ B1 _ _)));exact yk (OH hr.units) OU '1' '1' (uv _))|((with_reducible show qF _ _ _ (pA (yP true v9 _)));refine zcn T.z01 rfl ?_<;>walk_at "e")|(show qF _ _ (.BoolOp _ _ _) _;refine vL.pt ?_<;>walk_at "w")|((with_reducible show qF _ _ _ (qQ _));refine ZX ?_<;>walk_at "t")|((with_reducible show qF _ _ _ (qo _));exact YD '1' (λ_=>rfl)))
local macro_rules|`(tactic| walk_at "w")=>`(tactic| first|(show vL _ _ (.BoolOp .And [_] _) _;refine zhe ?_<;>walk_at "t")|(show vL _ _ (.BoolOp .Or [_] _) _;refine Yr ?_<;>walk_at "t")|((with_reducible show vL _ _ _ (tw _ _));exact Zq (by walk_at "t") (by walk_at "w"))|((with_reducible show vL _ _ _ (uG _ _));exact Ws (by walk_at "t") (by walk_at "w")))
local macro_rules|`(tactic| walk_at "i")=>`(tactic| first|((with_reducible show sC _ _ _ _ (vp _));refine zcF rfl T.b_range ?_<;>walk_at "a")|((with_reducible show sC _ _ _ _ (ya _));refine zgH rfl T.b_zip ?_<;>walk_at "a")|((with_reducible show sC _ _ _ _ (DG _));refine zeJ rfl T.b_enumerate ?_<;>walk_at "a")|((with_reducible show sC _ _ _ _ (F7 _));refine zge ?_<;>walk_at "e")|refine Y8 ?_<;>walk_at "e")
local macro_rules|`(tactic| walk_at "g")=>`(tactic| first|(show PG _ (.Name _ _) _;refine V5 (vD (by kernel_rfl)) rfl ?_ ?_<;>walk_at "l")|(show PG _ (.Tuple [_,_] _ _) _;refine WY rfl (vD (by kernel_rfl)) rfl rfl ?_ ?_ ?_ ?_<;>walk_at "l"))
local macro_rules|`(tactic| walk_at "fs")=>`(tactic| first|exact .nil|exact .cons (by walk_at "t") '7')
local macro_rules|`(tactic| walk_at "cs")=>`(tactic| first|exact .nil|(refine oC.cons ?_ (λ_=>rfl) ?_ ?_ ?_;(dsimp only;walk_at "i");(dsimp only;walk_at "g");(dsimp only;walk_at "fs");walk_at "cs"))
local macro_rules|`(tactic| walk_at "s")=>`(tactic| first|((with_reducible show rK _ _ _ (l_ _));refine YF ?_<;>walk_at "e")|((with_reducible show rK _ _ _ (pS _ _ _));exact Xc (by walk_at "t") (by walk_at "ss") (by walk_at "ss"))|(show rK _ _ (.Assign [.Name _ _] (.ListComp _ _ _ _) _) _;first|exact SQ x0 _ rfl (vD (by kernel_rfl)) rfl rfl (yi (by kernel_rfl)) '6' (λ_ _ _ _ _=>⟨'5','7','8','1'⟩) rfl|exact SQ x1 _ rfl (vD (by kernel_rfl)) rfl rfl (yi (by kernel_rfl)) '6' (λ_ _ _ _ _=>⟨'5','7','8','1'⟩) rfl|exact PN (vD (by kernel_rfl)) rfl (by walk_at "l") '1')|((with_reducible show rK _ _ _ (pY _ _));exact PN (vD (by kernel_rfl)) rfl (by walk_at "l") '1')|((with_reducible show rK _ _ _ (vU _ _ _));exact Z0 kw rfl '6' '5' (by walk_at "ss"))|((with_reducible show rK _ _ _ (rG _));refine zh6 ?_<;>walk_at "e")|((with_reducible show rK _ _ _ (yE _ _ _));refine YT ?_ ?_ ?_<;>walk_at "e")|((with_reducible show rK _ _ _ (Di _ _ _));exact X1 rfl (vD (by kernel_rfl)) rfl rfl (by decide) rfl rfl (by walk_at "a") rfl)|((with_reducible show rK _ _ _ (Df _ _));exact X7 '1' '5')|((with_reducible show rK _ _ _ (Dh _ _));exact Y7 (vD (by kernel_rfl)) rfl (by walk_at "l") '1')|((with_reducible show rK _ _ _ (Jj _ _ _));exact zf6 _ kw (by walk_at "t") (by walk_at "ss"))|((with_reducible show rK _ _ _ pU);exact zhd))
local macro_rules|`(tactic| walk_at "sl")=>`(tactic| first|first|exact Ss x0 _ rfl (vD (by kernel_rfl)) rfl rfl (yi (by kernel_rfl)) '6' (λ_ _ _ _ _=>⟨'5','7','8','1'⟩) rfl|exact Ss x1 _ rfl (vD (by kernel_rfl)) rfl rfl (yi (by kernel_rfl)) '6' (λ_ _ _ _ _=>⟨'5','7','8','1'⟩) rfl)
local macro_rules|`(tactic| walk_at "rs")=>`(tactic| first|(refine zcY kw rfl (λte he=>Of (vD (by kernel_rfl)) rfl ?_ (RU zcE rfl T.b_dict Y_ (DP he Gw))) ?_ ?_ ?_ (Jh rfl ?_) (Jh rfl ?_) ?_ ?_ rfl ?_ (by decide) (by decide) (gA rfl) (gA rfl);(walk_at "l");(walk_at "e");(walk_at "i");(walk_at "g");(walk_at "v");(walk_at "v");(walk_at "sl");(walk_at "e");(walk_at "ss")))
local macro_rules|`(tactic| walk_at "ss")=>`(tactic| first|((with_reducible show sV _ _ _ (Dp _ _ _ _ _ _ _ _));walk_at "rs")|((with_reducible show sV _ _ _ pU);exact zgv)|((with_reducible show sV _ _ _ B_);exact QB)|((with_reducible show sV _ _ _ (n_ _ _));exact qJ '2' (by walk_at "ss"))|refine qk ?_<;>walk_at "s")
def R7:DS:=
 (l_ (w9 (uq "int" (a_ 0)) (Dk (uq "bool" (a_ 0)))))
def KP:List D->Ow->R D:=(qv 1 R7)
def za4:pV ["thing"] ["thing"] (pJ (top 7)):='3'
def zaJ(T:Txt K mg):Callee P w K mg base "is_whole" 1 1 KP:=
 Callee.self (qC (k:=0) T.d_is_whole za4 '4' λf o_ A outer s H E hr=>
  ((qk (by delta R7;walk_at "s"))))
def SG:DS:=
 (l_ (pB vm (b_ (qj K7 2 (ya (b_ (a_ 0) (b_ (zI (a_ 0) (yN (dC (.int 1))) ye) d_))) (.two 1 2) [] [] (f_ BY (a_ 1) (a_ 2))) d_)))
def Ed:List D->Ow->R D:=(qv 1 SG)
def z8I:pV ["things"] ["things"] (pJ (top 11)):='3'
def z8r(T:Txt K mg):Callee P w K mg base "is_rising" 1 1 Ed:=
 Callee.self (qC (k:=0) T.d_is_rising z8I '4' λf o_ A outer s H E hr=>
  (have x0:Nx ["one", "other"]:=⟨⟩;(qk (by delta SG;walk_at "s"))))
def SO:DS:=
 (l_ (zN v9 (pB qB (b_ (a_ 0) d_))))
def CJ:List D->Ow->R D:=(qv 1 SO)
def z6t:pV ["function"] ["function"] (pJ (top 18)):='3'
def z6k(T:Txt K mg):Callee P w K mg base "switches_of" 1 1 CJ:=
 Callee.self (qC (k:=0) T.d_switches_of z6t '4' λf o_ A outer s H E hr=>
  ((qk (by delta SO;walk_at "s"))))
def SW:DS:=
 (l_ (qj K7 2 (DG (b_ (a_ 0) d_)) (.two 2 3) [(pA (f_ (pC rq) (a_ 3) (a_ 1)))] [] (a_ 2)))
def CI:List D->Ow->R D:=(qv 2 SW)
def z6v:pV ["function", "answer"] ["function", "answer"] (pJ (top 19)):='3'
def z6A(T:Txt K mg):Callee P w K mg base "points_with" 1 2 CI:=
 Callee.self (qC (k:=0) T.d_points_with z6v '4' λf o_ A outer s H E hr=>
  (have x0:Nx ["point", "told"]:=⟨⟩;(qk (by delta SW;walk_at "s"))))
def z53:DS:=
 (n_ (pS (uG (qQ (qo (uq "str" (a_ 1)))) (pA (f_ (pC pT) (pB qB (b_ (a_ 1) d_)) (a_ 0)))) (l_ (dC (.bl K7))) pU) (l_ (pB vm (b_ (qj K7 1 (qg (a_ 1)) (.one 2) [] [] (f_ w4 (a_ 2) (dC (.str [45,48,49])))) d_))))
def Al:List D->Ow->R D:=(qv 2 z53)
def z4z:pV ["n", "thing"] ["n", "thing"] (pJ (top 22)):='3'
def z4I(T:Txt K mg):Callee P w K mg base "has_term_signs" 1 2 Al:=
 Callee.self (qC (k:=0) T.d_has_term_signs z4z '4' λf o_ A outer s H E hr=>
  (have x0:Nx ["sign"]:=⟨⟩;(qJ '2' (qk '2'))))
def z9Z:DS:=
 (n_ (pY 1 (w_ (b_ (dC (.str [])) d_))) (n_ (vU (vp (b_ (a_ 0) d_)) (.one 2) (pY 1 (qj K7 2 (qg (a_ 1)) (.one 3) [] (⟨(qg (dC (.str [45,48,49]))),(.one 4),[]⟩::[]) (f_ rX (a_ 3) (a_ 4))))) (l_ (a_ 1))))
def yS:List D->Ow->R D:=(qv 3 z9Z)
def z92:pV ["n", "terms", "switch"] ["n"] (pJ (top 24)):='3'
def z9g(T:Txt K mg):Callee P w K mg base "all_terms" 1 1 yS:=
 Callee.self (qC (k:=0) T.d_all_terms z92 '4' λf o_ A outer s H E hr=>
  (have x0:Nx ["term", "sign"]:=⟨⟩;(qJ '2' (qJ '2' (qk '2')))))
def zfc:DS:=
 (n_ (pS (pA (f_ (pC rq) (a_ 0) (dC (.str [45])))) (l_ (w_ (b_ (dC (.int 0)) (b_ (dC (.int 1)) d_)))) pU) (l_ (w_ (b_ (pB yM (b_ (a_ 0) d_)) d_))))
def KC:List D->Ow->R D:=(qv 1 zfc)
def zcp:pV ["sign"] ["sign"] (pJ (top 25)):='3'
def zcl(T:Txt K mg):Callee P w K mg base "bits_of" 1 1 KC:=
 Callee.self (qC (k:=0) T.d_bits_of zcp '4' λf o_ A outer s H E hr=>
  ((qJ '2' (qk '2'))))
def G5:DS:=
 (l_ (pB vm (b_ (qj K7 2 (ya (b_ (a_ 0) (b_ (a_ 1) d_))) (.two 2 3) [] [] (C8 (f_ (pC rq) (a_ 3) (dC (.str [45]))) (f_ (pC rq) (a_ 3) (a_ 2)))) d_)))
def GY:List D->Ow->R D:=(qv 2 G5)
def zct:pV ["one", "other"] ["one", "other"] (pJ (top 27)):='3'
def zc5(T:Txt K mg):Callee P w K mg base "lies_in" 1 2 GY:=
 Callee.self (qC (k:=0) T.d_lies_in zct '4' λf o_ A outer s H E hr=>
  (have x0:Nx ["sign", "wide"]:=⟨⟩;(qk (by delta G5;walk_at "s"))))
def W8:DS:=
 (n_ (pY 2 (wM d_)) (n_ (vU (ya (b_ (a_ 0) (b_ (a_ 1) d_))) (.two 3 4) (n_ (pS (tw (pA (f_ (pC pT) (a_ 3) (dC (.str [45])))) (tw (pA (f_ (pC pT) (a_ 4) (dC (.str [45])))) (pA (f_ (pC pT) (a_ 3) (a_ 4))))) (l_ (dC .non)) pU) (rG (xY (a_ 2) (b_ (zB (pA (f_ (pC rq) (a_ 3) (dC (.str [45])))) (a_ 4) (a_ 3)) d_))))) (l_ (AQ (dC (.str [])) (b_ (a_ 2) d_)))))
def DJ:List D->Ow->R D:=Dd (qv 5 W8)
def ZR:pV ["one", "other", "signs", "left", "right"] ["one", "other"] (pJ (top 28)):='3'
def Yk(T:Txt K mg):Callee P w K mg base "meet" 1 2 DJ:=
 Callee.frz (qC (k:=0) T.d_meet ZR '4' λf o_ A outer s H E hr=>
  ((qJ '2' (qJ '2' (qk '2')))))
def SA:DS:=
 (l_ (f_ rX (f_ rX (Iu (a_ 0) ye (yN (a_ 1))) (a_ 2)) (Iu (a_ 0) (yN (f_ rX (a_ 1) (dC (.int 1)))) ye)))
def Aj:List D->Ow->R D:=(qv 3 SA)
def z9k:pV ["term", "switch", "sign"] ["term", "switch", "sign"] (pJ (top 29)):='3'
def z8U(T:Txt K mg):Callee P w K mg base "with_sign" 1 3 Aj:=
 Callee.self (qC (k:=0) T.d_with_sign z9k '4' λf o_ A outer s H E hr=>
  ((qk (by delta SA;walk_at "s"))))
def Sr:DS:=
 (l_ (zB (pA (f_ (pC rq) (a_ 0) (dC (.str [48])))) (dC (.str [49])) (dC (.str [48]))))
def Hq:List D->Ow->R D:=(qv 1 Sr)
def z9y:pV ["sign"] ["sign"] (pJ (top 30)):='3'
def z8l(T:Txt K mg):Callee P w K mg base "exchanged" 1 1 Hq:=
 Callee.self (qC (k:=0) T.d_exchanged z9y '4' λf o_ A outer s H E hr=>
  ((qk (by delta Sr;walk_at "s"))))
def Sd:DS:=
 (l_ (f_ (fI wJ) (pB qB (b_ (a_ 0) d_)) (MN IW (a_ 0) (b_ (dC (.str [45])) d_))))
def CF:List D->Ow->R D:=(qv 1 Sd)
def zab:pV ["term"] ["term"] (pJ (top 31)):='3'
def z9P(T:Txt K mg):Callee P w K mg base "signs_in" 1 1 CF:=
 Callee.self (qC (k:=0) T.d_signs_in zab '4' λf o_ A outer s H E hr=>
  ((qk (by delta Sd;walk_at "s"))))
def Hf:DS:=
 (l_ (qj K7 1 (F7 (a_ 0)) (.one 2) [(pA (f_ w4 (a_ 1) (AW (a_ 0) (a_ 2))))] [] (a_ 2)))
def yU:List D->Ow->R D:=(qv 2 Hf)
def z7u:pV ["held", "one"] ["held", "one"] (pJ (top 43)):='3'
def z82(T:Txt K mg):Callee P w K mg base "holders_in" 1 2 yU:=
 Callee.self (qC (k:=0) T.d_holders_in z7u '4' λf o_ A outer s H E hr=>
  (have x0:Nx ["term"]:=⟨⟩;(qk (by delta Hf;walk_at "s"))))
def S7:DS:=
 (l_ (zB (pA (f_ De (a_ 0) (dC .non))) (dC .non) (f_ (fI wJ) (dC (.int 1)) (a_ 0))))
def Hw:List D->Ow->R D:=(qv 1 S7)
def z4p:pV ["answer"] ["answer"] (pJ (top 50)):='3'
def z42(T:Txt K mg):Callee P w K mg base "opposite_answer" 1 1 Hw:=
 Callee.self (qC (k:=0) T.d_opposite_answer z4p '4' λf o_ A outer s H E hr=>
  ((qk (by delta S7;walk_at "s"))))
def z6j:DS:=
 (n_ (pS (pA (f_ wZ (a_ 1) (pB qB (b_ (a_ 0) d_)))) (l_ (f_ qf (a_ 0) (a_ 1))) pU) (l_ (dC (.int 0))))
def Eo:List D->Ow->R D:=(qv 2 z6j)
def z5R:pV ["_law_script", "_law_k"] ["_law_script", "_law_k"] (pJ (top 63)):='3'
def z5D(T:Txt K mg):Callee P w K mg base "_law_cell_at" 1 2 Eo:=
 Callee.self (qC (k:=0) T.d__law_cell_at z5R '4' λf o_ A outer s H E hr=>
  ((qJ '2' (qk '2'))))
def z9D:DS:=
 (n_ (pS (qo (f_ qf (a_ 0) (dC (.int 1)))) (n_ (pY 2 (f_ (fI tK) (f_ qf (a_ 0) (dC (.int 0))) (a_ 1))) (n_ (yE (f_ (fI wL) (f_ qf (a_ 0) (dC (.int 0))) (a_ 1)) (a_ 0) (dC (.int 0))) (l_ (a_ 2)))) pU) (n_ (yE (f_ (fI tK) (f_ rX (f_ (fI tS) (f_ qf (a_ 0) (dC (.int 0))) (dC (.int 48271))) (dC (.int 29))) (dC (.int 2147483647))) (a_ 0) (dC (.int 0))) (n_ (pY 3 (f_ (fI tK) (f_ rX (f_ rX (f_ (fI tS) (f_ qf (a_ 0) (dC (.int 0))) (f_ qf (a_ 0) (dC (.int 0)))) (f_ (fI tS) (dC (.int 39373)) (f_ qf (a_ 0) (dC (.int 0))))) (dC (.int 7))) (dC (.int 2147483629)))) (n_ (pY 3 (f_ (fI tK) (f_ rX (f_ (fI tS) (a_ 3) (a_ 3)) (f_ (fI tS) (dC (.int 16807)) (a_ 3))) (dC (.int 2147483587)))) (l_ (f_ (fI tK) (f_ (fI wL) (a_ 3) (dC (.int 8))) (a_ 1)))))))
def ux:List D->Ow->R D:=(qv 4 z9D)
def z8L:pV ["_law_state_here", "_law_many", "_law_found", "_law_stirred"] ["_law_state_here", "_law_many"] (pJ (top 65)):='3'
def z9t(T:Txt K mg):Callee P w K mg base "_law_take" 1 2 ux:=
 Callee.self (qC (k:=0) T.d__law_take z8L '4' λf o_ A outer s H E hr=>
  ((qJ '2' (qJ '2' (qJ '2' (qJ '2' (qk '2')))))))
def Ho:DS:=
 (l_ (f_ (pC rq) (qj K7 1 (vp (b_ (pB qB (b_ (a_ 0) d_)) d_)) (.one 2) [(tw (pA (f_ yJ (f_ qf (a_ 0) (a_ 2)) (dC .non))) (pA (f_ (pC pT) (f_ qf (a_ 0) (a_ 2)) (f_ qf (a_ 1) (a_ 2)))))] [] (a_ 2)) (w_ d_)))
def Bc:List D->Ow->R D:=(qv 2 Ho)
def z6s:pV ["_law_function_here", "_law_other"] ["_law_function_here", "_law_other"] (pJ (top 67)):='3'
def z6r(T:Txt K mg):Callee P w K mg base "_law_agrees" 1 2 Bc:=
 Callee.self (qC (k:=0) T.d__law_agrees z6s '4' λf o_ A outer s H E hr=>
  (have x0:Nx ["_law_at"]:=⟨⟩;(qk (by delta Ho;walk_at "s"))))
def S6:DS:=
 (l_ (w9 (j_ 1 KP (b_ (a_ 0) d_)) (JA FJ FJ (a_ 1) (a_ 0) (a_ 2))))
def Hx:List D->Ow->R D:=(qv 3 S6)
def z4r:pV ["thing", "least", "most"] ["thing", "least", "most"] (pJ (top 8)):='3'
def z4m(T:Txt K mg):Callee P w K mg base "is_whole_within" 2 3 Hx:=
 Callee.self (qC (k:=1) T.d_is_whole_within z4r '4' λf o_ A outer s H E hr=>
  ((qk (by delta S6;walk_at "s"))))
def K0:DS:=
 (n_ (pS (qQ (qo (uq "tuple" (a_ 1)))) (l_ (dC (.bl K7))) pU) (l_ (w9 (pB vm (b_ (qj K7 1 (qg (a_ 1)) (.one 2) [] [] (j_ 2 Al (b_ (a_ 0) (b_ (a_ 2) d_)))) d_)) (j_ 1 Ed (b_ (a_ 1) d_)))))
def Am:List D->Ow->R D:=(qv 2 K0)
def z3S:pV ["n", "thing"] ["n", "thing"] (pJ (top 23)):='3'
def z3T(T:Txt K mg):Callee P w K mg base "has_rising_terms" 2 2 Am:=
 Callee.self (qC (k:=1) T.d_has_rising_terms z3S '4' λf o_ A outer s H E hr=>
  (have x0:Nx ["term"]:=⟨⟩;(qJ '2' (qk '2'))))
def z9F:DS:=
 (n_ (pY 1 (w_ (b_ (dC (.int 0)) d_))) (n_ (vU (qg (a_ 0)) (.one 2) (pY 1 (qj K7 2 (qg (a_ 1)) (.one 3) [] (⟨(qg (j_ 1 KC (b_ (a_ 2) d_))),(.one 4),[]⟩::[]) (f_ rX (f_ (fI tS) (dC (.int 2)) (a_ 3)) (a_ 4))))) (l_ (a_ 1))))
def xw:List D->Ow->R D:=(qv 3 z9F)
def z9p:pV ["term", "points", "sign"] ["term"] (pJ (top 26)):='3'
def z8T(T:Txt K mg):Callee P w K mg base "points_of" 2 1 xw:=
 Callee.self (qC (k:=1) T.d_points_of z9p '4' λf o_ A outer s H E hr=>
  (have x0:Nx ["point", "bit"]:=⟨⟩;(qJ '2' (qJ '2' (qk '2')))))
def G2:DS:=
 (l_ (pB F3 (b_ (qj K7 1 (qg (a_ 0)) (.one 1) [] [] (j_ 1 CF (b_ (a_ 1) d_))) d_)))
def tD:List D->Ow->R D:=(qv 1 G2)
def zae:pV ["form"] ["form"] (pJ (top 42)):='3'
def zaz(T:Txt K mg):Callee P w K mg base "signs_of" 2 1 tD:=
 Callee.self (qC (k:=1) T.d_signs_of zae '4' λf o_ A outer s H E hr=>
  (have x0:Nx ["term"]:=⟨⟩;(qk (by delta G2;walk_at "s"))))
def yQ(Pt:Nat)(F:List D->Ow->R D):DS:=
 (n_ (pS (qQ (qo (a_ 1))) (l_ (w_ (b_ (tL d_) d_))) pU) (n_ (pS (pA (f_ (pC rq) (a_ 2) (dC (.int 0)))) (l_ (w_ d_)) pU) (n_ (pY 3 (Cc Pt 8 (a_ 1) (pB qB (b_ (j_ 2 yU (b_ (a_ 0) (b_ (a_ 9) d_))) d_)))) (n_ (pY 4 (wM d_)) (Dp 5 6 7 (a_ 0) (qg (j_ 2 yU (b_ (a_ 0) (b_ (a_ 3) d_)))) (qj K7 1 (qg (a_ 1)) (.one 9) [(pA (f_ vP (a_ 9) (AW (a_ 0) (a_ 6))))] [] (a_ 9)) (AI (a_ 4) (b_ (qj K7 1 (qg (qS Pt 8 3 F (b_ (a_ 5) (b_ (a_ 7) (b_ (f_ (fI wJ) (a_ 2) (dC (.int 1))) d_))))) (.one 9) [] [] (f_ rX (tL (b_ (a_ 6) d_)) (a_ 9))) d_)) (l_ (a_ 4)))))))
def v_(Pt:Nat):Nat->List D->Ow->R D
 |0=>λ_ _=>.bad
 |k+1=>Dd (vQ 9 8 Pt (yQ Pt (v_ Pt k)))
def RJ:pV ["held", "wanted", "many", "hardest", "found", "rest", "term", "left", "<tab>"] ["held", "wanted", "many"] (pJ (top 44)):='3'
theorem Sb{c Pt:ae}(T:Txt K mg)(hT:xh K mg "covers" (top 44) c)(L:uJ mg base c Pt):∀k,oh P w K mg base "covers" (4+k) 3 Pt (v_ Pt k)
 |0=>oh.bad (F:=vQ 9 8 Pt B_) (Nf (k:=3) (i:=8) (z := "<tab>") hT RJ rfl (zJ 'b') '4' λf A outer s H E hr=>QB)
 | k+1=>oh.frz (Nf (k:=4+k) (i:=8) (z := "<tab>") hT RJ rfl (zJ 'b') '4' λf A outer s H E hr=>
  have c_self:=Sb T hT L k
  (have x0:Nx ["one"]:=⟨⟩;have x1:Nx ["cover"]:=⟨⟩;(by unfold yQ;walk_at "ss")))
def Cw(Pt:Nat):List D->Ow->R D:=v_ Pt 10
def zd4{c Pt:ae}(T:Txt K mg)(a:xh K mg "covers" (top 44) c)(L:uJ mg base c Pt):oh P w K mg base "covers" 14 3 Pt (Cw Pt):=Sb T a L 10
def KJ:DS:=
 (n_ (pY 1 (f_ Cf (dC (.str [45])) (pB qB (b_ (a_ 0) d_)))) (l_ (qj K7 2 (DG (b_ (a_ 0) d_)) (.two 2 3) [(pA (f_ (pC pT) (a_ 3) (dC (.str [45]))))] [] (j_ 3 Aj (b_ (a_ 1) (b_ (a_ 2) (b_ (j_ 1 Hq (b_ (a_ 3) d_)) d_)))))))
def Ei:List D->Ow->R D:=(qv 2 KJ)
def z9W:pV ["clause", "blank"] ["clause"] (pJ (top 59)):='3'
def zar(T:Txt K mg):Callee P w K mg base "picks_of" 2 1 Ei:=
 Callee.self (qC (k:=1) T.d_picks_of z9W '4' λf o_ A outer s H E hr=>
  (have x0:Nx ["switch", "sign"]:=⟨⟩;(qJ '2' (qk '2'))))
def Hb:DS:=
 (l_ (qj KM 1 (qg (a_ 0)) (.one 1) [(qQ (qo (pB AJ (b_ (qj K7 1 (qg (a_ 0)) (.one 2) [] [] (w9 (f_ (pC pT) (a_ 1) (a_ 2)) (j_ 2 GY (b_ (a_ 1) (b_ (a_ 2) d_))))) d_))))] [] (a_ 1)))
def Eg:List D->Ow->R D:=(qv 1 Hb)
def z97:pV ["terms"] ["terms"] (pJ (top 60)):='3'
def z9d(T:Txt K mg):Callee P w K mg base "widest_of" 2 1 Eg:=
 Callee.self (qC (k:=1) T.d_widest_of z97 '4' λf o_ A outer s H E hr=>
  (have x0:Nx ["other"]:=⟨⟩;have x1:Nx ["term"]:=⟨⟩;(qk (by delta Hb;walk_at "s"))))
def z91:DS:=
 (n_ (pY 2 (j_ 2 Eo (b_ (a_ 0) (b_ (a_ 1) d_)))) (n_ (pS (pA (f_ BR (a_ 2) (f_ (fI xf) (dC (.int 10)) (dC (.int 18))))) (l_ (wM (b_ (f_ (fI wJ) (a_ 2) (f_ (fI xf) (dC (.int 10)) (dC (.int 18)))) (b_ (dC (.bl KM)) d_)))) pU) (l_ (wM (b_ (f_ (fI tK) (a_ 2) (dC (.int 2147483647))) (b_ (dC (.bl K7)) d_))))))
def Ep:List D->Ow->R D:=(qv 3 z91)
def z7o:pV ["_law_script", "_law_k", "_law_cell"] ["_law_script", "_law_k"] (pJ (top 64)):='3'
def z7A(T:Txt K mg):Callee P w K mg base "_law_state" 2 2 Ep:=
 Callee.self (qC (k:=1) T.d__law_state z7o '4' λf o_ A outer s H E hr=>
  ((qJ '2' (qJ '2' (qk '2')))))
def HB:DS:=
 (n_ (pY 3 (f_ qf (w_ (b_ (dC (.int 2)) (b_ (dC (.int 4)) (b_ (dC (.int 6)) d_)))) (j_ 2 ux (b_ (a_ 0) (b_ (dC (.int 3)) d_))))) (n_ (pY 4 (f_ (fI tS) (j_ 2 ux (b_ (a_ 0) (b_ (dC (.int 3)) d_))) (pB yM (b_ (a_ 2) d_)))) (n_ (pY 5 (wM d_)) (n_ (vU (vp (b_ (f_ (fI B3) (dC (.int 1)) (a_ 1)) d_)) (.one 6) (n_ (pY 7 (pB yM (b_ (f_ wZ (j_ 2 ux (b_ (a_ 0) (b_ (dC (.int 8)) d_))) (a_ 3)) d_))) (n_ (pS (pA (f_ wZ (j_ 2 ux (b_ (a_ 0) (b_ (dC (.int 5)) d_))) (a_ 4))) (pY 7 (dC .non)) pU) (rG (xY (a_ 5) (b_ (a_ 7) d_)))))) (l_ (pB yO (b_ (a_ 5) d_)))))))
def CN:List D->Ow->R D:=Dd (qv 8 HB)
def z52:pV ["_law_state_here", "_law_n", "_law_free", "_law_often", "_law_rest", "_law_found", "_law_point", "_law_answer"] ["_law_state_here", "_law_n", "_law_free"] (pJ (top 66)):='3'
def z59(T:Txt K mg):Callee P w K mg base "_law_function" 2 3 CN:=
 Callee.frz (qC (k:=1) T.d__law_function z52 '4' λf o_ A outer s H E hr=>
  ((qJ '2' (qJ '2' (qJ '2' (qJ '2' (qk '2')))))))
def SY:DS:=
 (pS (qQ (qo (j_ 3 Hx (b_ (a_ 0) (b_ (a_ 1) (b_ (a_ 2) d_)))))) B_ pU)
def K1:List D->Ow->R D:=(qv 3 SY)
def z3L:pV ["thing", "least", "most"] ["thing", "least", "most"] (pJ (top 9)):='3'
def z3I(T:Txt K mg):Callee P w K mg base "need_whole_within" 3 3 K1:=
 Callee.self (qC (k:=2) T.d_need_whole_within z3L '4' λf o_ A outer s H E hr=>
  ((qk (by delta SY;walk_at "s"))))
def Sy:DS:=
 (l_ (C8 (f_ De (a_ 0) (dC .non)) (j_ 3 Hx (b_ (a_ 0) (b_ (dC (.int 0)) (b_ (dC (.int 1)) d_))))))
def Ee:List D->Ow->R D:=(qv 1 Sy)
def z8h:pV ["thing"] ["thing"] (pJ (top 15)):='3'
def z95(T:Txt K mg):Callee P w K mg base "is_answer" 3 1 Ee:=
 Callee.self (qC (k:=2) T.d_is_answer z8h '4' λf o_ A outer s H E hr=>
  ((qk (by delta Sy;walk_at "s"))))
def CP:DS:=
 (l_ (qj K7 1 (qg (a_ 0)) (.one 2) [(pA (f_ w4 (a_ 1) (j_ 1 xw (b_ (a_ 2) d_))))] [] (a_ 2)))
def CO:List D->Ow->R D:=(qv 2 CP)
def z4X:pV ["terms", "point"] ["terms", "point"] (pJ (top 32)):='3'
def z4Z(T:Txt K mg):Callee P w K mg base "terms_holding" 3 2 CO:=
 Callee.self (qC (k:=2) T.d_terms_holding z4X '4' λf o_ A outer s H E hr=>
  (have x0:Nx ["term"]:=⟨⟩;(qk (by delta CP;walk_at "s"))))
def S4:DS:=
 (l_ (pB vm (b_ (qj K7 1 (qg (j_ 1 xw (b_ (a_ 1) d_))) (.one 2) [] [] (f_ (pC pT) (f_ qf (a_ 0) (a_ 2)) (dC (.int 0)))) d_)))
def yq:List D->Ow->R D:=(qv 2 S4)
def z4a:pV ["function", "term"] ["function", "term"] (pJ (top 34)):='3'
def z4o(T:Txt K mg):Callee P w K mg base "holds_no_nought" 3 2 yq:=
 Callee.self (qC (k:=2) T.d_holds_no_nought z4a '4' λf o_ A outer s H E hr=>
  (have x0:Nx ["point"]:=⟨⟩;(qk (by delta S4;walk_at "s"))))
def SN:DS:=
 (l_ (pB AJ (b_ (qj K7 1 (qg (j_ 1 xw (b_ (a_ 1) d_))) (.one 2) [] [] (f_ (pC rq) (f_ qf (a_ 0) (a_ 2)) (dC (.int 1)))) d_)))
def Et:List D->Ow->R D:=(qv 2 SN)
def z6B:pV ["function", "term"] ["function", "term"] (pJ (top 35)):='3'
def z6q(T:Txt K mg):Callee P w K mg base "holds_a_one" 3 2 Et:=
 Callee.self (qC (k:=2) T.d_holds_a_one z6B '4' λf o_ A outer s H E hr=>
  (have x0:Nx ["point"]:=⟨⟩;(qk (by delta SN;walk_at "s"))))
def KZ(Pt:Nat):DS:=
 (n_ (pY 2 (dC (.int 0))) (n_ (pY 3 (qS Pt 5 3 (Cw Pt) (b_ (a_ 0) (b_ (a_ 1) (b_ (a_ 2) d_))))) (n_ (Jj 10 (qQ (qo (a_ 3))) (n_ (Dh 2 (dC (.int 1))) (pY 3 (qS Pt 5 3 (Cw Pt) (b_ (a_ 0) (b_ (a_ 1) (b_ (a_ 2) d_))))))) (n_ (pY 4 (pB Dv (b_ (qj K7 1 (qg (a_ 3)) (.one 6) [] [] (j_ 1 tD (b_ (a_ 6) d_))) d_))) (l_ (pB Dm (b_ (qj K7 1 (qg (a_ 3)) (.one 6) [(pA (f_ (pC rq) (j_ 1 tD (b_ (a_ 6) d_)) (a_ 4)))] [] (pB yO (b_ (pB AO (b_ (a_ 6) d_)) d_))) d_)))))))
def HA(Pt:Nat):List D->Ow->R D:=(vQ 6 5 Pt (KZ Pt))
def z5s:pV ["held", "wanted", "many", "found", "fewest", "<tab>"] ["held", "wanted"] (pJ (top 45)):='3'
def z6a{c Pt:ae}(T:Txt K mg)(hT:xh K mg "covers" (top 44) c)(L:uJ mg base c Pt):oh P w K mg base "least_covers" 15 2 Pt (HA Pt):=
 oh.self (FI (k:=14) (i:=5) (z := "<tab>") T.d_least_covers z5s rfl (zJ 'b') '4' λf o_ A outer s H E hr=>
  (have x0:Nx ["cover"]:=⟨⟩;(qJ '2' (qJ '2' (qJ '2' (qJ '2' (qk '2')))))))
def Hc:DS:=
 (l_ (tL (b_ (pB qB (b_ (a_ 0) d_)) (b_ (j_ 1 tD (b_ (a_ 0) d_)) d_))))
def A_:List D->Ow->R D:=(qv 1 Hc)
def z8H:pV ["form"] ["form"] (pJ (top 54)):='3'
def z8C(T:Txt K mg):Callee P w K mg base "length_of" 3 1 A_:=
 Callee.self (qC (k:=2) T.d_length_of z8H '4' λf o_ A outer s H E hr=>
  ((qk (by delta Hc;walk_at "s"))))
def SU:DS:=
 (rG (j_ 3 K1 (b_ (a_ 0) (b_ (dC (.int 1)) (b_ (dC (.int 4)) d_)))))
def Eu:List D->Ow->R D:=(qv 1 SU)
def z57:pV ["n"] ["n"] (pJ (top 10)):='3'
def z50(T:Txt K mg):Callee P w K mg base "need_switches" 4 1 Eu:=
 Callee.self (qC (k:=3) T.d_need_switches z57 '4' λf o_ A outer s H E hr=>
  ((qk (by delta SU;walk_at "s"))))
def z7d:DS:=
 (n_ (pS (uG (qQ (qo (uq "tuple" (a_ 0)))) (pA (yP KM v9 (pB qB (b_ (a_ 0) d_))))) (l_ (dC (.bl K7))) pU) (l_ (pB vm (b_ (qj K7 1 (qg (a_ 0)) (.one 1) [] [] (j_ 1 Ee (b_ (a_ 1) d_))) d_))))
def Es:List D->Ow->R D:=(qv 1 z7d)
def z6w:pV ["thing"] ["thing"] (pJ (top 16)):='3'
def z6n(T:Txt K mg):Callee P w K mg base "is_function" 4 1 Es:=
 Callee.self (qC (k:=3) T.d_is_function z6w '4' λf o_ A outer s H E hr=>
  (have x0:Nx ["answer"]:=⟨⟩;(qJ '2' (qk '2'))))
def Hz:DS:=
 (l_ (w9 (f_ (pC pT) (f_ qf (a_ 1) (a_ 2)) (dC (.str [45]))) (j_ 2 yq (b_ (a_ 0) (b_ (j_ 3 Aj (b_ (a_ 1) (b_ (a_ 2) (b_ (dC (.str [45])) d_)))) d_)))))
def En:List D->Ow->R D:=(qv 3 Hz)
def z68:pV ["function", "term", "switch"] ["function", "term", "switch"] (pJ (top 37)):='3'
def z5M(T:Txt K mg):Callee P w K mg base "can_widen_at" 4 3 En:=
 Callee.self (qC (k:=3) T.d_can_widen_at z68 '4' λf o_ A outer s H E hr=>
  ((qk (by delta Hz;walk_at "s"))))
def SV:DS:=
 (pS (qQ (qo (j_ 1 Es (b_ (a_ 0) d_)))) B_ pU)
def Ak:List D->Ow->R D:=(qv 1 SV)
def z5a:pV ["thing"] ["thing"] (pJ (top 17)):='3'
def z58(T:Txt K mg):Callee P w K mg base "need_function" 5 1 Ak:=
 Callee.self (qC (k:=4) T.d_need_function z5a '4' λf o_ A outer s H E hr=>
  ((qk (by delta SV;walk_at "s"))))
def Hr:DS:=
 (l_ (Dk (pB AJ (b_ (qj K7 1 (vp (b_ (pB qB (b_ (a_ 1) d_)) d_)) (.one 2) [] [] (j_ 3 En (b_ (a_ 0) (b_ (a_ 1) (b_ (a_ 2) d_))))) d_))))
def Eh:List D->Ow->R D:=(qv 2 Hr)
def z9b:pV ["function", "term"] ["function", "term"] (pJ (top 38)):='3'
def z99(T:Txt K mg):Callee P w K mg base "is_widest" 5 2 Eh:=
 Callee.self (qC (k:=4) T.d_is_widest z9b '4' λf o_ A outer s H E hr=>
  (have x0:Nx ["switch"]:=⟨⟩;(qk (by delta Hr;walk_at "s"))))
def Ew:DS:=
 (n_ (rG (j_ 1 Eu (b_ (a_ 0) d_))) (pS (qQ (qo (j_ 2 Am (b_ (a_ 0) (b_ (a_ 1) d_))))) B_ pU))
def CM:List D->Ow->R D:=(qv 2 Ew)
def z3K:pV ["n", "thing"] ["n", "thing"] (pJ (top 56)):='3'
def z3H(T:Txt K mg):Callee P w K mg base "need_rising_terms" 5 2 CM:=
 Callee.self (qC (k:=4) T.d_need_rising_terms z3K '4' λf o_ A outer s H E hr=>
  ((qJ '2' (qk '2'))))
def z8b:DS:=
 (n_ (rG (j_ 1 Ak (b_ (a_ 0) d_))) (l_ (qj K7 1 (qg (j_ 1 yS (b_ (j_ 1 CJ (b_ (a_ 0) d_)) d_))) (.one 1) [(qo (j_ 2 yq (b_ (a_ 0) (b_ (a_ 1) d_))))] [] (a_ 1))))
def Ek:List D->Ow->R D:=(qv 1 z8b)
def z7n:pV ["function"] ["function"] (pJ (top 36)):='3'
def z7w(T:Txt K mg):Callee P w K mg base "good_terms" 6 1 Ek:=
 Callee.self (qC (k:=5) T.d_good_terms z7n '4' λf o_ A outer s H E hr=>
  (have x0:Nx ["term"]:=⟨⟩;(qJ '2' (qk '2'))))
def Kx:DS:=
 (n_ (rG (j_ 1 Ak (b_ (a_ 0) d_))) (n_ (pS (qQ (qo (j_ 2 Am (b_ (j_ 1 CJ (b_ (a_ 0) d_)) (b_ (a_ 1) d_))))) (l_ (dC (.bl K7))) pU) (n_ (pS (qQ (qo (pB vm (b_ (qj K7 1 (qg (a_ 1)) (.one 2) [] [] (j_ 2 yq (b_ (a_ 0) (b_ (a_ 2) d_)))) d_)))) (l_ (dC (.bl K7))) pU) (l_ (pB vm (b_ (qj K7 1 (qg (j_ 2 CI (b_ (a_ 0) (b_ (dC (.int 1)) d_)))) (.one 2) [] [] (f_ (pC pT) (j_ 2 CO (b_ (a_ 1) (b_ (a_ 2) d_))) (w_ d_))) d_))))))
def A8:List D->Ow->R D:=(qv 2 Kx)
def zc4:pV ["function", "thing"] ["function", "thing"] (pJ (top 41)):='3'
def zcx(T:Txt K mg):Callee P w K mg base "is_form" 6 2 A8:=
 Callee.self (qC (k:=5) T.d_is_form zc4 '4' λf o_ A outer s H E hr=>
  (have x0:Nx ["term"]:=⟨⟩;have x1:Nx ["point"]:=⟨⟩;(qJ '2' (qJ '2' (qJ '2' (qk '2'))))))
def KH:DS:=
 (n_ (rG (j_ 1 Ak (b_ (a_ 0) d_))) (l_ (pB yO (b_ (qj K7 1 (qg (a_ 0)) (.one 1) [] [] (j_ 1 Hw (b_ (a_ 1) d_))) d_))))
def xu:List D->Ow->R D:=(qv 1 KH)
def z9X:pV ["function"] ["function"] (pJ (top 51)):='3'
def zax(T:Txt K mg):Callee P w K mg base "opposite" 6 1 xu:=
 Callee.self (qC (k:=5) T.d_opposite z9X '4' λf o_ A outer s H E hr=>
  (have x0:Nx ["answer"]:=⟨⟩;(qJ '2' (qk '2'))))
def K2:DS:=
 (n_ (rG (j_ 2 CM (b_ (a_ 0) (b_ (a_ 1) d_)))) (l_ (pB yO (b_ (qj K7 1 (vp (b_ (zN HC (a_ 0)) d_)) (.one 2) [] [] (zB (qo (j_ 2 CO (b_ (a_ 1) (b_ (a_ 2) d_)))) (dC (.int 1)) (dC (.int 0)))) d_))))
def CS:List D->Ow->R D:=(qv 2 K2)
def z4l:pV ["n", "terms"] ["n", "terms"] (pJ (top 57)):='3'
def z4v(T:Txt K mg):Callee P w K mg base "function_of_sum" 6 2 CS:=
 Callee.self (qC (k:=5) T.d_function_of_sum z4l '4' λf o_ A outer s H E hr=>
  (have x0:Nx ["point"]:=⟨⟩;(qJ '2' (qk '2'))))
def KR:DS:=
 (n_ (rG (j_ 2 CM (b_ (a_ 0) (b_ (a_ 1) d_)))) (n_ (pY 2 (wM (b_ (f_ Cf (dC (.str [45])) (a_ 0)) d_))) (n_ (vU (qg (a_ 1)) (.one 3) (n_ (pY 4 (qj K7 2 (qg (a_ 2)) (.one 5) [] (⟨(qg (j_ 1 Ei (b_ (a_ 3) d_))),(.one 6),[]⟩::[]) (j_ 2 DJ (b_ (a_ 5) (b_ (a_ 6) d_))))) (pY 2 (j_ 1 Eg (b_ (zS K7 1 (qg (a_ 4)) (.one 5) [(pA (f_ yJ (a_ 5) (dC .non)))] [] (a_ 5)) d_))))) (l_ (a_ 2)))))
def CH:List D->Ow->R D:=(qv 5 KR)
def z79:pV ["n", "terms", "wide", "clause", "met"] ["n", "terms"] (pJ (top 61)):='3'
def z81(T:Txt K mg):Callee P w K mg base "multiplied" 6 2 CH:=
 Callee.self (qC (k:=5) T.d_multiplied z79 '4' λf o_ A outer s H E hr=>
  (have x0:Nx ["term", "pick"]:=⟨⟩;have x1:Nx ["term"]:=⟨⟩;(qJ '2' (qJ '2' (qJ '2' (qk '2'))))))
def G4:DS:=
 (l_ (qj K7 1 (qg (j_ 1 Ek (b_ (a_ 0) d_))) (.one 1) [(tw (qo (j_ 2 Et (b_ (a_ 0) (b_ (a_ 1) d_)))) (qo (j_ 2 Eh (b_ (a_ 0) (b_ (a_ 1) d_)))))] [] (a_ 1)))
def Ai:List D->Ow->R D:=(qv 1 G4)
def zaa:pV ["function"] ["function"] (pJ (top 39)):='3'
def z9S(T:Txt K mg):Callee P w K mg base "greatest" 7 1 Ai:=
 Callee.self (qC (k:=6) T.d_greatest zaa '4' λf o_ A outer s H E hr=>
  (have x0:Nx ["term"]:=⟨⟩;(qk (by delta G4;walk_at "s"))))
def Hv:DS:=
 (l_ (j_ 2 A8 (b_ (j_ 1 xu (b_ (a_ 0) d_)) (b_ (a_ 1) d_))))
def Er:List D->Ow->R D:=(qv 2 Hv)
def z7f:pV ["function", "thing"] ["function", "thing"] (pJ (top 52)):='3'
def z7S(T:Txt K mg):Callee P w K mg base "is_product" 7 2 Er:=
 Callee.self (qC (k:=6) T.d_is_product z7f '4' λf o_ A outer s H E hr=>
  ((qk (by delta Hv;walk_at "s"))))
def HD:DS:=
 (l_ (j_ 1 xu (b_ (j_ 2 CS (b_ (a_ 0) (b_ (a_ 1) d_))) d_)))
def Ey:List D->Ow->R D:=(qv 2 HD)
def z38:pV ["n", "terms"] ["n", "terms"] (pJ (top 58)):='3'
def z37(T:Txt K mg):Callee P w K mg base "function_of_product" 7 2 Ey:=
 Callee.self (qC (k:=6) T.d_function_of_product z38 '4' λf o_ A outer s H E hr=>
  ((qk (by delta HD;walk_at "s"))))
def Hi:DS:=
 (l_ (A1 1 (qg (j_ 1 Ai (b_ (a_ 0) d_))) (.one 1) [] [] (a_ 1) (j_ 1 xw (b_ (a_ 1) d_))))
def Hm:List D->Ow->R D:=(qv 1 Hi)
def z6h:pV ["function"] ["function"] (pJ (top 46)):='3'
def z6m(T:Txt K mg):Callee P w K mg base "held_points" 8 1 Hm:=
 Callee.self (qC (k:=7) T.d_held_points z6h '4' λf o_ A outer s H E hr=>
  (have x0:Nx ["term"]:=⟨⟩;(qk (by delta Hi;walk_at "s"))))
def Hj(Pt:Nat):DS:=
 (l_ (qS Pt 1 2 (HA Pt) (b_ (j_ 1 Hm (b_ (a_ 0) d_)) (b_ (j_ 2 CI (b_ (a_ 0) (b_ (dC (.int 1)) d_))) d_))))
def Hg(Pt:Nat):List D->Ow->R D:=(vQ 2 1 Pt (Hj Pt))
def z6z:pV ["function", "<tab>"] ["function"] (pJ (top 47)):='3'
def z6l{c Pt:ae}(T:Txt K mg)(hT:xh K mg "covers" (top 44) c)(L:uJ mg base c Pt):oh P w K mg base "least_forms" 16 1 Pt (Hg Pt):=
 oh.self (FI (k:=15) (i:=1) (z := "<tab>") T.d_least_forms z6z rfl (zJ 'b') '4' λf o_ A outer s H E hr=>
  ((qk (by delta Hj;walk_at "s"))))
def Hs(Pt:Nat):DS:=
 (l_ (f_ qf (qS Pt 1 1 (Hg Pt) (b_ (a_ 0) d_)) (dC (.int 0))))
def xx(Pt:Nat):List D->Ow->R D:=(vQ 2 1 Pt (Hs Pt))
def z80:pV ["function", "<tab>"] ["function"] (pJ (top 48)):='3'
def z7Z{c Pt:ae}(T:Txt K mg)(hT:xh K mg "covers" (top 44) c)(L:uJ mg base c Pt):oh P w K mg base "least_form" 17 1 Pt (xx Pt):=
 oh.self (FI (k:=16) (i:=1) (z := "<tab>") T.d_least_form z80 rfl (zJ 'b') '4' λf o_ A outer s H E hr=>
  ((qk (by delta Hs;walk_at "s"))))
def CQ(Pt:Nat):DS:=
 (l_ (qS Pt 1 1 (xx Pt) (b_ (j_ 1 xu (b_ (a_ 0) d_)) d_)))
def yT(Pt:Nat):List D->Ow->R D:=(vQ 2 1 Pt (CQ Pt))
def z4Y:pV ["function", "<tab>"] ["function"] (pJ (top 53)):='3'
def z5c{c Pt:ae}(T:Txt K mg)(hT:xh K mg "covers" (top 44) c)(L:uJ mg base c Pt):oh P w K mg base "least_product" 18 1 Pt (yT Pt):=
 oh.self (FI (k:=17) (i:=1) (z := "<tab>") T.d_least_product z4Y rfl (zJ 'b') '4' λf o_ A outer s H E hr=>
  ((qk (by delta CQ;walk_at "s"))))
def KY(Pt:Nat):DS:=
 (n_ (pY 1 (qS Pt 3 1 (xx Pt) (b_ (a_ 0) d_))) (n_ (pY 2 (qS Pt 3 1 (yT Pt) (b_ (a_ 0) d_))) (n_ (pS (pA (f_ B1 (j_ 1 A_ (b_ (a_ 2) d_)) (j_ 1 A_ (b_ (a_ 1) d_)))) (l_ (tL (b_ (dC (.str [112,114,111,100,117,99,116,115])) (b_ (a_ 2) d_)))) pU) (l_ (tL (b_ (dC (.str [115,117,109,115])) (b_ (a_ 1) d_)))))))
def El(Pt:Nat):List D->Ow->R D:=(vQ 4 3 Pt (KY Pt))
def z5B:pV ["function", "by_sums", "by_products", "<tab>"] ["function"] (pJ (top 55)):='3'
def z5K{c Pt:ae}(T:Txt K mg)(hT:xh K mg "covers" (top 44) c)(L:uJ mg base c Pt):oh P w K mg base "shorter_side" 19 1 Pt (El Pt):=
 oh.self (FI (k:=18) (i:=3) (z := "<tab>") T.d_shorter_side z5B rfl (zJ 'b') '4' λf o_ A outer s H E hr=>
  ((qJ '2' (qJ '2' (qJ '2' (qk '2'))))))
def VJ(Pt:Nat):DS:=
 (n_ (vU (vp (b_ (pB AU (b_ (dC (.int 1)) (b_ (pB AN (b_ (pB qB (b_ (a_ 0) d_)) (b_ (dC (.int 4)) d_))) d_))) d_)) (.one 1) (n_ (pY 2 (j_ 2 Ep (b_ (a_ 0) (b_ (a_ 1) d_)))) (n_ (pY 3 (f_ rX (dC (.int 1)) (j_ 2 ux (b_ (a_ 2) (b_ (dC (.int 4)) d_))))) (n_ (pY 4 (j_ 3 CN (b_ (a_ 2) (b_ (a_ 3) (b_ (f_ (pC rq) (j_ 2 ux (b_ (a_ 2) (b_ (dC (.int 2)) d_))) (dC (.int 1))) d_))))) (n_ (pY 5 (j_ 1 xu (b_ (a_ 4) d_))) (n_ (Di 6 7 (b_ (qS Pt 10 1 (xx Pt) (b_ (a_ 4) d_)) (b_ (qS Pt 10 1 (yT Pt) (b_ (a_ 4) d_)) d_))) (n_ (pS (uG (pA (f_ (pC pT) (j_ 1 xu (b_ (a_ 5) d_)) (a_ 4))) (uG (pA (f_ (pC pT) (qS Pt 10 1 (xx Pt) (b_ (a_ 5) d_)) (a_ 7))) (pA (f_ (pC pT) (qS Pt 10 1 (yT Pt) (b_ (a_ 5) d_)) (a_ 6))))) (l_ (dC (.bl K7))) pU) (n_ (pS (uG (pA (f_ zW (j_ 2 Er (b_ (a_ 4) (b_ (a_ 7) d_))) (dC (.bl KM)))) (pA (f_ zW (j_ 2 A8 (b_ (a_ 5) (b_ (a_ 7) d_))) (dC (.bl KM))))) (l_ (dC (.bl K7))) pU) (n_ (pS (qQ (qo (j_ 2 Bc (b_ (a_ 4) (b_ (j_ 2 CS (b_ (a_ 3) (b_ (a_ 6) d_))) d_))))) (l_ (dC (.bl K7))) pU) (n_ (pS (qQ (qo (j_ 2 Bc (b_ (a_ 4) (b_ (j_ 2 Ey (b_ (a_ 3) (b_ (a_ 7) d_))) d_))))) (l_ (dC (.bl K7))) pU) (n_ (Df (.two 8 9) (qS Pt 10 1 (El Pt) (b_ (a_ 4) d_))) (n_ (pS (pA (f_ (pC pT) (a_ 9) (Dr [115,117,109,115] [112,114,111,100,117,99,116,115] (a_ 6) (a_ 7) (a_ 8)))) (l_ (dC (.bl K7))) pU) (n_ (pS (pA (f_ (pC pT) (pB Ce (b_ (tL (b_ (pB qB (b_ (a_ 6) d_)) (b_ (j_ 1 tD (b_ (a_ 6) d_)) d_))) (b_ (tL (b_ (pB qB (b_ (a_ 7) d_)) (b_ (j_ 1 tD (b_ (a_ 7) d_)) d_))) d_))) (tL (b_ (pB qB (b_ (a_ 9) d_)) (b_ (j_ 1 tD (b_ (a_ 9) d_)) d_))))) (l_ (dC (.bl K7))) pU) (pS (tw (pA (f_ vP (dC .non) (a_ 4))) (pA (f_ (pC pT) (j_ 2 CH (b_ (a_ 3) (b_ (a_ 7) d_))) (j_ 1 Ai (b_ (a_ 4) d_))))) (l_ (dC (.bl K7))) pU)))))))))))))) (l_ (dC (.bl KM))))
def F_law(Pt:Nat):List D->Ow->R D:=vQ 11 10 Pt (VJ Pt)
def XG:pV ["_law_script", "_law_k", "_law_state_here", "_law_n", "_law_function_here", "_law_other", "_law_form", "_law_product", "_law_word", "_law_terms", "<tab>"] ["_law_script"] (pJ (top 68)):='3'
def XQ{f c Pt:ae}{fd:eD}(hF:L2.Fun K "law" "law" (top 68) f fd)(T:Txt K mg)(hT:xh K mg "covers" (top 44) c)(L:uJ mg base c Pt):oB P w K mg base w6 20 f fd ["_law_script"] (yI K yC 1 Pt (F_law Pt)):=
 Va (k:=19) (i:=10) (z := "<tab>") hF XG rfl (zJ 'b') λo_ A outer s H E hr=>
  ((qJ '2' (qk '2')))
def VQ{f c Pt:ae}{a:eD}(b:L2.Fun K "law" "law" (top 68) f a)(d:xh K mg "covers" (top 44) c)(T:Txt K mg)(L:uJ mg base c Pt):oB P w K mg base w6 20 f a ["_law_script"] (yI K yC 1 Pt (F_law Pt)):=
 XQ b T d L
end
def fa_mk{K:ai}{h:aX}{mg:Str->Option ab}(X:K.In h)(G:h.Ns bI mg){n:Str}{st:eJ}{f:ae}{c d:Option ae}{sl:Array (Option ab)}{e g i j m b:ab}(a:gu K bI n=KB (KB (.ref f)))
  (l:K.lookup f=KB ⟨e,c,.func (cF n n (xp st) (uK st) (pJ st) .none g i j d b m),sl⟩) (q:fh K b n=KM) (k:cZ K (.ref f)=KM):qd K mg n st:=⟨f,_,gO X G a,Jt l q k⟩
def gs_mk{K:ai}{h:aX}{mg:Str->Option ab}(X:K.In h)(G:h.Ns bI mg){n:Str}{cs:List Nat}{t:Tok}(s:gu K bI n=KB (KB (.str ⟨cs.toArray⟩ t))):IS mg n cs:=⟨_,gO X G s⟩
def gi_mk{K:ai}{h:aX}{mg:Str->Option ab}(X:K.In h)(G:h.Ns bI mg){n:Str}{i:Int}{t:Tok}(s:gu K bI n=KB (KB (.int i t))):IU mg n i:=⟨_,gO X G s⟩
def gt_mk{K:ai}{h:aX}{mg:Str->Option ab}(X:K.In h)(G:h.Ns bI mg){n:Str}{a:List (Int×Int)}{e:ae}{o:Obj}(d:gu K bI n=KB (KB (.ref e)))(u:K.lookup e=KB o)(v:F5 o a=KM)(y:(e==sysModules)=K7):zL K mg n a:=⟨_,_,gO X G d,u,v,y⟩
def all_mk{P:aN}{w:aY}{K:ai}{h:aX}{mg:Str->Option ab}{A:ae}(X:K.In h)(G:h.Ns bI mg)(n:mg "law" = KB (.ref A))(T:Txt K mg)
  {f:ae} {M B:Option ae} {sl:Array (Option ab)} {N C D E F:ab} {o:ab} (a:gu K bI "law" = KB (KB (.ref f)))
  (l:K.lookup f=KB ⟨N,M,.func (cF "law" "law" (xp (top 68)) (uK (top 68)) (pJ (top 68)) .none C D E B o F),sl⟩) (q:fh K o "law" = KM) (k:cZ K (.ref f)=KM)
  {m:ae} {p r:Option ae} {O:Array (Option ab)} {t v x y z:ab} {d:ae} (H:gu K bI "covers" = KB (KB (.ref m)))
  (I:K.lookup m=KB ⟨t,p,.func (cF "covers" "covers" (xp (top 44)) (uK (top 44)) (pJ (top 44)) .none v x y r (.ref d) z),O⟩) (Q:fh K (.ref d) "covers" = KM) (R:cZ K (.ref m)=KM)
  {Pt:ae} {g:ab} {i:Option ae} {j:Array (Option ab)} {b:Array ab} (S:K.lookup d=KB ⟨g,i,.fields b,j⟩) (U:b[11]?=KB (.ref Pt)) (V:jb K=KM)
  : jb K=KM/\∃(c Pt:ae),jx K "covers" = KB (c,Pt)/\∃J:eD,(∀(s:ag)(u:ab),kM s J ⟨[u],[]⟩ [("_law_script",u)])/\∀base:aX,K.In base->base.Ns bI mg->uJ mg base c Pt->oB P w K mg base w6 20 A J ["_law_script"] (yI K yC 1 Pt (F_law Pt)):=by have W:L2.Fun K "law" "law" (top 68) f (cF "law" "law" (xp (top 68)) (uK (top 68)) (pJ (top 68)) .none C D E B o F):=Jt l q k;have e:=n.symm.trans (gO X G a);cases e;have Y:xh K mg "covers" (top 44) d:=⟨m,_,gO X G H,Jt I Q R,rfl⟩;exact⟨V,d,Pt,XD H I S U,_,λs u=>.of_eq rfl,λbase Z nb L=>VQ W Y T L⟩
end K54
-- UL 20
namespace K54
open PySem DL
def YP:Nat->List (List Nat)
 |0=>[[]]
 |n+1=>(YP n).flatMap λt=>[t++[45],t++[48],t++[49]]
noncomputable def XB:Nat->List Nat
 |45=>[0,1]
 |49=>[1]
 |_=>[0]
def pM(cs:List Nat):List Nat:=cs.foldl (λps c=>ps.flatMap λp=>(XB c).map (2*p + ·)) [0]
def ur(l:List Nat):List D:=l.map λ(p:Nat)=>D.int (p:Int)
def ou:List (List Nat):=YP 1++YP 2++YP 3++YP 4
def Zv(O:Ow):(ou.map λcs=>xw [.str cs] O)=ou.map λcs=>R.ok (.lst (ur (pM cs))) O:=by kernel_rfl
def vt:Nat->Nat->List Nat
 |0,_=>[]
 |n+1,p=>vt n (p/2)++[48+p%2]
def pe:List (List Nat×Nat):=ou.flatMap λcs=>(aA (2 ^ cs.length)).map λp=>(cs,p)
def o6:List (Nat×Nat):=[1,2,3,4].flatMap λn=>(aA (2 ^ n)).map λp=>(n,p)
def Rb(b:1<=n)(c:n<=4)(a:p<2 ^ n):(n,p)∈o6:=by
 unfold o6;rw[fk];refine⟨n,?_,aB.mpr ⟨p,aR.mpr a,rfl⟩⟩;have:n=1\/n=2\/n=3\/n=4:=by lia
 rcases this with rfl|rfl|rfl|rfl<;>simp
def DM(cs bs:List Nat):Bool:=(aA cs.length).all λi=>cs.getD i 0==45||cs.getD i 0==bs.getD i 1
noncomputable def sgn(c:Nat):Bool:=c==45||c==48||c==49
def bit(c:Nat):Bool:=c==48||c==49
def RL:(pe.all λq=>DM q.1 (vt q.1.length q.2)==(pM q.1).contains q.2&&(vt q.1.length q.2).length==q.1.length&&(vt q.1.length q.2).all bit&&q.1.all sgn)=KM:=by decide +kernel
def zdn:(ou.all λcs=>decide ((aA (2 ^ cs.length)).filter (λp=>(pM cs).contains p)=pM cs))=KM:=by decide +kernel
def Qh(h:cs∈ou)(a:p<2 ^ cs.length):(cs,p)∈pe:=by unfold pe;rw[fk];exact⟨cs,h,aB.mpr ⟨p,aR.mpr a,rfl⟩⟩
def Ej(h:cs∈ou)(O:Ow):xw [.str cs] O=.ok (.lst (ur (pM cs))) O:=fT.mp (Zv O) cs h
def z7q(O:Ow):yS [.int 1] O=.ok (.lst ((YP 1).map .str)) O:=by kernel_rfl
def z7J(O:Ow):yS [.int 2] O=.ok (.lst ((YP 2).map .str)) O:=by kernel_rfl
def z7k(O:Ow):yS [.int 3] O=.ok (.lst ((YP 3).map .str)) O:=by kernel_rfl
def z7N(O:Ow):yS [.int 4] O=.ok (.lst ((YP 4).map .str)) O:=by kernel_rfl
def zp3(O:Ow)(a:sgn c=KM)(d:bit b=KM):vP O (.str [c]) (.tup [.str [45],.str [b]])=.ok (.bl (!(c==45||c==b))) O:=by unfold sgn at a;unfold bit at d;simp only[cz,beq_iff_eq] at a d;rcases a with(rfl|rfl)|rfl<;>rcases d with rfl|rfl<;>kernel_rfl
def uF(d:D):Prop:=d=.int 0\/d=.int 1\/d=.non
def vG:D->Bool
 |.int i=>i==0
 |_=>K7
structure Fn(n:Nat)(f:List D):Prop where
 n1:1<=n
 n4:n<=4
 len:f.length=2 ^ n
 ans:∀d∈f,uF d
def sX(f:List D)(cs:List Nat):Bool:=(pM cs).all λp=>!vG (f.getD p .non)
def ne0(O:Ow)(h:uF d):pC pT O d (.int 0)=.ok (.bl (!vG d)) O:=by rcases h with rfl|rfl|rfl<;>kernel_rfl
def vV(a:1<=n)(b:n<=4):n=1\/n=2\/n=3\/n=4:=by lia
def t5(a:1<=n)(b:n<=4)(h:cs∈YP n):cs∈ou:=by unfold ou;rcases vV a b with rfl|rfl|rfl|rfl<;>simp[h]
def z7M:([1,2,3,4].all λn=>(YP n).all λcs=>cs.length==n)=KM:=by decide +kernel
def qW(a:1<=n)(b:n<=4)(h:cs∈YP n):cs.length=n:=by have:=ak.mp z7M n (by rcases vV a b with rfl|rfl|rfl|rfl<;>simp);simpa using ak.mp this cs h
def zc2:(ou.all λcs=>(pM cs).all λp=>decide (p<2 ^ cs.length))=KM:=by decide +kernel
def Jo(h:cs∈ou)(a:p∈pM cs):p<2 ^ cs.length:=by have:=ak.mp zc2 cs h;simpa using ak.mp this p a
def z9M:(ou.all λcs=>decide ((pM cs).length<=16))=KM:=by decide +kernel
def PU(h:cs∈ou):(pM cs).length<=16:=by simpa using ak.mp z9M cs h
theorem Pj:∀l:List Bool,wC (l.map D.bl)=KB l
 |[]=>rfl
 | b::l=>by
  show(wC (l.map D.bl)).map (b :: ·)=_;rw[Pj l];rfl
def QD(O:Ow)(l:List Bool):vm O [.lst (l.map D.bl)]=.ok (.bl (l.all id)) O:=by show(match wC (l.map D.bl) with|some bs=>R.ok (D.bl (bs.all id)) O|none=>R.bad)=_;rw[Pj]
def v8{f:List D}{p:Nat}(h:p<f.length):f.getD p .non=f[p]:=by rw[aG,ao h];rfl
def Sw{α:Type}(l:List α):l.filter (λ_=>KM)=l:=by simp
def Kh{n:Nat}{f:List D}(a:Fn n f){cs:List Nat}(h:cs∈YP n)(O:Ow):yq [.tup f,.str cs] O=.ok (.bl (sX f cs)) O:=by
 have b:=t5 a.n1 a.n4 h;have l:=qW a.n1 a.n4 h;have c:qg (j_ 1 xw (b_ (a_ 1) d_)) [KB (.tup f),KB (.str cs)] O=.ok (.val (ur (pM cs))) O:=vC ((uw (pD rfl) rfl).trans (Ej b O));have j:=KA (ext:=1) (i:=2) (ts:=[]) (te:=f_ (pC pT) (f_ qf (a_ 0) (a_ 2)) (dC (.int 0))) (p:=λ_=>KM) (e:=λd=>.bl (match d with|.int i=>!vG (f.getD i.toNat .non)|_=>K7)) c (by unfold ur;have:=PU b;simp;lia) (λd k=>rfl) (λd k _=>by
  obtain⟨q,m,rfl⟩:=aB.mp k;have g:q<f.length:=by rw[a.len,<- l];exact Jo b m
  refine(qG ((qG rfl rfl).trans (JH (i:=q) g)) rfl).trans ((ne0 O (a.ans _ (cr g))).trans ?_);have:((q:Int)).toNat=q:=by lia
  show _=R.ok (D.bl (!vG (f.getD ((q:Int)).toNat .non))) O;rw[this,v8 g]) K7
 have o:(((ur (pM cs)).filter λ_=>KM).map λd=>D.bl (match d with|.int i=>!vG (f.getD i.toNat .non)|_=>K7))=((pM cs).map λp=>!vG (f.getD p .non)).map D.bl:=by
  rw[Sw];unfold ur;rw[bg,bg];exact dS λq _=>by
   show D.bl (!vG (f.getD ((q:Int)).toNat .non))=D.bl (!vG (f.getD q .non));have:((q:Int)).toNat=q:=by lia
   rw[this]
 rw[o] at j;show fin (l_ _ [KB (.tup f),KB (.str cs)] O)=_;rw[rL ((uL (pD j)).trans (QD O _))];show R.ok (D.bl _) O=_;unfold sX;congr 2;rw[l9];rfl
def ze8(O:Ow)(h:uF d):Ee [d] O=.ok (.bl KM) O:=by rcases h with rfl|rfl|rfl<;>kernel_rfl
def Ag{n:Nat}(a:n<=4):2 ^ n<=16:=aM (i3 'u' a) 'u'
def Kc(O:Ow)(f:List D):qB O [.tup f]=.ok (.int f.length) O:=rfl
def z6o(a:Fn n f)(O:Ow):Es [.tup f] O=.ok (.bl KM) O:=by
 have b:=KA (ext:=1) (i:=1) (ts:=[]) (te:=j_ 1 Ee (b_ (a_ 1) d_)) (it0:=qg (a_ 0)) (σ:=[KB (.tup f)]) (O:=O) (ds:=f) (p:=λ_=>KM) (e:=λ_=>.bl KM) rfl (by have:=Ag a.n4;have:=a.len;lia) (λd c=>rfl) (λd c _=>(uw (pD rfl) rfl).trans (ze8 O (a.ans d c))) K7;have g:(f.filter λ_=>KM).map (λ_=>D.bl KM)=(f.map λ_=>KM).map D.bl:=by rw[Sw,bg];rfl
 rw[g] at b;have h:pS (uG (qQ (qo (uq "tuple" (a_ 0)))) (pA (yP KM v9 (pB qB (b_ (a_ 0) d_))))) (l_ (dC (.bl K7))) pU [KB (.tup f)] O=.nx [KB (.tup f)] O:=by
  have:uG (qQ (qo (uq "tuple" (a_ 0)))) (pA (yP KM v9 (pB qB (b_ (a_ 0) d_)))) [KB (.tup f)] O=.ok K7 O:=by
   show(pA (yP KM v9 (pB qB (b_ (a_ 0) d_))) [KB (.tup f)] O)=_;refine qV ?_;show R.ok (D.bl (if KM=KM then !(tV v9 (f.length:Nat)).isSome else _)) O=_;rw[a.len];rcases vV a.n1 a.n4 with rfl|rfl|rfl|rfl<;>rfl
  rw[tZ this];rfl
 show fin (n_ _ _ [KB (.tup f)] O)=_;rw[sE h,rL ((uL (pD b)).trans (QD O _))];show R.ok (D.bl _) O=_;congr 2;rw[l9];exact ak.mpr λ_ _=>rfl
def JL{n:Nat}{f:List D}(a:Fn n f)(O:Ow):Ak [.tup f] O=.ok .non O:=by show fin (pS _ _ pU [KB (.tup f)] O)=_;have b:j_ 1 Es (b_ (a_ 0) d_) [KB (.tup f)] O=.ok (.bl KM) O:=(uw (pD rfl) rfl).trans (z6o a O);rw[tZ (uZ (uY b))];rfl
def Sv{n:Nat}{f:List D}(a:Fn n f)(O:Ow):CJ [.tup f] O=.ok (.int n) O:=by
 show fin (l_ (zN v9 (pB qB (b_ (a_ 0) d_))) [KB (.tup f)] O)=_;have:zN v9 (pB qB (b_ (a_ 0) d_)) [KB (.tup f)] O=.ok (.int n) O:=by
  show(match tV v9 (f.length:Nat) with|some v=>R.ok (D.int v) O|none=>R.bad)=_;rw[a.len];rcases vV a.n1 a.n4 with rfl|rfl|rfl|rfl<;>rfl
 rw[rL this];rfl
def Kt(a:1<=n)(b:n<=4):(YP n).length<=81:=by rcases vV a b with rfl|rfl|rfl|rfl<;>decide
def tM(n:Nat)(f:List D):List (List Nat):=(YP n).filter (sX f)
def yb:D->List Nat
 |.str cs=>cs
 |_=>[]
def zck(l:List (List Nat))(p:List Nat->Bool):((l.map D.str).filter λd=>p (yb d)).map (λd=>d)=(l.filter p).map D.str:=by rw[mj,kz];rfl
def z9a{n:Nat}(a:1<=n)(b:n<=4)(O:Ow):yS [.int n] O=.ok (.lst ((YP n).map .str)) O:=by
 rcases vV a b with rfl|rfl|rfl|rfl
 ·exact z7q O
 ·exact z7J O
 ·exact z7k O
 ·exact z7N O
def z7v(a:Fn n f)(O:Ow):Ek [.tup f] O=.ok (.lst ((tM n f).map .str)) O:=by
 have c:qg (j_ 1 yS (b_ (j_ 1 CJ (b_ (a_ 0) d_)) d_)) [KB (.tup f)] O=.ok (.val ((YP n).map .str)) O:=
  vC ((uw (pD ((uw (pD rfl) rfl).trans (Sv a O))) rfl).trans (z9a a.n1 a.n4 O))
 have g:=KA (ext:=1) (i:=1) (ts:=[(qo (j_ 2 yq (b_ (a_ 0) (b_ (a_ 1) d_))))]) (te:=a_ 1) (p:=λd=>sX f (yb d)) (e:=λd=>d) c (by have:=Kt a.n1 a.n4;simp;lia) (λd h=>by
  obtain⟨b,j,rfl⟩:=aB.mp h;have k:qo (j_ 2 yq (b_ (a_ 0) (b_ (a_ 1) d_))) [KB (.tup f),KB (.str b)] O=.ok (sX f b) O:=uY ((uw (qe rfl rfl) rfl).trans (Kh a j O));show((qo (j_ 2 yq (b_ (a_ 0) (b_ (a_ 1) d_))) [KB (.tup f),KB (.str b)] O).bnd _)=R.ok (sX f b) O;rw[k];cases sX f b<;>rfl) (λd h _=>rfl) K7
 rw[zck] at g;show fin (n_ (rG (j_ 1 Ak (b_ (a_ 0) d_))) _ [KB (.tup f)] O)=_;have l:j_ 1 Ak (b_ (a_ 0) d_) [KB (.tup f)] O=.ok .non O:=(uw (pD rfl) rfl).trans (JL a O);rw[sE (Cy l),rL g];rfl
structure oK(O:Ow)(m:Nat)(s:Int)(b:Bool):Prop where
 at_:O[m]?=KB [.int s,.bl b]
 nn:0<=s
 lt:b=K7->s<2147483647
def oK.len(h:oK O m s b):m<O.length:=(ar.mp h.at_).1
def GP(h:O[m]?=KB [x,y]):qf O (.own m) (.int 0)=.ok x O:=by show(match O[m]? with|some ds=>(match L2.atI ds 0 with|some d=>R.ok d O|none=>R.bad)|none=>_)=_;rw[h];rfl
def QS(h:O[m]?=KB [x,y]):qf O (.own m) (.int 1)=.ok y O:=by show(match O[m]? with|some ds=>(match L2.atI ds 1 with|some d=>R.ok d O|none=>R.bad)|none=>_)=_;rw[h];rfl
def PM(a:te σ O=.ok y O1)(b:to σ O1=.ok (.own k) O2)(c:ti σ O2=.ok (.int i) O3)(d:O3[k]?=KB ds)(e:L2.ixN ds.length i=KB j):
  yE te to ti σ O=.nx σ (O3.set k (ds.set j y)):=by show((te σ O).bnS _)=_;rw[a];show((to σ O1).bnS _)=_;rw[b];show((ti σ O2).bnS _)=_;rw[c];show(match O3[k]? with|some ds=>(match L2.ixN ds.length i with|some j=>RS.nx σ (O3.set k (ds.set j y))|none=>RS.bad)|none=>RS.bad)=_;rw[d];show(match L2.ixN ds.length i with|some j=>RS.nx σ (O3.set k (ds.set j y))|none=>RS.bad)=_;rw[e]
def Cm(h:0<j):fI tK O (.int i) (.int j)=.ok (.int (i%j)) O:=by show(match tK i j with|some d=>R.ok d O|none=>R.bad)=_;unfold tK;rw[qb h]
def Oa(h:0<j)(a:j<1073741824):fI wL O (.int i) (.int j)=.ok (.int (i/j)) O:=by show(match wL i j with|some d=>R.ok d O|none=>R.bad)=_;unfold wL;rw[qb ⟨h,a⟩]
def Cv(h:-1000000000000000<i)(a:i<1000000000000000):fI tS O (.int i) (.int j)=.ok (.int (i*j)) O:=by show(match tS i j with|some d=>R.ok d O|none=>R.bad)=_;unfold tS;rw[qb (.inl ⟨h,a⟩)]
def D6:rX O (.int i) (.int j)=.ok (.int (i+j)) O:=rfl
def DQ(h:oK O m s b)(H:1<=k)(I:k<=1000):
  ∃(r:Nat)(d:Int),r<k/\ux [.own m,.int k] O=.ok (.int r) (O.set m [.int d,.bl b])/\oK (O.set m [.int d,.bl b]) m d b:=by
 have f:(0:Int)<(k:Int):=by lia
 have g:∀d,(O.set m [.int d,.bl b])[m]?=KB [D.int d,D.bl b]:=λd=>by rw[bw h.len]
 have A:∀x:Int,∃r:Nat,r<k/\x%(k:Int)=(r:Int):=λx=>by
  have J:=i4 x (show(k:Int)≠0 by lia);have K:=hW x f;exact⟨(x%(k:Int)).toNat,by lia,by lia⟩
 cases b with
 | true=>
  obtain⟨r,i,l⟩:=A s;refine⟨r,s/k,i,?_,g _,Int.ediv_nonneg h.nn 'd',λz=>by cases z⟩;have n:qo (f_ qf (a_ 0) (dC (.int 1))) [KB (.own m),KB (.int k),KF,KF] O=.ok KM O:=uY ((qG rfl rfl).trans (QS h.at_));have o:pY 2 (f_ (fI tK) (f_ qf (a_ 0) (dC (.int 0))) (a_ 1)) [KB (.own m),KB (.int k),KF,KF] O=.nx [KB (.own m),KB (.int k),KB (.int r),KF] O:=by
   rw[A4 ((qG ((qG rfl rfl).trans (GP h.at_)) rfl).trans (Cm f)),l];rfl
  have p:yE (f_ (fI wL) (f_ qf (a_ 0) (dC (.int 0))) (a_ 1)) (a_ 0) (dC (.int 0)) [KB (.own m),KB (.int k),KB (.int r),KF] O=.nx [KB (.own m),KB (.int k),KB (.int r),KF] (O.set m [.int (s/k),.bl KM]):=
   PM (ds:=[.int s,.bl KM]) (j:=0) ((qG ((qG rfl rfl).trans (GP h.at_)) rfl).trans (Oa f 'd')) rfl rfl h.at_ rfl
  show fin (n_ (pS _ _ _) _ [KB (.own m),KB (.int k),KF,KF] O)=_;have q:pS (qo (f_ qf (a_ 0) (dC (.int 1)))) (n_ (pY 2 (f_ (fI tK) (f_ qf (a_ 0) (dC (.int 0))) (a_ 1))) (n_ (yE (f_ (fI wL) (f_ qf (a_ 0) (dC (.int 0))) (a_ 1)) (a_ 0) (dC (.int 0))) (l_ (a_ 2)))) pU [KB (.own m),KB (.int k),KF,KF] O=.rt (.int r) (O.set m [.int (s/k),.bl KM]):=by
   rw[tZ n,qb rfl,sE o,sE p];rfl
  rw[A3 q];rfl
 | false=>
  have L:=h.lt rfl;let a:Int:=(s*48271+29)%2147483647;have t:0<=a:=i4 _ 'u';have u:a<2147483647:=hW _ 'u';let c:=O.set m [.int a,.bl K7];have B:c[m]?=KB [D.int a,D.bl K7]:=g a;let e:Int:=(a*a+39373*a+7)%2147483629;have C:0<=e:=i4 _ 'u';have E:e<2147483629:=hW _ 'u';let v:Int:=(e*e+16807*e)%2147483587;have n:qo (f_ qf (a_ 0) (dC (.int 1))) [KB (.own m),KB (.int k),KF,KF] O=.ok K7 O:=uY ((qG rfl rfl).trans (QS h.at_));have F:pS (qo (f_ qf (a_ 0) (dC (.int 1)))) (n_ (pY 2 (f_ (fI tK) (f_ qf (a_ 0) (dC (.int 0))) (a_ 1))) (n_ (yE (f_ (fI wL) (f_ qf (a_ 0) (dC (.int 0))) (a_ 1)) (a_ 0) (dC (.int 0))) (l_ (a_ 2)))) pU [KB (.own m),KB (.int k),KF,KF] O=.nx [KB (.own m),KB (.int k),KF,KF] O:=by
   rw[tZ n];rfl
  have o:yE (f_ (fI tK) (f_ rX (f_ (fI tS) (f_ qf (a_ 0) (dC (.int 0))) (dC (.int 48271))) (dC (.int 29))) (dC (.int 2147483647))) (a_ 0) (dC (.int 0)) [KB (.own m),KB (.int k),KF,KF] O=.nx [KB (.own m),KB (.int k),KF,KF] c:=
   PM (ds:=[.int s,.bl K7]) (j:=0) ((qG ((qG ((qG ((qG rfl rfl).trans (GP h.at_)) rfl).trans (Cv (by have:=h.nn;lia) 'd')) rfl).trans D6) rfl).trans (Cm 'u')) rfl rfl h.at_ rfl
  have y:∀z w,f_ qf (a_ 0) (dC (.int 0)) [KB (.own m),KB (.int k),z,w] c=.ok (.int a) c:=λz w=>(qG rfl rfl).trans (GP B);have p:pY 3 (f_ (fI tK) (f_ rX (f_ rX (f_ (fI tS) (f_ qf (a_ 0) (dC (.int 0))) (f_ qf (a_ 0) (dC (.int 0)))) (f_ (fI tS) (dC (.int 39373)) (f_ qf (a_ 0) (dC (.int 0))))) (dC (.int 7))) (dC (.int 2147483629))) [KB (.own m),KB (.int k),KF,KF] c=.nx [KB (.own m),KB (.int k),KF,KB (.int e)] c:=
   A4 ((qG ((qG ((qG ((qG (y KF KF) (y KF KF)).trans (Cv 'd' 'd')) ((qG rfl (y KF KF)).trans (Cv 'u' 'u'))).trans D6) rfl).trans D6) rfl).trans (Cm 'u'))
  have q:pY 3 (f_ (fI tK) (f_ rX (f_ (fI tS) (a_ 3) (a_ 3)) (f_ (fI tS) (dC (.int 16807)) (a_ 3))) (dC (.int 2147483587))) [KB (.own m),KB (.int k),KF,KB (.int e)] c=.nx [KB (.own m),KB (.int k),KF,KB (.int v)] c:=
   A4 ((qG ((qG ((qG rfl rfl).trans (Cv 'd' 'd')) ((qG rfl rfl).trans (Cv 'u' 'u'))).trans D6) rfl).trans (Cm 'u'))
  obtain⟨r,i,l⟩:=A (v/8);refine⟨r,a,i,?_,g _,t,λ_=>u⟩;have G:l_ (f_ (fI tK) (f_ (fI wL) (a_ 3) (dC (.int 8))) (a_ 1)) [KB (.own m),KB (.int k),KF,KB (.int v)] c=.rt (.int r) c:=by
   rw[rL ((qG ((qG rfl rfl).trans (Oa 'u' 'u')) rfl).trans (Cm f)),l]
  show fin (n_ _ _ [KB (.own m),KB (.int k),KF,KF] O)=_;rw[sE F,sE o,sE p,sE q,G];rfl
def zhl{ns:List Int}{k:Nat}(O:Ow):∃s b,Ep [.lst (ns.map .int),.int k] O=.ok (.own O.length) (O++[[.int s,.bl b]])/\oK (O++[[.int s,.bl b]]) O.length s b:=by
 have f:∀s b,(O++[[D.int s,D.bl b]])[O.length]?=KB [D.int s,D.bl b]:=λs b=>by simp
 obtain⟨c,l⟩:∃c:Int,Eo [.lst (ns.map .int),.int k] O=.ok (.int c) O:=by
  have d:pA (f_ wZ (a_ 1) (pB qB (b_ (a_ 0) d_))) [KB (.lst (ns.map .int)),KB (.int k)] O=.ok (decide ((k:Int)<(ns.map D.int).length)) O:=qV ((qG rfl ((uL (pD rfl)).trans rfl)).trans rfl);by_cases g:(k:Int)<(ns.map D.int).length
  ·have e:k<(ns.map D.int).length:=by lia
   have m:f_ qf (a_ 0) (a_ 1) [KB (.lst (ns.map .int)),KB (.int k)] O=.ok (ns.map D.int)[k] O:=(qG rfl rfl).trans (Pq e);refine⟨ns[k]'(by simpa using e),?_⟩;show fin (n_ _ _ [KB (.lst (ns.map .int)),KB (.int k)] O)=_;have a:pS (pA (f_ wZ (a_ 1) (pB qB (b_ (a_ 0) d_)))) (l_ (f_ qf (a_ 0) (a_ 1))) pU [KB (.lst (ns.map .int)),KB (.int k)] O=.rt (.int (ns[k]'(by simpa using e))) O:=by
    rw[tZ d,qb (decide_eq_true g),rL m];simp
   rw[A3 a];rfl
  ·refine⟨0,?_⟩;show fin (n_ _ _ [KB (.lst (ns.map .int)),KB (.int k)] O)=_;have a:pS (pA (f_ wZ (a_ 1) (pB qB (b_ (a_ 0) d_)))) (l_ (f_ qf (a_ 0) (a_ 1))) pU [KB (.lst (ns.map .int)),KB (.int k)] O=.nx [KB (.lst (ns.map .int)),KB (.int k)] O:=by
    rw[tZ d,qq (by simpa using g)];rfl
   rw[sE a];rfl
 have h:pY 2 (j_ 2 Eo (b_ (a_ 0) (b_ (a_ 1) d_))) [KB (.lst (ns.map .int)),KB (.int k),KF] O=.nx [KB (.lst (ns.map .int)),KB (.int k),KB (.int c)] O:=A4 ((uw (qe rfl rfl) rfl).trans l);have i:∀σ,f_ (fI xf) (dC (.int 10)) (dC (.int 18)) σ O=.ok (.int 1000000000000000000) O:=λσ=>by
  refine(qG (σ:=σ) (O:=O) rfl rfl).trans ?_;kernel_rfl
 have d:pA (f_ BR (a_ 2) (f_ (fI xf) (dC (.int 10)) (dC (.int 18)))) [KB (.lst (ns.map .int)),KB (.int k),KB (.int c)] O=.ok (decide ((1000000000000000000:Int)<=c)) O:=qV ((qG rfl (i _)).trans rfl);by_cases j:(1000000000000000000:Int)<=c
 ·refine⟨c-1000000000000000000,KM,?_,f _ _,by lia,λz=>by cases z⟩;have a:pS (pA (f_ BR (a_ 2) (f_ (fI xf) (dC (.int 10)) (dC (.int 18))))) (l_ (wM (b_ (f_ (fI wJ) (a_ 2) (f_ (fI xf) (dC (.int 10)) (dC (.int 18)))) (b_ (dC (.bl KM)) d_)))) pU [KB (.lst (ns.map .int)),KB (.int k),KB (.int c)] O=.rt (.own O.length) (O++[[.int (c-1000000000000000000),.bl KM]]):=by
   rw[tZ d,qb (decide_eq_true j)];refine rL ?_;show((b_ _ _ _ O).bnd _)=_;rw[qe ((qG rfl (i _)).trans rfl) rfl];rfl
  show fin (n_ _ _ [KB (.lst (ns.map .int)),KB (.int k),KF] O)=_;rw[sE h,A3 a];rfl
 ·refine⟨c%2147483647,K7,?_,f _ _,i4 _ 'u',λ_=>hW _ 'u'⟩;have a:pS (pA (f_ BR (a_ 2) (f_ (fI xf) (dC (.int 10)) (dC (.int 18))))) (l_ (wM (b_ (f_ (fI wJ) (a_ 2) (f_ (fI xf) (dC (.int 10)) (dC (.int 18)))) (b_ (dC (.bl KM)) d_)))) pU [KB (.lst (ns.map .int)),KB (.int k),KB (.int c)] O=.nx [KB (.lst (ns.map .int)),KB (.int k),KB (.int c)] O:=by
   rw[tZ d,qq (by simpa using j)];rfl
  show fin (n_ _ _ [KB (.lst (ns.map .int)),KB (.int k),KF] O)=_;rw[sE h,sE a];have n:wM (b_ (f_ (fI tK) (a_ 2) (dC (.int 2147483647))) (b_ (dC (.bl K7)) d_)) [KB (.lst (ns.map .int)),KB (.int k),KB (.int c)] O=.ok (.own O.length) (O++[[.int (c%2147483647),.bl K7]]):=by
   show((b_ _ _ _ O).bnd _)=_;rw[qe ((qG rfl rfl).trans (Cm 'u')) rfl];rfl
  rw[rL n];rfl
def zfS(h:vO O)(m:Nat)(s:Int)(b:Bool):vO (O.set m [.int s,.bl b]):=by
 intro c e d a;rw[el];rcases fX e with f|rfl
 ·exact h c f d a
 ·simp only[aq,aZ,or_false] at a;rcases a with rfl|rfl<;>rfl
def Kf(a:vO O')(X:Ow)(h:frz (O'++X) O'.length 8 d=KB d'):xb O'.length (.ok d (O'++X))=.ok d' O':=by
 unfold xb;dsimp only;rw[h];have:(O'++X).take O'.length=O':=by simp
 rw[this,z_ λc b=>z_ λd e=>Km (a c b d e)]
theorem D_:∀(n:Nat)(cs:List Nat),cs.length=n->(∀c∈cs,sgn c=KM)->cs∈YP n
 | 0,cs,h,_=>by
  have:cs=[]:=dI.mp h;subst this;simp[YP]
 | n+1,cs,h,hs=>by
  have b:cs≠[]:=by intro e;subst e;simp at h
  obtain⟨t,c,rfl⟩:∃t c,cs=t++[c]:=⟨_,_,(List.dropLast_concat_getLast b).symm⟩;have d:=D_ n t (by simpa using h) λc f=>hs c (bV _ f);unfold YP;rw[fk];refine⟨t,d,?_⟩;have a:=hs c 'k';unfold sgn at a;simp only[cz,beq_iff_eq] at a;rcases a with(z|z)|z<;>rw[z]<;>simp
def X4:∀(cs:List Nat),1<=cs.length->cs.length<=4->tA σ O=.ok [.lst (cs.map λc=>.str [c])] O'->AQ (dC (.str [])) tA σ O=.ok (.str cs) O'
 |[],h,_,_=>by simp at h
 |[a],_,_,h=>by show((tA σ O).bnd _)=_;rw[h];rfl
 |[a,b],_,_,h=>by show((tA σ O).bnd _)=_;rw[h];rfl
 |[a,b,c],_,_,h=>by show((tA σ O).bnd _)=_;rw[h];rfl
 |[a,b,c,d],_,_,h=>by show((tA σ O).bnd _)=_;rw[h];rfl
 |_::_::_::_::_::_,_,h,_=>by simp at h
def VS{σ:Sg}{O:Ow}{t:DE}{n:Nat}(a:n<=4)(h:t σ O=.ok (.int n) O):f_ (fI B3) (dC (.int 1)) t σ O=.ok (.int ((2 ^ n:Nat):Int)) O:=by
 refine(qG rfl h).trans ?_;have:n=0\/n=1\/n=2\/n=3\/n=4:=by lia
 rcases this with rfl|rfl|rfl|rfl|rfl<;>rfl
def Z9(h:∀d∈ds,zQ n d=KM):frz O n (f+1) (.tup ds)=KB (.tup ds):=by show(pR (frz O n f) ds).map D.tup=_;rw[z_ λd a=>Km (h d a)];rfl
def zgz(h:uF d)(n:Nat):zQ n d=KM:=by rcases h with rfl|rfl|rfl<;>rfl
theorem Rv{src:Src}{step:D->Ow->List D->R (List D)}{O:Ow}{g:D->List D}{all:List D}(b:∀i,src.get O i=all[i]?):∀(ds a K4:List D)(f:Nat),all=a++ds->ds.length<=f->(∀d∈ds,∀K4:List D,K4.length<4000000->step d O K4=.ok (K4++g d) O)->K4.length+(ds.flatMap g).length+ds.length<4000000->
  qh src step f a.length O K4=.ok (K4++ds.flatMap g) O
 | [],a,K4,f,ha,_,_,_=>by
  have e:src.get O a.length=KF:=by rw[b,ha];simp
  cases f<;>(unfold qh;rw[e];simp)
 |d::ds,a,K4,0,_,h,_,_=>by simp at h
 | d::ds,a,K4,f+1,ha,h,hs,hl=>by
  unfold qh;have e:src.get O a.length=KB d:=by rw[b,ha];simp
  rw[e];simp only[cY,aE,aS] at hl;show((step d O K4).bnd λc j=>qh src step f (a.length+1) j c)=_;rw[hs d au K4 'd'];show qh src step f (a.length+1) O (K4++g d)=_;have:=Rv b ds (a++[d]) (K4++g d) f (by rw[ha];simp) (by simpa using h) (λk l=>hs k (al _ l)) (by rw[aE];lia);rw[aE,fD] at this;rw[this];simp
def zlq{ext:Nat}{it0:DI}{g:Tg}{ts:List DT}{te:DE}{σ:Sg}{O:Ow}{src:Src}{ds:List D}{p:D->Bool}{e:D->D}{τ:D->Sg}(q:it0 σ O=.ok src O)(r:∀i,src.get O i=ds[i]?)(hsz:src.size O=ds.length)(z:ds.length<1900000)
  (s:∀d∈ds,g.put d (pO (pO (σ++aw ext KF) (g.slots++[])) (g.slots++[]))=KB (τ d)) (t:∀d∈ds,sW ts (τ d) O=.ok (p d) O) (u:∀d∈ds,p d=KM->te (τ d) O=.ok (e d) O) (o:Bool):
  qj o ext it0 g ts [] te σ O=uU o (.ok ((ds.filter p).map e) O):=by
 unfold qj Ab;rw[q];show uU o (wU (qh src _ (src.size O) 0 O []))=_;have c:∀d∈ds,∀a:List D,a.length<4000000->yc ⟨it0,g,ts⟩ [] te (pO (σ++aw ext KF) (pX [⟨it0,g,ts⟩])) d O a=.ok (a++(if p d=KM then [e d] else [])) O:=by
  intro d k a v;show(match g.put d (pO (pO (σ++aw ext KF) (g.slots++[])) (g.slots++[])) with|some qA=>(sW ts qA O).bnd λb m=>if b=KM then tW [] te qA m a else .ok a m|none=>.bad)=_;rw[s d k];show(sW ts (τ d) O).bnd _=_;rw[t d k];show(if p d=KM then tW [] te _ O a else .ok a O)=_;by_cases f:p d=KM
  ·rw[qb f,qb f];unfold tW;rw[u d k f];show(if a.length<4000000 then _ else _)=_;rw[qb v]
  ·rw[qq f,qq f];simp
 have n:∀l:List D,(l.flatMap λd=>if p d=KM then [e d] else [])=(l.filter p).map e:=by
  intro l
  induction l with
  |nil=>rfl
  | cons x l ih=>
   rw[cY,ih,gF];by_cases j:p x=KM
   ·rw[qb j,qb j];rfl
   ·rw[qq j,qq j];rfl
 have h:((ds.filter p).map e).length<=ds.length:=by rw[ax];exact bu _ _
 have w:=Rv (O:=O) (g:=λd=>if p d=KM then [e d] else []) r ds [] [] ds.length rfl (aF _) c (by rw[n];simp at h ⊢;lia);rw[n,cQ] at w;have y:qh src (yc ⟨it0,g,ts⟩ [] te (pO (σ++aw ext KF) (pX [⟨it0,g,ts⟩]))) (src.size O) 0 O []=.ok ((ds.filter p).map e) O:=by rw[hsz];exact w
 rw[y];rfl
structure Sq(O:Ow)(x:D)(xs:List D)(kd:String):Prop where
 zk:∃src,vk x=KB src/\(∀i,src.get O i=xs[i]?)/\src.size O=xs.length
 ln:qB O [x]=.ok (.int xs.length) O
 kind:AV x=kd
def znH(a:σ[i]?=KB (KB (.own k)))(b:t σ O=.ok y O1)(c:rJ O1 y=KB es)(d:O1[k]?=KB ds)(e:ds.length+es.length<=4000000):
  rG (AI (a_ i) (b_ t d_)) σ O=.nx σ (O1.set k (ds++es)):=by refine Cy (x:=.non) ?_;unfold AI a_;rw[a];show((b_ t d_ σ O).bnd _)=_;rw[pD b];show(match [y],O1[k]? with|[y],KB ds=>(match rJ O1 y with|some es=>if ds.length+es.length<=4000000 then R.ok D.non (O1.set k (ds++es)) else R.bad|none=>R.bad)|_,_=>R.bad)=_;rw[d];dsimp only;rw[c];dsimp only;rw[qb e]
def zgy(a:σ[i]?=KB (KB (.own k)))(b:t σ O=.ok y O1)(c:O1[k]?=KB ds)(d:ds.length<4000000):
  rG (xY (a_ i) (b_ t d_)) σ O=.nx σ (O1.set k (ds++[y])):=by refine Cy (x:=.non) ?_;unfold xY a_;rw[a];show((b_ t d_ σ O).bnd _)=_;rw[pD b];show(match [y],O1[k]? with|[y],KB ds=>if ds.length<4000000 then R.ok D.non (O1.set k (ds++[y])) else R.bad|_,_=>R.bad)=_;rw[c];dsimp only;rw[qb d]
def Qq:(O++[x]).set O.length y=O++[y]:=by rw[iJ _ _ (aF _),iX];rfl
def CC:(O++[x])[O.length]?=KB x:=by simp
def zgB(h:vO O)(b:∀c∈X,∀d∈c,zQ (O.length+X.length) d=KM):vO (O++X):=by
 intro c hc d a;rw[aE];rcases aP.mp hc with hc|hc
 ·have:=h c hc d a;cases d with
  |own k=>simp only[zQ,decide_eq_true_eq] at this ⊢;lia
  |_=>exact this
 ·exact b c hc d a
def oK.more(h:oK O m s b):oK (O++X) m s b:=⟨by rw[aJ h.len];exact h.at_,h.nn,h.lt⟩
def CD(e:c σ O=.ok a O)(f:a=KM->d σ O=.ok b O):tw c d σ O=.ok (a&&b) O:=by
 show((c σ O).bnd _)=_;rw[e];cases a with
 |true=>exact f rfl
 |false=>rfl
def zhz(a:List D):vq a=(aA a.length).map λk=>D.tup [.int (k:Nat),a.getD k .non]:=by
 apply jJ;intro i;rw[Kw,a8];by_cases b:i<a.length
 ·rw[gc b,ao b,gX,gX,v8 b]
 ·rw[aQ.mpr 'd',aQ.mpr (by simp;lia)];rfl
noncomputable def allS:List (List Nat×Nat):=ou.flatMap λcs=>(aA cs.length).map λk=>(cs,k)
def zgV(h:cs∈ou)(a:k<cs.length):(cs,k)∈allS:=by unfold allS;rw[fk];exact⟨cs,h,aB.mpr ⟨k,aR.mpr a,rfl⟩⟩
def z7R:(ou.all λcs=>cs.all sgn)=KM:=by decide +kernel
def Eb(a:1<=n)(b:n<=4)(h:cs∈YP n):∀c∈cs,sgn c=KM:=ak.mp (ak.mp z7R cs (t5 a b h))
def KD(b:1<=n)(d:n<=4)(h:cs∈YP n)(e:sgn c=KM):cs.set k c∈YP n:=by
 refine D_ n _ (by rw[el];exact qW b d h) λx a=>?_;rcases fX a with a|rfl
 ·exact Eb b d h x a
 ·exact e
def JZ(O:Ow)(h:sgn c=KM):pC pT O (.str [c]) (.str [45])=.ok (.bl (c !=45)) O:=by unfold sgn at h;simp only[cz,beq_iff_eq] at h;rcases h with(rfl|rfl)|rfl<;>kernel_rfl
def CA{cs:List Nat}{k:Nat}(h:k<cs.length):cs.getD k 0=cs[k]:=by rw[aG,ao h];rfl
def zet:(ou.all λcs=>cs.all λc=>decide (c<128))=KM:=by decide +kernel
def RH:(ou.all λcs=>cs.all λc=>decide (c<1114112))=KM:=by decide +kernel
def JT(a:1<=n)(b:n<=4)(h:cs∈YP n):pl k (.str cs)=KM:=by have:=ak.mp RH cs (t5 a b h);cases k<;>exact this
def zgk{n k:Nat}(a:1<=n)(b:n<=4){l:List (List Nat)}(h:∀cs∈l,cs∈YP n):(l.map D.str).all (pl k)=KM:=ak.mpr λd c=>by
 obtain⟨cs,e,rfl⟩:=aB.mp c;exact JT a b (h cs e)
def YS(O:Ow)(c:1<=n)(d:n<=4)(e:a∈YP n)(f:b∈YP n):pC pT O (.str a) (.str b)=.ok (.bl (decide (a≠b))) O:=by have:=(Jb O (b:=decide (a=b)) (JT (k:=8) c d e) (JT c d f) 'k').2;rw[this];congr 2;by_cases h:a=b<;>simp[h]
def zgA(O:Ow)(k:Nat)(l:List Nat):vP O (.int (k:Nat)) (.lst (ur l))=.ok (.bl (!l.contains k)) O:=
 (Gi O (l:=ur l) (b:=l.contains k) rfl (P_ 7 l) (.inl rfl) (by
  rw[ci];unfold ur;rw[aB];constructor
  ·intro h;exact⟨k,h,rfl⟩
  ·rintro⟨j,h,e⟩;injection e with e;have:j=k:=by lia
   rw[<- this];exact h)).2
def RI{O:Ow}{m:Nat}{s:Int}{b:Bool}(h:oK (O.set m [.int s,.bl b]) m s b)(X:Ow){k:Nat}(e:1<=k)(f:k<=1000):
  ∃(r:Nat)(a:Int),r<k/\ux [.own m,.int k] (O.set m [.int s,.bl b]++X)=.ok (.int r) (O.set m [.int a,.bl b]++X)/\oK (O.set m [.int a,.bl b]) m a b:=by
 obtain⟨r,a,g,d,c⟩:=DQ (h.more (X:=X)) e f;rw[List.set_append_left _ _ h.len,j7] at d c;refine⟨r,a,g,d,?_,c.nn,c.lt⟩;have i:m<(O.set m [.int a,.bl b]).length:=by have:=h.len;rw[el] at this ⊢;exact this
 have:=c.at_;rwa [aJ i] at this
def Gp(O:Ow)(i j:Int):wZ O (.int i) (.int j)=.ok (.bl (decide (i<j))) O:=rfl
def J0(O:Ow)(q:Bool):yM O [.bl q]=.ok (.int (if q=KM then 1 else 0)) O:=by cases q<;>rfl
def zgY(O:Ow){r:Nat}(h:r<3):∃i:Int,qf O (.lst [.int 2,.int 4,.int 6]) (.int r)=.ok (.int i) O:=by
 have:r=0\/r=1\/r=2:=by lia
 rcases this with rfl|rfl|rfl
 ·exact⟨2,rfl⟩
 ·exact⟨4,rfl⟩
 ·exact⟨6,rfl⟩
def zaw{O:Ow}(V:vO O){m:Nat}{s:Int}{b:Bool}(h:oK O m s b){n:Nat}(W:1<=n)(F:n<=4)(o:Bool):
  ∃f g,Fn n f/\CN [.own m,.int n,.bl o] O=.ok (.tup f) (O.set m [.int g,.bl b])/\oK (O.set m [.int g,.bl b]) m g b:=by
 have hp:=Ag F;obtain⟨r,G,X,Y,Z⟩:=DQ h (k:=3) 'u' 'u';obtain⟨w,q,w1,K,L⟩:=DQ Z (k:=3) 'u' 'u';rw[j7] at K L;obtain⟨i,hi⟩:=zgY (O.set m [.int G,.bl b]) X;obtain⟨z,hz⟩:∃z:Int,f_ (fI tS) (j_ 2 ux (b_ (a_ 0) (b_ (dC (.int 3)) d_))) (pB yM (b_ (a_ 2) d_)) [KB (.own m),KB (.int n),KB (.bl o),KB (.int i),KF,KF,KF,KF] (O.set m [.int G,.bl b])=.ok (.int z) (O.set m [.int q,.bl b]):=by
  refine⟨_,qL (pP (qe rfl rfl) K) (tF (pD rfl) (J0 _ o)) (Cv 'd' 'd')⟩
 let A:Option D:=KB (.own m);let k:=O.length;have e:∀g,(O.set m [D.int g,D.bl b]).length=O.length:=λg=>el;obtain⟨σ',H,l1,c,u,I,J,rfl,rfl,h3,B,C⟩:=Jq (i:=6) (l:=aA (2 ^ n)) (inj:=λ(i:Nat)=>D.int (i:Int)) (O:=O.set m [.int q,.bl b]++[[]]) (σ:=[A,KB (.int n),KB (.bl o),KB (.int i),KB (.int z),KB (.own O.length),KF,KF]) (O0:=O.set m [.int q,.bl b]++[[]]) (it:=vp (b_ (f_ (fI B3) (dC (.int 1)) (a_ 1)) d_)) (body:=(n_ (pY 7 (pB yM (b_ (f_ wZ (j_ 2 ux (b_ (a_ 0) (b_ (dC (.int 8)) d_))) (a_ 3)) d_))) (n_ (pS (pA (f_ wZ (j_ 2 ux (b_ (a_ 0) (b_ (dC (.int 5)) d_))) (a_ 4))) (pY 7 (dC .non)) pU) (rG (xY (a_ 5) (b_ (a_ 7) d_))))))
  (D2 (pD (VS F rfl)) 'd') (λj σ H=>∃c g I J,σ=[A,KB (.int n),KB (.bl o),KB (.int i),KB (.int z),KB (.own O.length),I,J]/\H=O.set m [.int g,.bl b]++[c]/\oK (O.set m [.int g,.bl b]) m g b/\c.length=j/\∀d∈c,uF d) (λj a σ H ha hI=>by
   obtain⟨c,g,I,J,rfl,rfl,hs,B,C⟩:=hI;have hj:j<2 ^ n:=by have:=(ar.mp ha).1;simpa using this
   obtain⟨E,M,_,N,g1⟩:=RI hs [c] (k:=8) 'u' 'u';obtain⟨q2,p,_,P,Q⟩:=RI g1 [c] (k:=5) 'u' 'u';have S:uF (.int (if (decide ((E:Int)<i))=KM then 1 else 0)):=by
    by_cases h:(E:Int)<i
    ·exact .inr (.inl (by simp[h]))
    ·exact .inl (by simp[h])
   have y:∀v,uF v->rG (xY (a_ 5) (b_ (a_ 7) d_)) [A,KB (.int n),KB (.bl o),KB (.int i),KB (.int z),KB (.own O.length),KB (.int a),KB v] (O.set m [.int p,.bl b]++[c])=.nx [A,KB (.int n),KB (.bl o),KB (.int i),KB (.int z),KB (.own O.length),KB (.int a),KB v] (O.set m [.int p,.bl b]++[c++[v]]):=λv _=>by
    rw[zgy (ds:=c) (t:=a_ 7) rfl rfl (by rw[<- e p];exact CC) 'd'];congr 1;rw[<- e p];exact Qq
   have T:∀v,uF v->(c++[v]).length=j+1/\∀d∈c++[v],uF d:=λv hv=>⟨by simp[B],λd hd=>by
    rcases aP.mp hd with hd|hd
    ·exact C d hd
    ·have:d=v:=by simpa using hd
     rw[this];exact hv⟩
   by_cases U:(q2:Int)<z
   ·refine⟨_,_,tx (x:=.int (if (decide ((E:Int)<i))=KM then 1 else 0)) (O1:=O.set m [.int M,.bl b]++[c]) (tF (pD (qL (pP (qe rfl rfl) N) rfl (Gp _ _ _))) (J0 _ _)) (A0 (σ':=[A,KB (.int n),KB (.bl o),KB (.int i),KB (.int z),KB (.own O.length),KB (.int a),KB .non]) (O1:=O.set m [.int p,.bl b]++[c]) ?_ (y .non (.inr (.inr rfl)))),c++[.non],p,_,_,rfl,rfl,Q,T _ (.inr (.inr rfl))⟩;rw[tZ (b:=KM) (qV ((qL (pP (qe rfl rfl) P) rfl (Gp _ _ _)).trans (by rw[decide_eq_true U])))];rfl
   ·refine⟨_,_,tx (x:=.int (if (decide ((E:Int)<i))=KM then 1 else 0)) (O1:=O.set m [.int M,.bl b]++[c]) (tF (pD (qL (pP (qe rfl rfl) N) rfl (Gp _ _ _))) (J0 _ _)) (vw (O1:=O.set m [.int p,.bl b]++[c]) (qV ((qL (pP (qe rfl rfl) P) rfl (Gp _ _ _)).trans (by rw[decide_eq_false U]))) (y _ S)),_,p,_,_,rfl,rfl,Q,T _ S⟩) ⟨[],q,_,_,rfl,rfl,L,rfl,by simp⟩
 rw[cM] at B;refine⟨c,u,⟨W,F,B,C⟩,?_,h3⟩;show xb O.length (fin (HB [KB (.own m),KB (.int n),KB (.bl o),KF,KF,KF,KF,KF] O))=_;have hB:HB [KB (.own m),KB (.int n),KB (.bl o),KF,KF,KF,KF,KF] O=.rt (.tup c) (O.set m [.int u,.bl b]++[c]):=by
  unfold HB;refine tx (x:=.int i) (O1:=O.set m [.int G,.bl b]) (qL (x:=.lst [.int 2,.int 4,.int 6]) rfl (pP (qe rfl rfl) Y) hi) (tx hz (tx (x:=.own O.length) (O1:=O.set m [.int q,.bl b]++[[]]) ?_ (A0 l1 (rL (tF (pD rfl) ?_)))))
  ·show R.ok (D.own (O.set m [D.int q,D.bl b]).length) _=_;rw[e]
  ·show(match (O.set m [.int u,.bl b]++[c])[O.length]? with|some ds=>R.ok (D.tup ds) _|none=>_)=_;rw[<- e u,CC]
 rw[vB hB];have:=Kf (zfS V m u b) [c] (d:=.tup c) (d':=.tup c) (Z9 λd hd=>zgz (C d hd) _);rw[e] at this;exact this
def zg5{ns:List Int}(e:ns.length<=63)(σ:Sg)(c:Nat)(g:c<1000)(a:a_ 0 σ []=.ok (.lst (ns.map .int)) []):∃m:Nat,m<100000/\pB AU (b_ (dC (.int 1)) (b_ (pB AN (b_ (pB qB (b_ (a_ 0) d_)) (b_ (dC (.int (c:Nat))) d_))) d_)) σ []=.ok (.int (m:Nat)) []:=by
 have b:pB AN (b_ (pB qB (b_ (a_ 0) d_)) (b_ (dC (.int (c:Nat))) d_)) σ []=.ok (.int (if (c:Int)<((ns.map D.int).length:Nat) then (c:Int) else ((ns.map D.int).length:Nat))) []:=(uL (qe ((uL (pD a)).trans rfl) rfl)).trans rfl;have d:=(uL (f:=AU) (qe (t:=dC (.int 1)) rfl b));refine⟨(if (if (c:Int)<((ns.map D.int).length:Nat) then (c:Int) else ((ns.map D.int).length:Nat))>1 then (if (c:Int)<((ns.map D.int).length:Nat) then (c:Int) else ((ns.map D.int).length:Nat)) else 1).toNat,?_,d.trans ?_⟩
 ·rw[ax];split<;>split<;>lia
 ·show R.ok (D.int (if (if (c:Int)<((ns.map D.int).length:Nat) then (c:Int) else ((ns.map D.int).length:Nat))>1 then (if (c:Int)<((ns.map D.int).length:Nat) then (c:Int) else ((ns.map D.int).length:Nat)) else 1)) []=_;congr 2;rw[ax];split<;>split<;>lia
noncomputable def qD(n:Nat)(a b:List Nat):Bool:=(aA n).all λi=>b.getD i 0==45||b.getD i 0==a.getD i 0
def A5(a:1<=n)(b:n<=4)(h:cs∈YP n)(d:p<2 ^ n):p∈pM cs↔DM cs (vt n p)=KM:=by have c:=qW a b h;have:=ak.mp RL _ (Qh (t5 a b h) (by rw[c];exact d));simp only[aW,beq_iff_eq] at this;rw[c] at this;rw[this.1.1.1];simp
def Cs(a:1<=n)(b:n<=4)(h:cs∈YP n)(c:p∈pM cs):p<2 ^ n:=by have:=Jo (t5 a b h) c;rw[qW a b h] at this;exact this
def QN(c:1<=n)(d:n<=4)(e:a∈YP n)(f:b∈YP n)(h:qD n a b=KM)(g:p∈pM a):p∈pM b:=by
 have j:=Cs c d e g;have m:=(A5 c d e j).mp g;refine(A5 c d f j).mpr ?_;unfold DM at m ⊢;unfold qD at h;rw[qW c d e] at m;rw[qW c d f];rw[ak] at h m ⊢;intro i k;have e1:=h i k;have e2:=m i k;simp only[cz,beq_iff_eq] at e1 e2 ⊢;rcases e1 with e1|e1
 ·exact .inl e1
 ·rcases e2 with e2|e2
  ·exact .inl (e1.trans e2)
  ·exact .inr (e1.trans e2)
def R4(n:Nat)(a:List Nat):qD n a a=KM:=by unfold qD;rw[ak];intro i _;simp
def DR(a:1<=n)(b:n<=4)(h:cs∈YP n):vk (.str cs)=KB (.val (cs.map λc=>.str [c])):=by show(if cs.all (· < 128)=KM then _ else KF)=_;rw[qb (ak.mp zet cs (t5 a b h))]
def JV(O:Ow)(h:sgn c=KM)(h':sgn d=KM):pC rq O (.str [c]) (.str [d])=.ok (.bl (c==d)) O:=by unfold sgn at h h';simp only[cz,beq_iff_eq] at h h';rcases h with(rfl|rfl)|rfl<;>rcases h' with(rfl|rfl)|rfl<;>kernel_rfl
def CK{α:Type}(f:Nat->α):((aA n).map f)[i]?=if i<n then KB (f i) else KF:=by
 rw[a8];by_cases h:i<n
 ·rw[gc h,qb h];rfl
 ·rw[aQ.mpr (by simpa using h),qq h];rfl
def Ht{cs:List Nat}{i:Nat}(h:i<cs.length)(g:Nat->D):(cs.map g)[i]?=KB (g (cs.getD i 0)):=by rw[a8,ao h,CA h];rfl
def yn(a:1<=n)(b:n<=4)(h:cs∈YP n)(c:i<n):sgn (cs.getD i 0)=KM:=by have d:=qW a b h;rw[CA 'd'];exact Eb a b h _ (cr _)
def Kr{α a:Type}(l:List α)(e:α->a):(l.filter λ_=>KM).map e=l.map e:=by rw[lN.mpr (λ_ _=>rfl)]
def OM(h:n<=16):Cf O (.str [c]) (.int (n:Nat))=.ok (.str (aw n c)) O:=by
 show(if 0<=((n:Nat):Int)/\((n:Nat):Int)<=16 then R.ok (D.str (aw ((n:Nat):Int).toNat c)) O else R.bad)=_;rw[qb 'd'];have:((n:Nat):Int).toNat=n:=by lia
 rw[this]
def Ri(h:(aA n)[k]?=KB a):a=k/\k<n:=by
 obtain⟨c,b⟩:=ar.mp h;have:k<n:=by simpa using c
 rw[List.getElem_range] at b;exact⟨b.symm,this⟩
def J6(O:Ow)(h:sgn c=KM)(h':sgn d=KM):pC pT O (.str [c]) (.str [d])=.ok (.bl (c !=d)) O:=by unfold sgn at h h';simp only[cz,beq_iff_eq] at h h';rcases h with(rfl|rfl)|rfl<;>rcases h' with(rfl|rfl)|rfl<;>kernel_rfl
def xq(h:qD n a b=KM)(c:k<n):b.getD k 0=45\/b.getD k 0=a.getD k 0:=by unfold qD at h;have:=ak.mp h k (aR.mpr c);simpa using this
def Ct(h:∀k,k<n->b.getD k 0=45\/b.getD k 0=a.getD k 0):qD n a b=KM:=by unfold qD;rw[ak];intro k c;have:=h k (aR.mp c);simpa using this
def Qm{n:Nat}{a b:List Nat}(e:a.length=n)(f:b.length=n)(h:∀k,k<n->a.getD k 0=b.getD k 0):a=b:=by refine List.ext_getElem 'd' λi c d=>?_;have:=h i 'd';rw[CA c,CA d] at this;exact this
def zeQ{n:Nat}{a b:List Nat}(d:a.length=n)(e:b.length=n)(f:qD n a b=KM)(g:qD n b a=KM):a=b:=Qm d e λk c=>by
 rcases xq f c with z|z
 ·rcases xq g c with y|y
  ·rw[y,z]
  ·exact y
 ·exact z.symm
def N4(O:Ow)(ds:List D)(σ:Sg)(c:ds.length<4000000)(b:a_ 0 σ O=.ok (.tup ds) O):zI (a_ 0) (yN (dC (.int 1))) ye σ O=.ok (.tup (ds.drop 1)) O:=by
 show((a_ 0 σ O).bnd _)=_;rw[b];show(if HT.sIx ds.length 0 (KB 1)=0/\HT.sIx ds.length ds.length KF=ds.length then R.ok (D.tup ds) O else R.ok (D.tup (xX ds (KB 1) KF)) O)=_;have a:HT.sIx ds.length 0 (KB 1)=min 1 ds.length:=HT.sIx_nat ds.length 0 1;cases ds with
 |nil=>rfl
 | cons d r=>
  have:¬ (HT.sIx (d::r).length 0 (KB 1)=0/\HT.sIx (d::r).length (d::r).length KF=(d::r).length):=by
   rw[a];simp
  rw[qq this];unfold xX;rw[a,HT.sIx_none];simp
def Yu(O:Ow){n:Nat}(a:1<=n)(c:n<=4){l:List (List Nat)}(h:∀cs∈l,cs∈YP n):pC pT O (.lst (l.map D.str)) (.lst [])=.ok (.bl (!l.isEmpty)) O:=
 (Oe O (b:=l.isEmpty) (zgk a c h) (y:=[]) rfl (by cases l<;>simp)).2
def G_{α:Type}{l:List α}{p:α->Bool}:(l.filter p).isEmpty=l.all λx=>!p x:=by rw[eO,j8,fv,ak];exact forall_congr' λa=>forall_congr' λ_=>by simp
def y_:D->Bool
 |.int i=>i==1
 |_=>K7
def eq1(O:Ow)(h:uF d):pC rq O d (.int 1)=.ok (.bl (y_ d)) O:=by rcases h with rfl|rfl|rfl<;>kernel_rfl
def B0:D->D
 |.int i=>.int (1-i)
 |d=>d
def qO(f:List D):List Nat:=(aA f.length).filter λp=>y_ (f.getD p .non)
def oE:p∈qO f↔p<f.length/\y_ (f.getD p .non)=KM:=by unfold qO;rw[aO,aR]
def yg(f:List D)(t:List Nat):Bool:=!((qO f).filter λp=>(pM t).contains p).isEmpty
def B4(n:Nat)(f:List D)(t:List Nat):Bool:=((tM n f).filter λo=>decide (o≠t)&&qD n t o).isEmpty&&yg f t
def gr(n:Nat)(f:List D):List (List Nat):=(tM n f).filter (B4 n f)
def Ba(h:t∈tM n f):t∈YP n:=(aO.mp h).1
def RM(a:Fn n f):(tM n f).length<=81:=aM (bu _ _) (Kt a.n1 a.n4)
def QM{n:Nat}{f:List D}(a:Fn n f):(qO f).length<=16:=by have b:=bu (λp=>y_ (f.getD p .non)) (aA f.length);rw[cM] at b;have c:=Ag a.n4;have d:=a.len;unfold qO;lia
def xt(h:t∈gr n f):t∈YP n:=Ba (aO.mp h).1
def C1(f:List D)(l:List (List Nat)):Bool:=(qO f).all λp=>l.any λt=>(pM t).contains p
theorem zfV{α:Type}{l:List α}{inj:α->D}{i:Nat}{body:DS}{τ:Option D->Sg}{O:Ow}{q:α->Bool}{d:D}(g:∀y x,(τ y).set i x=τ x)(h:∀a∈l,body (τ (KB (inj a))) O=if q a=KM then .nx (τ (KB (inj a))) O else .rt d O):
  ∀(f k:Nat)(y:Option D),k<=l.length->l.length<=k+f->∃b,qU (.val (l.map inj)) (λd σ O=>match Tg.put (.one i) d σ with|some σ'=>body σ' O|none=>.bad) f k (τ y) O=if (l.drop k).all q=KM then .nx (τ b) O else .rt d O
 | 0,k,y,h1,h2=>by
  have:k=l.length:=by lia
  subst this;refine⟨y,?_⟩;have e:(Src.val (l.map inj)).get O l.length=KF:=by simp[Src.get]
  unfold qU;rw[e];simp
 | f+1,k,y,h1,h2=>by
  by_cases j:k=l.length
  ·subst j;refine⟨y,?_⟩;have e:(Src.val (l.map inj)).get O l.length=KF:=by simp[Src.get]
   unfold qU;rw[e];simp
  ·have c:k<l.length:=by lia
   have e:(Src.val (l.map inj)).get O k=KB (inj l[k]):=by
    show(l.map inj)[k]?=_;rw[a8,ao c];rfl
   obtain⟨b,m⟩:=zfV g h f (k+1) (KB (inj l[k])) 'd' 'd';refine⟨b,?_⟩;unfold qU;rw[e];dsimp only;have n:Tg.put (.one i) (inj l[k]) (τ y)=KB (τ (KB (inj l[k]))):=congrArg KB (g y _);rw[n];dsimp only;rw[h _ (cr c),dh c,iz];cases o:q l[k] with
   |true=>rw[qb rfl,nR];exact m
   |false=>simp
def zoE(h:t σ O=.ok [x] O1)(a:rJ O1 x=KB (l.map .str)\/x=.tup (l.map .str))(b:l.length<1000):Nq K7 t σ O=.ok (.lst ((p8 l).map .str)) O1:=by
 unfold Nq;rw[h];show(match (match rJ O1 x with|some ds=>KB ds|none=>Ao x) with|some ds=>MY K7 (.ok ds O1)|none=>.bad)=_;have e:(match rJ O1 x with|some ds=>KB ds|none=>Ao x)=KB (l.map .str):=by
  rcases a with a|rfl
  ·rw[a]
  ·rfl
 rw[e];show(match ue (l.map D.str) with|some ss=>if ss.length<1000 then (if K7=KM then R.ok (D.own _) _ else R.ok (D.lst ((p8 ss).map .str)) O1) else .bad|none=>.bad)=_;rw[DL.strL_map];show(if l.length<1000 then _ else _)=_;rw[qb b];rfl
theorem G7{α:Type}:∀(l:List α)(i:Nat)(h:i<l.length),(l[i]::l.eraseIdx i).Perm l
 |[],_,h=>by simp at h
 |x::l,0,_=>eH _
 | x::l,i+1,h=>by
  rw[List.eraseIdx_cons_succ,List.getElem_cons_succ];exact(nJ _ _ _).trans ((G7 l i (by simpa using h)).cons x)
def A7:List Nat:=[48,49,45,50]
def zh0(O:Ow):(A7.map λc=>w4 O (.str [c]) (.str [45,48,49]))=A7.map λc=>R.ok (.bl (sgn c)) O:=by kernel_rfl
def neI(O:Ow)(a b:Int):pC pT O (.int a) (.int b)=.ok (.bl (a !=b)) O:=rfl
def Ux(O:Ow)(a b:Int):pC rq O (.int a) (.int b)=.ok (.bl (a==b)) O:=rfl
def zeG(g:∀c∈cs,c∈A7)(m:cs.length<=10)(O:Ow):Al [.int (n:Nat),.str cs] O=.ok (.bl (cs.length==n&&cs.all sgn)) O:=by
 have a:pB qB (b_ (a_ 1) d_) [KB (.int (n:Nat)),KB (.str cs)] O=.ok (.int (cs.length:Nat)) O:=(uL (pD rfl)).trans (Kl 'd');have b:uG (qQ (qo (uq "str" (a_ 1)))) (pA (f_ (pC pT) (pB qB (b_ (a_ 1) d_)) (a_ 0))) [KB (.int (n:Nat)),KB (.str cs)] O=.ok (((cs.length:Nat):Int) !=(n:Nat)) O:=by
  have:pA (f_ (pC pT) (pB qB (b_ (a_ 1) d_)) (a_ 0)) [KB (.int (n:Nat)),KB (.str cs)] O=.ok (((cs.length:Nat):Int) !=(n:Nat)) O:=qV ((qG a rfl).trans (neI O _ _));exact this
 have j:(((cs.length:Nat):Int) !=(n:Nat)) = !(cs.length==n):=by
  rw[eO];simp;lia
 rw[j] at b;have k:=vW (o:=K7) (ext:=1) (i:=2) (it0:=qg (a_ 1)) (σ:=[KB (.int (n:Nat)),KB (.str cs)]) (O0:=O) (O:=O) (l:=cs) (inj:=λc=>D.str [c]) (te:=f_ w4 (a_ 2) (dC (.str [45,48,49]))) (e:=λc=>D.bl (sgn c)) (τ:=λc=>[KB (.int (n:Nat)),KB (.str cs),KB (.str [c])]) rfl 'd' (λ_=>rfl) (λc h=>(qG rfl rfl).trans (fT.mp (zh0 O) c (g c h)));show fin (n_ (pS _ (l_ (dC (.bl K7))) pU) (l_ _) [KB (.int (n:Nat)),KB (.str cs)] O)=_;cases f:(cs.length==n) with
 | false=>
  rw[f] at b;have d:pS (uG (qQ (qo (uq "str" (a_ 1)))) (pA (f_ (pC pT) (pB qB (b_ (a_ 1) d_)) (a_ 0)))) (l_ (dC (.bl K7))) pU [KB (.int (n:Nat)),KB (.str cs)] O=.rt (.bl K7) O:=by rw[tZ b];rfl
  rw[A3 d];rfl
 | true=>
  rw[f] at b;have d:pS (uG (qQ (qo (uq "str" (a_ 1)))) (pA (f_ (pC pT) (pB qB (b_ (a_ 1) d_)) (a_ 0)))) (l_ (dC (.bl K7))) pU [KB (.int (n:Nat)),KB (.str cs)] O=.nx [KB (.int (n:Nat)),KB (.str cs)] O:=by rw[tZ b];rfl
  rw[sE d,rL ((uL (pD k)).trans (Af O _ _))];rfl
def IA(d:D):Prop:=(∃w:List Nat,d=.str w/\(∀c∈w,c∈A7)/\w.length<=10)\/(∃xs,d=.tup xs)\/d=.non\/d=.int 0\/d=.bl KM
def AK(n:Nat):D->Bool
 |.str w=>w.length==n&&w.all sgn
 |_=>K7
def zaA(n:Nat){d:D}(h:IA d)(O:Ow):Al [.int (n:Nat),d] O=.ok (.bl (AK n d)) O:=by
 rcases h with⟨w,rfl,a,b⟩|⟨c,rfl⟩|rfl|rfl|rfl
 ·exact zeG a b O
 all_goals rfl
def Dj(l:List (List Nat)):Bool:=(aA (l.length-1)).all λk=>decide (l.getD k []<l.getD (k+1) [])
def zdK{l:List (List Nat)}(c:l.length<10000)(O:Ow):Ed [.tup (l.map D.str)] O=.ok (.bl (Dj l)) O:=by
 have a:ya (b_ (a_ 0) (b_ (zI (a_ 0) (yN (dC (.int 1))) ye) d_)) [KB (.tup (l.map D.str))] O=.ok (.zip (.val (l.map D.str)) (.val ((l.map D.str).drop 1))) O:=by
  show((b_ (a_ 0) (b_ (zI (a_ 0) (yN (dC (.int 1))) ye) d_) _ O).bnd _)=_;rw[qe rfl (N4 O (l.map D.str) [KB (.tup (l.map D.str))] (by simp;lia) rfl)];rfl
 have b:=A6 (o:=K7) (ext:=2) (g:=.two 1 2) (ts:=[]) (te:=f_ BY (a_ 1) (a_ 2)) (l:=aA (l.length-1)) (inj:=λk=>D.tup [.str (l.getD k []),.str (l.getD (k+1) [])]) (p:=λ_=>KM) (e:=λk=>D.bl (decide (l.getD k []<l.getD (k+1) [])))
  (τ:=λk=>[KB (.tup (l.map D.str)),KB (.str (l.getD k [])),KB (.str (l.getD (k+1) []))]) a (λi=>by
   rw[CK];show(match (l.map D.str)[i]?,((l.map D.str).drop 1)[i]? with|some x,KB y=>KB (D.tup [x,y])|_,_=>KF)=_;rw[jp,a8,a8];by_cases a:i<l.length-1
   ·rw[qb a,ao 'd',show 1+i=i+1 from by lia,ao 'd'];show KB (D.tup [.str l[i],.str l[i+1]])=_;rw[aG,aG,ao 'd',ao 'd'];rfl
   ·rw[qq a,show l[1+i]?=KF from aQ.mpr 'd'];cases l[i]?<;>rfl) (by
   show min (l.map D.str).length ((l.map D.str).drop 1).length=_;simp) (by rw[cM];lia) (λk _=>rfl) (λk _=>rfl) (λk d _=>rfl)
 rw[Kr] at b;show fin (l_ _ [KB (.tup (l.map D.str))] O)=_;rw[rL ((uL (pD b)).trans (Af O _ _))];rfl
def ph:Dj l=KM↔l.Pairwise (· < ·):=by
 constructor
 ·intro h;have a:∀k,k+1<l.length->l.getD k []<l.getD (k+1) []:=λk c=>by
   have:=ak.mp h k (aR.mpr 'd');simpa using this
  have e:∀d i,i+d+1<l.length->l.getD i []<l.getD (i+d+1) []:=by
   intro d
   induction d with
   |zero=>intro i b;exact a i b
   |succ d ih=>intro i b;exact iy (ih i 'd') (a (i+d+1) 'd')
  refine di.mpr λi j b f m=>?_;have:=e (j-i-1) i 'd';rw[show i+(j-i-1)+1=j by lia,aG,aG,ao b,ao f] at this;exact this
 ·intro g;unfold Dj;rw[ak];intro k c;have c:=aR.mp c;have:=di.mp g k (k+1) 'd' 'd' 'd';rw[aG,aG,ao 'd',ao 'd'];exact decide_eq_true this
def Lf(n:Nat)(ds:List D):Bool:=ds.all (AK n)&&Dj (ds.map yb)
def zfr{n:Nat}{ds:List D}(h:ds.all (AK n)=KM):ds=(ds.map yb).map D.str/\∀cs∈ds.map yb,cs∈YP n:=by
 have a:∀d∈ds,d=.str (yb d)/\yb d∈YP n:=λd b=>by
  have:=ak.mp h d b;cases d with
  | str w=>
   have this:(w.length==n&&w.all sgn)=KM:=this;rw[aW] at this;exact⟨rfl,D_ n w (by simpa using this.1) (ak.mp this.2)⟩
  |_=>cases this
 constructor
 ·rw[bg]
  conv=>lhs;rw[<- gT ds]
  exact dS λd b=>(a d b).1
 ·intro cs c;obtain⟨d,b,rfl⟩:=aB.mp c;exact(a d b).2
section
variable{n:Nat}(h1:1<=n)(h4:n<=4){ds:List D}(hd:∀d∈ds,IA d)(hl:ds.length<64)(O:Ow)
include hd hl
theorem z8k:Am [.int (n:Nat),.tup ds] O=.ok (.bl (Lf n ds)) O:=by show fin (K0 [KB (.int (n:Nat)),KB (.tup ds)] O)=_;unfold K0;refine vB (vw (O1:=O) (uZ (b:=KM) (uY (b:=KM) rfl)) (rL (PB (a:=ds.all (AK n)) (b:=Dj (ds.map yb)) (tF (pD ((vW (l:=ds) (inj:=λd=>d) (e:=λd=>D.bl (AK n d)) (τ:=λd=>[KB (.int (n:Nat)),KB (.tup ds),KB d]) (by rw[mj];exact Cu rfl) 'd' (λ_=>rfl) (λd h=>pP (qe rfl rfl) (zaA n (hd d h) O))).trans rfl)) (Af O ds (AK n))) λc=>pP (pD rfl) ?_)));have e:=(zfr c).1;have r:=zdK (l:=ds.map yb) (by rw[ax];lia) O;rw[<- e] at r;exact r
include h1 h4
end
def zd2(a:Fn n f)(O:Ow):CI [.tup f,.int 1] O=.ok (.lst (((aA (2 ^ n)).filter λp=>y_ (f.getD p .non)).map λ(p:Nat)=>D.int (p:Int))) O:=by
 have h:=Ag a.n4;have b:DG (b_ (a_ 0) d_) [KB (.tup f),KB (.int 1)] O=.ok (.val (vq f)) O:=rfl;have j:=A6 (o:=K7) (ext:=2) (g:=.two 2 3) (ts:=[(pA (f_ (pC rq) (a_ 3) (a_ 1)))]) (te:=a_ 2) (l:=aA (2 ^ n)) (inj:=λ(p:Nat)=>D.tup [.int (p:Int),f.getD p .non]) (p:=λp=>y_ (f.getD p .non)) (e:=λ(p:Nat)=>D.int (p:Int))
  (τ:=λ(p:Nat)=>[KB (.tup f),KB (.int 1),KB (.int (p:Int)),KB (f.getD p .non)]) b (λi=>by
   rw[CK];show(vq f)[i]?=_;rw[Kw];by_cases b:i<2 ^ n
   ·have d:i<f.length:=by rw[a.len];exact b
    rw[qb b,ao d];show KB (D.tup [.int (i:Nat),f[i]])=_;rw[v8 d]
   ·rw[qq b,aQ.mpr (by rw[a.len];lia)];rfl) (by
   show(vq f).length=_;unfold vq;simp[a.len]) (by rw[cM];lia) (λk _=>rfl) (λp c=>GR (by
   have c:=aR.mp c;have m:uF (f.getD p .non):=by
    rw[v8 (by rw[a.len];exact c)];exact a.ans _ (cr _)
   exact qV ((qG rfl rfl).trans (eq1 O m)))) (λp _ _=>rfl)
 show fin (l_ _ [KB (.tup f),KB (.int 1)] O)=_;rw[rL (j.trans rfl)];rfl
def SD{n:Nat}{f:List D}(a:Fn n f)(O:Ow):CI [.tup f,.int 1] O=.ok (.lst (ur (qO f))) O:=by rw[zd2 a O];unfold qO ur;rw[a.len]
def JO(O:Ow)(k:Nat)(l:List Nat):w4 O (.int (k:Nat)) (.lst (ur l))=.ok (.bl (l.contains k)) O:=
 (Gi O (l:=ur l) (b:=l.contains k) rfl (P_ 7 l) (.inl rfl) (by
  rw[ci];unfold ur;rw[aB];constructor
  ·intro h;exact⟨k,h,rfl⟩
  ·rintro⟨j,h,e⟩;injection e with e;have:j=k:=by lia
   rw[<- this];exact h)).1
section
variable{n:Nat}{f:List D}(hf:Fn n f){l:List (List Nat)}(ht:∀t∈l,t∈YP n)(hlen:l.length<64)(O:Ow)
include hf ht hlen
theorem zbY(p:Nat):CO [.tup (l.map .str),.int (p:Nat)] O=.ok (.lst ((l.filter λt=>(pM t).contains p).map .str)) O:=by show fin (CP [KB (.tup (l.map .str)),KB (.int (p:Nat))] O)=_;unfold CP;exact vZ ((zR (l:=l) (inj:=D.str) (p:=λt=>(pM t).contains p) (e:=D.str) (τ:=λt=>[KB (.tup (l.map .str)),KB (.int (p:Nat)),KB (.str t)]) (Cu rfl) 'd' (λ_=>rfl) (λt h=>qV (qL rfl (pP (pD rfl) (Ej (t5 hf.n1 hf.n4 (ht t h)) O)) (JO O p _))) (λ_ _ _=>rfl)).trans rfl)
def HW(f:List D)(l:List (List Nat)):Bool:=l.all (sX f)&&C1 f l
theorem zde(d:Am [.int (n:Nat),.tup (l.map .str)] O=.ok (.bl KM) O):A8 [.tup f,.tup (l.map .str)] O=.ok (.bl (HW f l)) O:=by
 have g:=QM hf;have a:=tF (f:=vm) (pD ((vW (o:=K7) (ext:=1) (i:=2) (σ:=[KB (.tup f),KB (.tup (l.map .str))]) (it0:=qg (a_ 1)) (O0:=O) (O:=O) (te:=j_ 2 yq (b_ (a_ 0) (b_ (a_ 2) d_))) (l:=l) (inj:=D.str) (e:=λt=>D.bl (sX f t)) (τ:=λt=>[KB (.tup f),KB (.tup (l.map .str)),KB (.str t)]) (Cu rfl) 'd' (λ_=>rfl) (λt h=>pP (qe rfl rfl) (Kh hf (ht t h) O))).trans rfl)) (Af O l (sX f));show fin (Kx [KB (.tup f),KB (.tup (l.map .str))] O)=_;unfold Kx HW;refine vB (GL (pP (pD rfl) (JL hf O)) (vw (O1:=O) (uZ (b:=KM) (uY (pP (qe (pP (pD rfl) (Sv hf O)) rfl) d))) ?_));cases c:l.all (sX f) with
 | false=>
  rw[c] at a;exact Dy (O1:=O) (uZ (b:=K7) (uY a)) rfl
 | true=>
  rw[c] at a;refine vw (O1:=O) (uZ (b:=KM) (uY a)) (rL (tF (pD ((vW (l:=qO f) (inj:=λ(p:Nat)=>D.int (p:Int)) (e:=λp=>D.bl (l.any λt=>(pM t).contains p)) (τ:=λ(p:Nat)=>[KB (.tup f),KB (.tup (l.map .str)),KB (.int (p:Int))]) (vC (pP (qe rfl rfl) (SD hf O))) 'd' (λ_=>rfl) (λp j=>?_)).trans rfl)) (Af O (qO f) λp=>l.any λt=>(pM t).contains p)));refine(qL (pP (qe rfl rfl) (zbY hf ht hlen O p)) rfl (Yu O hf.n1 hf.n4 λt h=>ht t (aO.mp h).1)).trans ?_;rw[G_,ij];simp only[ml]
end
def Z8{n:Nat}(d:1<=n)(f:n<=4){a b:List Nat}(m:a∈YP n)(r:b∈YP n)(O:Ow):GY [.str a,.str b] O=.ok (.bl (qD n a b)) O:=by
 have u:=qW d f m;have v:=qW d f r;have h:ya (b_ (a_ 0) (b_ (a_ 1) d_)) [KB (.str a),KB (.str b)] O=.ok (.zip (.val (a.map λc=>.str [c])) (.val (b.map λc=>.str [c]))) O:=by
  show(match vk (.str a),vk (.str b) with|some p,KB q=>R.ok (Src.zip p q) O|_,_=>R.bad)=_;rw[DR d f m,DR d f r]
 have s:=A6 (o:=K7) (ext:=2) (g:=.two 2 3) (ts:=[]) (te:=C8 (f_ (pC rq) (a_ 3) (dC (.str [45]))) (f_ (pC rq) (a_ 3) (a_ 2))) (l:=aA n) (inj:=λk=>D.tup [.str [a.getD k 0],.str [b.getD k 0]]) (p:=λ_=>KM) (e:=λk=>D.bl (b.getD k 0==45||b.getD k 0==a.getD k 0))
  (τ:=λk=>[KB (.str a),KB (.str b),KB (.str [a.getD k 0]),KB (.str [b.getD k 0])]) h (λi=>by
   rw[CK];show(match (a.map λc=>D.str [c])[i]?,(b.map λc=>D.str [c])[i]? with|some x,KB y=>KB (D.tup [x,y])|_,_=>KF)=_;by_cases h:i<n
   ·rw[qb h,Ht 'd' λc=>D.str [c],Ht 'd' λc=>D.str [c]]
   ·rw[qq h,aQ.mpr (by simp;lia)]) (by
   show min (a.map λc=>D.str [c]).length (b.map λc=>D.str [c]).length=_;simp[u,v]) (by rw[cM];lia) (λk _=>rfl) (λk _=>rfl) (λk j _=>by
   have j:=aR.mp j;have w:=yn d f m j;have t:=yn d f r j;simp only[n_,pY,pS,l_,rG,pU,a_,dC,b_,d_,j_,pB,f_,pA,qo,qQ,x8,R.bnd,R.bnS,fin,cx,cy,dg,dG,aS,cP,d0,eV,d6,fB,if_true,if_false,d8,eI,bi,ite_true,ite_false,C8,JV O t (show sgn 45=KM from rfl),JV O t w];cases (b.getD k 0==45)<;>rfl)
 rw[Kr] at s;show fin (G5 [KB (.str a),KB (.str b)] O)=_;unfold G5;rw[rL ((uL (pD s)).trans (Af O _ _))];rfl
theorem JG{α:Type}{src:Src}{step:D->Sg->Ow->RS}{l:List α}{inj:α->D}{stop:Nat}(c:∀O i,src.get O i=(l.map inj)[i]?)(g:stop<=l.length)(I:Nat->Sg->Ow->Prop)(h:∀k a σ O,k<stop->l[k]?=KB a->I k σ O->∃σ' O',step (inj a) σ O=.nx σ' O'/\I (k+1) σ' O'):
  ∀(d i f:Nat)(σ:Sg)(O:Ow),i+d=stop->l.length<=i+f->I i σ O->∃σ' O' b,I stop σ' O'/\l.length<=stop+b/\qU src step f i σ O=qU src step b stop σ' O'
 | 0,i,f,σ,O,hd,hl,hI=>by
  have:i=stop:=by lia
  subst this;exact⟨σ,O,f,hI,hl,rfl⟩
 | d+1,i,f,σ,O,hd,hl,hI=>by
  have j:i<l.length:=by lia
  cases f with
  |zero=>lia
  | succ f=>
   have e:l[i]?=KB l[i]:=ao j;obtain⟨m,n,o,p⟩:=h i l[i] σ O 'd' e hI;obtain⟨σ',O',b,q,s,t⟩:=JG c g I h d (i+1) f m n 'd' 'd' p;refine⟨σ',O',b,q,s,?_⟩;rw[<- t];show(match src.get O i with|none=>RS.nx σ O|some d=>match step d σ O with|.nx σ' O'=>qU src step f (i+1) σ' O'|.ct σ' O'=>qU src step f (i+1) σ' O'|.bk σ' O'=>.nx σ' O'|r=>r)=_;rw[c,a8,e];show(match step (inj l[i]) σ O with|.nx σ' O'=>qU src step f (i+1) σ' O'|.ct σ' O'=>qU src step f (i+1) σ' O'|.bk σ' O'=>.nx σ' O'|r=>r)=_;rw[o]
def zhg{α:Type}{src:Src}{step:D->Sg->Ow->RS}{l:List α}{inj:α->D}(a:∀O i,src.get O i=(l.map inj)[i]?)(f:Nat)(σ:Sg)(O:Ow):qU src step f l.length σ O=.nx σ O:=by
 have e:src.get O l.length=KF:=by rw[a];simp
 cases f<;>(unfold qU;rw[e])
def Yj{α:Type}{src:Src}{step:D->Sg->Ow->RS}{l:List α}{inj:α->D}(b:∀O i,src.get O i=(l.map inj)[i]?){i f:Nat}{σ:Sg}{O O':Ow}{a:α}{d:D}(e:l[i]?=KB a)(g:l.length<=i+f)(c:step (inj a) σ O=.rt d O'):qU src step f i σ O=.rt d O':=by
 have h:=(ar.mp e).1;cases f with
 |zero=>lia
 | succ f=>
  show(match src.get O i with|none=>RS.nx σ O|some d=>match step d σ O with|.nx σ' O'=>qU src step f (i+1) σ' O'|.ct σ' O'=>qU src step f (i+1) σ' O'|.bk σ' O'=>.nx σ' O'|r=>r)=_;rw[b,a8,e];show(match step (inj a) σ O with|.nx σ' O'=>qU src step f (i+1) σ' O'|.ct σ' O'=>qU src step f (i+1) σ' O'|.bk σ' O'=>.nx σ' O'|r=>r)=_;rw[c]
noncomputable def rF(a b:List Nat)(k:Nat):Bool:=a.getD k 0 !=45&&(b.getD k 0 !=45&&a.getD k 0 !=b.getD k 0)
def rW(a b:List Nat)(k:Nat):Nat:=if a.getD k 0==45 then b.getD k 0 else a.getD k 0
def met(n:Nat)(a b:List Nat):List Nat:=(aA n).map (rW a b)
def GV(d:1<=n)(e:n<=4)(g:a∈YP n)(h:b∈YP n):met n a b∈YP n:=by
 refine D_ n _ (by unfold met;simp) λc i=>?_;obtain⟨k,f,rfl⟩:=aB.mp i;unfold rW;split
 ·exact yn d e h (aR.mp f)
 ·exact yn d e g (aR.mp f)
def D0(c:k<n):(met n a b).getD k 0=rW a b k:=by unfold met;rw[aG,CK,qb c];rfl
def Dx:DS:=n_ (pS (tw (pA (f_ (pC pT) (a_ 3) (dC (.str [45])))) (tw (pA (f_ (pC pT) (a_ 4) (dC (.str [45])))) (pA (f_ (pC pT) (a_ 3) (a_ 4))))) (l_ (dC .non)) pU) (rG (xY (a_ 2) (b_ (zB (pA (f_ (pC rq) (a_ 3) (dC (.str [45])))) (a_ 4) (a_ 3)) d_)))
def zgx(d:sgn x=KM)(f:sgn y=KM)(g:O[k]?=KB c)(i:c.length<4000000)(p q:Option D):
  Dx [p,q,KB (.own k),KB (.str [x]),KB (.str [y])] O=if (x !=45&&(y !=45&&x !=y))=KM then .rt .non O else .nx [p,q,KB (.own k),KB (.str [x]),KB (.str [y])] (O.set k (c++[.str [if x==45 then y else x]])):=by
 let a:Sg:=[p,q,KB (.own k),KB (.str [x]),KB (.str [y])];have b:tw (pA (f_ (pC pT) (a_ 3) (dC (.str [45])))) (tw (pA (f_ (pC pT) (a_ 4) (dC (.str [45])))) (pA (f_ (pC pT) (a_ 3) (a_ 4)))) a O=.ok (x !=45&&(y !=45&&x !=y)) O:=
  CD (qV ((qG rfl rfl).trans (J6 O d (show sgn 45=KM from rfl)))) λ_=>CD (qV ((qG rfl rfl).trans (J6 O f (show sgn 45=KM from rfl)))) λ_=>qV ((qG rfl rfl).trans (J6 O d f))
 unfold Dx;cases h:(x !=45&&(y !=45&&x !=y)) with
 | true=>
  rw[h] at b;have e:pS (tw (pA (f_ (pC pT) (a_ 3) (dC (.str [45])))) (tw (pA (f_ (pC pT) (a_ 4) (dC (.str [45])))) (pA (f_ (pC pT) (a_ 3) (a_ 4))))) (l_ (dC .non)) pU a O=.rt .non O:=by rw[tZ b];rfl
  rw[qb rfl];exact A3 e
 | false=>
  rw[h] at b;have e:pS (tw (pA (f_ (pC pT) (a_ 3) (dC (.str [45])))) (tw (pA (f_ (pC pT) (a_ 4) (dC (.str [45])))) (pA (f_ (pC pT) (a_ 3) (a_ 4))))) (l_ (dC .non)) pU a O=.nx a O:=by rw[tZ b];rfl
  rw[qq 'u'];refine(sE e).trans ?_;simp only[n_,pY,pS,l_,rG,pU,a_,dC,b_,d_,j_,pB,f_,pA,qo,qQ,x8,R.bnd,R.bnS,fin,cx,cy,dg,dG,aS,cP,d0,eV,d6,fB,if_true,if_false,d8,eI,bi,ite_true,ite_false,a,xY,zB,JV O d (show sgn 45=KM from rfl)];cases j:(x==45) with
  |true=>simp only[n_,pY,pS,l_,rG,pU,a_,dC,b_,d_,j_,pB,f_,pA,qo,qQ,x8,R.bnd,R.bnS,fin,cx,cy,dg,dG,aS,cP,d0,eV,d6,fB,if_true,if_false,d8,eI,bi,ite_true,ite_false,g,i]
  |false=>simp only[n_,pY,pS,l_,rG,pU,a_,dC,b_,d_,j_,pB,f_,pA,qo,qQ,x8,R.bnd,R.bnS,fin,cx,cy,dg,dG,aS,cP,d0,eV,d6,fB,if_true,if_false,d8,eI,bi,ite_true,ite_false,g,i]
def Zx(d:1<=n)(e:n<=4)(f:a∈YP n)(g:b∈YP n)(σ:Sg)(O:Ow)(i j:Nat)(h:a_ i σ O=.ok (.str a) O)(k:a_ j σ O=.ok (.str b) O):ya (b_ (a_ i) (b_ (a_ j) d_)) σ O=.ok (.zip (.val (a.map λc=>.str [c])) (.val (b.map λc=>.str [c]))) O:=by show((b_ (a_ i) (b_ (a_ j) d_) σ O).bnd _)=_;rw[qe h k];show(match vk (.str a),vk (.str b) with|some p,KB q=>R.ok (Src.zip p q) O|_,_=>R.bad)=_;rw[DR d e f,DR d e g]
def Z7{n:Nat}(d:1<=n)(e:n<=4){a b:List Nat}(g:a∈YP n)(h:b∈YP n)(O:Ow)(i:Nat):(Src.zip (.val (a.map λc=>D.str [c])) (.val (b.map λc=>D.str [c]))).get O i=((aA n).map λk=>D.tup [.str [a.getD k 0],.str [b.getD k 0]])[i]?:=by
 have j:=qW d e g;have l:=qW d e h;rw[CK];show(match (a.map λc=>D.str [c])[i]?,(b.map λc=>D.str [c])[i]? with|some x,KB y=>KB (D.tup [x,y])|_,_=>KF)=_;by_cases f:i<n
 ·rw[qb f,Ht 'd' λc=>D.str [c],Ht 'd' λc=>D.str [c]]
 ·rw[qq f,aQ.mpr (by simp;lia)]
def uu(n:Nat)(a b:List Nat):D:=if (aA n).any (rF a b)=KM then .non else .str (met n a b)
def XU{n:Nat}(r:1<=n)(p:n<=4){a b:List Nat}(y:a∈YP n)(z:b∈YP n){O:Ow}(N:vO O):DJ [.str a,.str b] O=.ok (uu n a b) O:=by
 have T:=qW r p y;have U:=qW r p z;have V:pY 2 (wM d_) [KB (.str a),KB (.str b),KF,KF,KF] O=.nx [KB (.str a),KB (.str b),KB (.own O.length),KF,KF] (O++[[]]):=rfl;have W:=Zx r p y z [KB (.str a),KB (.str b),KB (.own O.length),KF,KF] (O++[[]]) 0 1 rfl rfl;let f:Src:=.zip (.val (a.map λc=>D.str [c])) (.val (b.map λc=>D.str [c]));let step:D->Sg->Ow->RS:=λd σ O=>match Tg.put (.two 3 4) d σ with|some o=>Dx o O|none=>.bad
 have A:∀O i,f.get O i=((aA n).map λk=>D.tup [.str [a.getD k 0],.str [b.getD k 0]])[i]?:=λO i=>Z7 r p y z O i;have G:f.size (O++[[]])=n:=by
  show min (a.map λc=>D.str [c]).length (b.map λc=>D.str [c]).length=n;simp[T,U]
 let I:Nat->Sg->Ow->Prop:=λk σ O'=>∃s t,σ=[KB (.str a),KB (.str b),KB (.own O.length),s,t]/\O'=O++[(aA k).map λj=>D.str [rW a b j]];have q:∀l:List D,(O++[l])[O.length]?=KB l:=λl=>by simp
 have H:∀k σ O',k<n->I k σ O'->step (D.tup [.str [a.getD k 0],.str [b.getD k 0]]) σ O'=(if rF a b k=KM then RS.rt .non O' else RS.nx [KB (.str a),KB (.str b),KB (.own O.length),KB (.str [a.getD k 0]),KB (.str [b.getD k 0])] (O++[(aA (k+1)).map λj=>D.str [rW a b j]])):=by
  rintro k σ O' g ⟨s,t,rfl,rfl⟩;have:=zgx (yn r p y g) (yn r p z g) (q ((aA k).map λj=>D.str [rW a b j])) (by simp;lia) (KB (.str a)) (KB (.str b));refine this.trans ?_;have X:(O++[(aA k).map λj=>D.str [rW a b j]]).set O.length ((aA k).map (λj=>D.str [rW a b j])++[.str [if a.getD k 0==45 then b.getD k 0 else a.getD k 0]])=O++[(aA (k+1)).map λj=>D.str [rW a b j]]:=by
   rw[iJ _ _ (aF _),iX,no,dE];rfl
  rw[X];rfl
 show xb O.length (fin (n_ _ (n_ (vU _ (.two 3 4) Dx) (l_ (AQ (dC (.str [])) (b_ (a_ 2) d_)))) [KB (.str a),KB (.str b),KF,KF,KF] O))=_;rw[sE V];have P:vU (ya (b_ (a_ 0) (b_ (a_ 1) d_))) (.two 3 4) Dx [KB (.str a),KB (.str b),KB (.own O.length),KF,KF] (O++[[]])=qU f step n 0 [KB (.str a),KB (.str b),KB (.own O.length),KF,KF] (O++[[]]):=by
  refine(Pa W).trans ?_;show qU f step (f.size (O++[[]])) 0 _ _=_;rw[G]
 unfold uu;by_cases B:(aA n).any (rF a b)=KM
 ·rw[qb B]
  -- the first place where they rF
  obtain⟨j,v,Y,Z⟩:∃j,j<n/\rF a b j=KM/\∀k,k<j->rF a b k=K7:=by
   obtain⟨k,g,J⟩:=bF.mp B;have:∃j,j<n/\rF a b j=KM:=⟨k,aR.mp g,J⟩;have K:∀m,(∃j,j<m/\rF a b j=KM)->∃j,j<m/\rF a b j=KM/\∀k,k<j->rF a b k=K7:=by
    intro m
    induction m with
    |zero=>rintro⟨j,v,_⟩;lia
    | succ m ih=>
     rintro⟨j,v,J⟩;by_cases h:∃j,j<m/\rF a b j=KM
     ·obtain⟨j',w,C,u⟩:=ih h;exact⟨j',by lia,C,u⟩
     ·refine⟨j,v,J,λk g=>?_⟩;cases e:rF a b k with
      |false=>rfl
      |true=>exact absurd ⟨k,by lia,e⟩ h
   exact K n this
  obtain⟨o,O',Q,w,C,u⟩:=JG (l:=aA n) (stop:=j) (step:=step) A (by simp;lia) I (λk x σ O' g e L=>by
   obtain⟨rfl,E⟩:=Ri e;refine⟨_,_,(H x σ O' E L).trans (qq (by rw[Z x g];decide)),_,_,rfl,rfl⟩) j 0 n [KB (.str a),KB (.str b),KB (.own O.length),KF,KF] (O++[[]]) 'd' 'k' ⟨KF,KF,rfl,rfl⟩
  have hr:qU f step n 0 [KB (.str a),KB (.str b),KB (.own O.length),KF,KF] (O++[[]])=.rt .non O':=by
   rw[u];refine Yj (l:=aA n) A (a:=j) (gc v) C ?_;exact(H j o O' v w).trans (qb Y)
  obtain⟨s,t,rfl,rfl⟩:=w;rw[A3 (P.trans hr)];exact Kf N [(aA j).map λk=>D.str [rW a b k]] rfl
 ·rw[qq B];have L4:∀k,k<n->rF a b k=K7:=λk g=>by
   cases e:rF a b k with
   |false=>rfl
   |true=>exact absurd (bF.mpr ⟨k,aR.mpr g,e⟩) B
  obtain⟨o,O',Q,w,C,u⟩:=JG (l:=aA n) (stop:=n) (step:=step) A 'k' I (λk x σ O' g e L=>by
   obtain⟨rfl,E⟩:=Ri e;refine⟨_,_,(H x σ O' E L).trans (qq (by rw[L4 x E];decide)),_,_,rfl,rfl⟩) n 0 n [KB (.str a),KB (.str b),KB (.own O.length),KF,KF] (O++[[]]) 'd' 'k' ⟨KF,KF,rfl,rfl⟩
  obtain⟨s,t,rfl,rfl⟩:=w;have S:=zhg (l:=aA n) (step:=step) A Q [KB (.str a),KB (.str b),KB (.own O.length),s,t] (O++[(aA n).map λk=>D.str [rW a b k]]);rw[cM] at S;rw[S] at u;rw[sE (P.trans u)];have M:AQ (dC (.str [])) (b_ (a_ 2) d_) [KB (.str a),KB (.str b),KB (.own O.length),s,t] (O++[(aA n).map λk=>D.str [rW a b k]])=.ok (.str (met n a b)) (O++[(aA n).map λk=>D.str [rW a b k]]):=by
   have hm:(aA n).map (λk=>D.str [rW a b k])=(met n a b).map λc=>D.str [c]:=by unfold met;rw[bg];rfl
   have F:=X4 (σ:=[]) (O:=O++[(aA n).map λk=>D.str [rW a b k]]) (O':=O++[(aA n).map λk=>D.str [rW a b k]]) (tA:=λ_ O=>.ok [.lst ((met n a b).map λc=>.str [c])] O) (met n a b) (by unfold met;simp;lia) (by unfold met;simp;lia) rfl;have h3:rJ (O++[(aA n).map λk=>D.str [rW a b k]]) (.own O.length)=KB ((met n a b).map λc=>D.str [c]):=by rw[<- hm];exact q _
   have p:rJ (O++[(aA n).map λk=>D.str [rW a b k]]) (.lst ((met n a b).map λc=>.str [c]))=KB ((met n a b).map λc=>D.str [c]):=rfl;unfold AQ at F ⊢;simp only[dC,b_,d_,a_,R.bnd,cx,cy] at F ⊢;simp only[h3];simp only[p] at F;exact F
  rw[rL M];exact Kf N [(aA n).map λk=>D.str [rW a b k]] rfl
def Dl(a b:List Nat):List Nat:=(pM a).filter λp=>(pM b).contains p
def Ry(b:1<=n)(c:n<=4)(d:a∈YP n):pM a=(aA (2 ^ n)).filter λp=>(pM a).contains p:=by have:=ak.mp zdn a (t5 b c d);rw[qW b c d] at this;have:=of_decide_eq_true this;exact this.symm
def zcm(c:1<=n)(d:n<=4)(e:a∈YP n)(o:b∈YP n)(h:(aA n).any (rF a b)=KM):Dl a b=[]:=by
 obtain⟨k,g,f⟩:=bF.mp h;unfold rF at f;simp only[aW,bne_iff_ne,ne_eq] at f;unfold Dl;rw[fv];intro p q i;have j:=Cs c d e q;have l:=(A5 c d e j).mp q;have m:=(A5 c d o j).mp (by simpa using i);unfold DM at l m;rw[qW c d e,ak] at l;rw[qW c d o,ak] at m;have e1:=l k g;have e2:=m k g;simp only[cz,beq_iff_eq] at e1 e2;rcases e1 with e1|e1
 ·exact f.1 e1
 ·rcases e2 with e2|e2
  ·exact f.2.1 e2
  ·refine f.2.2 ?_;have r:k<(vt n p).length:=by
    have:=ak.mp RL _ (Qh (t5 c d e) (p:=p) (by rw[qW c d e];exact j));simp only[aW,beq_iff_eq] at this;rw[qW c d e] at this;rw[this.1.1.2];exact aR.mp g
   rw[e1,e2]
def Y0(d:1<=n)(f:n<=4)(k:a∈YP n)(l:b∈YP n)(h:(aA n).any (rF a b)≠KM):Dl a b=pM (met n a b):=by
 have m:=GV d f k l;rw[Ry d f m];unfold Dl;rw[Ry d f k,List.filter_filter];refine io λp v=>?_;have o:=aR.mp v;rw[eO,aW,ci,ci,ci,A5 d f k o,A5 d f l o,A5 d f m o];unfold DM;rw[qW d f k,qW d f l,qW d f m,ak,ak,ak];constructor
 ·rintro⟨s,t⟩ i c;have y:=s i c;have A:=t i c;rw[D0 (aR.mp c)];unfold rW;split
  ·exact s i c
  ·exact t i c
 ·intro q;have g:∀i,i∈aA n->(a.getD i 0==45||a.getD i 0==(vt n p).getD i 1)=KM/\(b.getD i 0==45||b.getD i 0==(vt n p).getD i 1)=KM:=λi c=>by
   have e:=q i c;rw[D0 (aR.mp c)] at e;have r:rF a b i=K7:=by
    cases w:rF a b i with
    |false=>rfl
    |true=>exact absurd (bF.mpr ⟨i,c,w⟩) h
   unfold rF at r;unfold rW at e;by_cases j:a.getD i 0=45
   ·rw[qb (by simpa using j)] at e;exact⟨by rw[j];rfl,e⟩
   ·rw[qq (by simpa using j)] at e;refine⟨e,?_⟩;simp only[cz,beq_iff_eq] at e ⊢;by_cases u:b.getD i 0=45
    ·exact .inl u
    ·right;have x:a.getD i 0=b.getD i 0:=by
      simp only[lh,bne_eq_false_iff_eq] at r;rcases r with z|z|z
      ·exact absurd z j
      ·exact absurd z u
      ·exact z
     rcases e with z|z
     ·exact absurd z j
     ·rw[<- x];exact z
  exact⟨λi c=>(g i c).2,λi c=>(g i c).1⟩
def z8n:(ou.all λcs=>!(pM cs).isEmpty)=KM:=by decide +kernel
def Qf(b:1<=n)(c:n<=4)(d:a∈YP n):(pM a).isEmpty=K7:=by have:=ak.mp z8n a (t5 b c d);simpa using this
def rQ(n:Nat)(a b:List Nat):Bool:=(aA n).any (rF a b)
def q0(n:Nat)(l:List (List Nat)):List (List Nat):=l.filter λt=>!(l.any λo=>decide (t≠o)&&qD n t o)
def Sf(e:qD n a b=KM)(f:qD n b c=KM):qD n a c=KM:=Ct λk d=>by
 rcases xq f d with z|z
 ·exact .inl z
 ·rcases xq e d with y|y
  ·exact .inl (z.trans y)
  ·exact .inr (z.trans y)
def oF:t∈q0 n l↔t∈l/\∀o∈l,qD n t o=KM->t=o:=by
 unfold q0;rw[aO];refine and_congr_right λ_=>?_;rw[im,ip];constructor
 ·intro h o a c;have:=h o a;simp only[aW,decide_eq_true_eq,not_and] at this;exact cN λd=>this d c
 ·intro h o a b;simp only[aW,decide_eq_true_eq] at b;exact b.1 (h o a b.2)
def Gb(n:Nat)(a:List Nat):Nat:=(aA n).countP λk=>a.getD k 0==45
theorem RO{α:Type}{p q:α->Bool}:∀(l:List α),(∀x∈l,p x=KM->q x=KM)->(∃x∈l,q x=KM/\p x=K7)->l.countP p<l.countP q
 |[],_,h=>by obtain⟨_,h,_⟩:=h;cases h
 | x::l,h,he=>by
  have e:l.countP p<=l.countP q:=li λy hy=>h y (al _ hy);rw[mZ,mZ];obtain⟨y,hy,b,c⟩:=he;rcases aq.mp hy with rfl|hy
  ·rw[b,c];simp;lia
  ·have f:=RO l (λy hy=>h y (al _ hy)) ⟨y,hy,b,c⟩;have d:=h x au;by_cases a:p x=KM
   ·rw[qb a,qb (d a)];lia
   ·rw[qq a];lia
def P8{n:Nat}{a b:List Nat}(f:a.length=n)(g:b.length=n)(h:qD n a b=KM)(i:a≠b):Gb n a<Gb n b:=by
 refine RO _ (λk c d=>?_) ?_
 ·have d:a.getD k 0=45:=by simpa using d
  rcases xq h (aR.mp c) with z|z
  ·simpa using z
  ·rw[z,d];rfl
 ·refine cN λj=>i (Qm f g λk c=>?_);rcases xq h c with z|z
  ·refine cN λe=>j ⟨k,aR.mpr c,by simpa using z,?_⟩;rw[z] at e;simpa using e
  ·exact z.symm
def Zb(n:Nat)(a:List Nat):Gb n a<=n:=by have:=List.countP_le_length (p:=λk=>a.getD k 0==45) (l:=aA n);rw[cM] at this;exact this
theorem Q7(b:∀t∈l,t.length=n):∀(f:Nat)(s:List Nat),s∈l->n<=Gb n s+f->∃t∈q0 n l,qD n s t=KM
 | 0,s,hs,hd=>⟨s,oF.mpr ⟨hs,λo a h=>cN λc=>by
   have:=P8 (b s hs) (b o a) h c;have:=Zb n o;lia⟩,R4 n s⟩
 | f+1,s,hs,hd=>by
  by_cases d:s∈q0 n l
  ·exact⟨s,d,R4 n s⟩
  ·rw[oF] at d;have:∃o∈l,qD n s o=KM/\s≠o:=cN λe=>d ⟨hs,λo a h=>cN λc=>e ⟨o,a,h,c⟩⟩;obtain⟨o,a,h,c⟩:=this;have j:=P8 (b s hs) (b o a) h c;obtain⟨t,g,i⟩:=Q7 b f o a 'd';exact⟨t,g,Sf h i⟩
def Nn(a:∀t∈l,t.length=n)(b:s∈l):∃t∈q0 n l,qD n s t=KM:=Q7 a n s b 'd'
def zen(a:∀m∈M,m∈S)(h:∀t∈S,t.length=n)(i:∀s∈S,∃m∈M,qD n s m=KM)(t:List Nat):t∈q0 n M↔t∈q0 n S:=by
 rw[oF,oF];constructor
 ·rintro⟨b,c⟩;refine⟨a t b,λo j d=>?_⟩;obtain⟨m,f,k⟩:=i o j;have e:=c m f (Sf d k);subst e;exact zeQ (h t (a t b)) (h o j) d k
 ·rintro⟨b,c⟩;obtain⟨m,f,d⟩:=i t b;have e:=c m (a m f) d;subst e;exact⟨f,λo g l=>c o (a o g) l⟩
noncomputable def ex(c:Nat):Nat:=if c==48 then 49 else 48
def pick(n:Nat)(c:List Nat)(k:Nat):List Nat:=(aw n 45).set k (ex (c.getD k 0))
def xj(n:Nat)(c:List Nat):List (List Nat):=((aA n).filter λk=>c.getD k 0 !=45).map (pick n c)
def rO(n:Nat)(cl:List (List Nat)):List (List Nat):=(YP n).filter λt=>cl.all λc=>rQ n t c
def uT(n:Nat)(wide:List (List Nat))(c:List Nat):List (List Nat):=wide.flatMap λw=>((xj n c).filter λp=>!rQ n w p).map (met n w)
def VU(c:Nat):sgn (ex c)=KM:=by unfold ex;split<;>rfl
def Vn(c:Nat):ex c≠45:=by unfold ex;split<;>decide
def RW(a:j<n):(pick n c k).getD j 0=if k=j then ex (c.getD k 0) else 45:=by
 unfold pick;rw[aG,List.getElem?_set];by_cases h:k=j
 ·rw[qb h,qb h,qb (by rw[iH];lia)];rfl
 ·rw[qq h,qq h,e8,qb a];rfl
def KL:pick n c k∈YP n:=by
 refine D_ n _ (by unfold pick;simp) λx a=>?_;unfold pick at a;rcases fX a with a|rfl
 ·rw[List.eq_of_mem_replicate a];rfl
 ·exact VU _
def So(h:qD n a b=KM)(e:rQ n b c=KM):rQ n a c=KM:=by
 unfold rQ at e ⊢;obtain⟨k,f,d⟩:=bF.mp e;refine bF.mpr ⟨k,f,?_⟩;unfold rF at d ⊢;simp only[aW,bne_iff_ne,ne_eq] at d ⊢;rcases xq h (aR.mp f) with z|z
 ·exact absurd z d.1
 ·rw[<- z];exact d
def zgt:qD n (met n a b) a=KM:=Ct λk c=>by
 rw[D0 c];unfold rW;split
 ·rename_i h;left;simpa using h
 ·right;rfl
def zdi(h:rQ n a b=K7):qD n (met n a b) b=KM:=Ct λk d=>by
 rw[D0 d];unfold rW;have c:rF a b k=K7:=by
  unfold rQ at h;rw[ip] at h;simpa using h k (aR.mpr d)
 unfold rF at c;simp only[lh,bne_eq_false_iff_eq] at c;split
 ·right;rfl
 ·rename_i e;rcases c with z|z|z
  ·rw[z] at e;exact absurd rfl e
  ·exact .inl z
  ·exact .inr z.symm
def zcr(a:k<n)(b:c.getD k 0≠45):rQ n (pick n c k) c=KM:=by
 refine bF.mpr ⟨k,aR.mpr a,?_⟩;unfold rF;rw[RW a,qb rfl];simp only[aW,bne_iff_ne,ne_eq];refine⟨Vn _,b,?_⟩;unfold ex;split
 ·rename_i h;have:c.getD k 0=48:=by simpa using h
  rw[this];decide
 ·rename_i h;intro e;rw[<- e] at h;exact h rfl
def oH:t∈rO n cl↔t∈YP n/\∀c∈cl,rQ n t c=KM:=by unfold rO;rw[aO,ak]
def oW:t∈uT n wide c ↔ ∃w∈wide,∃k,k<n/\c.getD k 0≠45/\rQ n w (pick n c k)=K7/\t=met n w (pick n c k):=by
 unfold uT xj;rw[fk];refine exists_congr λw=>and_congr_right λ_=>?_;rw[aB];constructor
 ·rintro⟨p,d,rfl⟩;rw[aO,aB] at d;obtain⟨⟨k,a,rfl⟩,b⟩:=d;rw[aO,aR] at a;exact⟨k,a.1,by simpa using a.2,by simpa using b,rfl⟩
 ·rintro⟨k,a,e,b,rfl⟩;exact⟨pick n c k,aO.mpr ⟨aB.mpr ⟨k,aO.mpr ⟨aR.mpr a,by simpa using e⟩,rfl⟩,by simpa using b⟩,rfl⟩
section
variable{n:Nat}(h1:1<=n)(h4:n<=4)
include h1 h4
theorem OV(h:t∈uT n (q0 n (rO n cl)) c):t∈rO n (cl++[c]):=by
 obtain⟨w,e,k,f,g,i,rfl⟩:=oW.mp h;obtain⟨a,b⟩:=oH.mp (oF.mp e).1;refine oH.mpr ⟨GV h1 h4 a KL,λd t_=>?_⟩;rcases aP.mp t_ with t_|t_
 ·exact So zgt (b d t_)
 ·have:d=c:=by simpa using t_
  subst this;exact So (zdi i) (zcr f g)
theorem zdR(x:c∈YP n)(h:s∈rO n (cl++[c])):∃m∈uT n (q0 n (rO n cl)) c,qD n s m=KM:=by
 obtain⟨l,o⟩:=oH.mp h;have f:s∈rO n cl:=oH.mpr ⟨l,λA B=>o A (bV _ B)⟩;obtain⟨w,C,p⟩:=Nn (λt D=>qW h1 h4 (oH.mp D).1) f;have q:=o c 'k';unfold rQ at q;obtain⟨k,b,g⟩:=bF.mp q;have b:=aR.mp b;unfold rF at g;simp only[aW,bne_iff_ne,ne_eq] at g;obtain⟨r,u,d⟩:=g;have E:s.getD k 0=ex (c.getD k 0):=by
  have s1:=yn h1 h4 l b;have s2:=yn h1 h4 x b;unfold sgn at s1 s2;simp only[cz,beq_iff_eq] at s1 s2;unfold ex;rcases s2 with(s2|s2)|s2
  ·exact absurd s2 u
  ·rw[s2] at d ⊢;rcases s1 with(s1|s1)|s1
   ·exact absurd s1 r
   ·exact absurd s1 d
   ·rw[s1];rfl
  ·rw[s2] at d ⊢;rcases s1 with(s1|s1)|s1
   ·exact absurd s1 r
   ·rw[s1];rfl
   ·exact absurd s1 d
 have v:qD n s (pick n c k)=KM:=Ct λj a=>by
  rw[RW a];by_cases e:k=j
  ·rw[qb e];subst e;right;exact E.symm
  ·rw[qq e];left;rfl
 have F:rQ n w (pick n c k)=K7:=by
  unfold rQ;rw[ip];intro j a i;have a:=aR.mp a;unfold rF at i;simp only[aW,bne_iff_ne,ne_eq] at i;obtain⟨G,H,I⟩:=i;rcases xq p a with z|z
  ·exact G z
  ·rcases xq v a with y|y
   ·exact H y
   ·exact I (z.trans y.symm)
 refine⟨_,oW.mpr ⟨w,C,k,b,u,F,rfl⟩,Ct λj a=>?_⟩;rw[D0 a];unfold rW;split
 ·exact xq v a
 ·exact xq p a
theorem J9:(YP n).Pairwise (· < ·):=by rcases vV h1 h4 with rfl|rfl|rfl|rfl<;>decide +kernel
theorem zcS(b:c∈YP n):q0 n (p8 (uT n (q0 n (rO n cl)) c))=q0 n (rO n (cl++[c])):=by refine D5 ((CB _).filter _) (((J9 h1 h4).filter _).filter _) ?_;refine zen (λm a=>OV h1 h4 ((xr _).mp a)) (λt d=>qW h1 h4 (oH.mp d).1) λs e=>?_;obtain⟨m,a,f⟩:=zdR h1 h4 b e;exact⟨m,(xr _).mpr a,f⟩
theorem JB(h:∀x∈M,x∈YP n/\q x=KM):(p8 M).length<=((YP n).filter q).length:=by
 have e:p8 M=(YP n).filter λt=>M.contains t:=D5 (CB _) ((J9 h1 h4).filter _) λx=>by
  rw[xr,aO,ci];exact⟨λa=>⟨(h x a).1,a⟩,λa=>a.2⟩
 rw[e,<- jf,<- jf];exact li λx _ a=>(h x (ci.mp a)).2
end
def Zl:((YP 4).all λc=>decide (((YP 4).filter λt=>rQ 4 t c).length<64)||(YP 4).all λa=>a==c||decide (((YP 4).filter λt=>rQ 4 t a&&rQ 4 t c).length<64))=KM:=by decide +kernel
def YY:([1,2,3,4].all λn=>decide (q0 n (YP n)=[aw n 45]))=KM:=by decide +kernel
theorem Qi(x:List Nat):∀l:List (List Nat),(uV x l).length<=l.length+1
 |[]=>by simp[uV]
 | y::r=>by
  unfold uV;split
  ·simp
  ·split
   ·simp
   ·have:=Qi x r;simp;lia
def Qe(c:List (List Nat)):(p8 c).length<=c.length:=by
 have:∀(l b:List (List Nat)),(l.foldl (λl x=>uV x l) b).length<=b.length+l.length:=λl=>by
  induction l with
  |nil=>intro b;simp
  | cons a l ih=>
   intro b;rw[fE];have d:=ih (uV a b);have e:=Qi a b;rw[aS];lia
 have h:=this c [];simpa [p8] using h
def QW(a:1<=n)(b:n<=4):q0 n (rO n [])=[aw n 45]:=by
 have e:rO n []=YP n:=by unfold rO;simp
 rw[e];have:=ak.mp YY n (by rcases vV a b with rfl|rfl|rfl|rfl<;>simp);simpa using this
def Rx(n:Nat)(c:List Nat):(xj n c).length<=n:=by unfold xj;rw[ax];have:=bu (λk=>c.getD k 0 !=45) (aA n);rwa [cM] at this
def zgJ(f:1<=n)(g:n<=4)(j:c∈YP n)(k:∀a∈cl,a∈YP n)(i:(cl++[c]).Pairwise (· < ·)):(p8 (uT n (q0 n (rO n cl)) c)).length<64:=by
 have d:∀t∈uT n (q0 n (rO n cl)) c,t∈YP n/\∀a∈cl++[c],rQ n t a=KM:=λt m=>oH.mp (OV f g m);by_cases r:n<=3
 ·have h:=JB f g (q:=λ_=>KM) λx b=>⟨(d x b).1,rfl⟩;have o:((YP n).filter λ_=>KM).length<64:=by
   have:n=1\/n=2\/n=3:=by lia
   rcases this with rfl|rfl|rfl<;>decide
  lia
 ·have:n=4:=by lia
  subst this;have hq:=ak.mp Zl c j;rw[cz,decide_eq_true_eq] at hq;rcases hq with hq|hq
  ·exact eG (JB f g (q:=λt=>rQ 4 t c) λx b=>⟨(d x b).1,(d x b).2 c 'k'⟩) hq
  ·rcases List.eq_nil_or_concat cl with rfl|⟨l,a,rfl⟩
   ·have o:(uT 4 (q0 4 (rO 4 [])) c).length<=4:=by
     rw[QW f g];unfold uT;rw[cY,iG,bC,ax];exact aM (bu _ _) (Rx 4 c)
    have:=Qe (uT 4 (q0 4 (rO 4 [])) c);lia
   ·have p:a<c:=by
     rw[bX] at i;exact i.2.2 a 'k' c 'k'
    have:=ak.mp hq a (k a 'k');rw[cz,decide_eq_true_eq,beq_iff_eq] at this;rcases this with e|e
    ·subst e;exact absurd p (fZ _)
    ·refine eG (JB f g (q:=λt=>rQ 4 t a&&rQ 4 t c) λx b=>⟨(d x b).1,?_⟩) e;rw[(d x b).2 c 'k',(d x b).2 a 'k'];rfl
theorem GW{α:Type}{src:Src}{step:D->Ow->List D->R (List D)}{O:Ow}{inj:α->D}{g:α->List D}{l:List α}{K4:List D}(b:∀i,src.get O i=(l.map inj)[i]?)(c:∀(i:Nat)a,l[i]?=KB a->step (inj a) O (K4++(l.take i).flatMap g)=.ok (K4++(l.take (i+1)).flatMap g) O):
  ∀(f i:Nat),i<=l.length->l.length<=i+f->qh src step f i O (K4++(l.take i).flatMap g)=.ok (K4++l.flatMap g) O
 | 0,i,h1,h2=>by
  have:i=l.length:=by lia
  subst this;have e:src.get O l.length=KF:=by rw[b];simp
  unfold qh;rw[e,iD]
 | f+1,i,h1,h2=>by
  by_cases h:i=l.length
  ·subst h;have e:src.get O l.length=KF:=by rw[b];simp
   unfold qh;rw[e,iD]
  ·have d:i<l.length:=by lia
   have e:src.get O i=KB (inj l[i]):=by rw[b,a8,ao d];rfl
   unfold qh;rw[e];show((step (inj l[i]) O (K4++(l.take i).flatMap g)).bnd _)=_;rw[c i l[i] (ao d)];exact GW b c f (i+1) 'd' 'd'
def Kq{α b:Type}{g:α->List b}{l:List α}{i:Nat}{a:α}(h:l[i]?=KB a):(l.take (i+1)).flatMap g=(l.take i).flatMap g++g a:=by rw[ig,h,lQ];simp
def z8J{α a:Type}{g:α->List a}(l:List α)(i:Nat):((l.take i).flatMap g).length<=(l.flatMap g).length:=by
 conv=>rhs;rw[<- cw i l]
 rw[lQ,aE];lia
theorem KS{α a:Type}(f:α->a):∀l:List α,(l.flatMap λb=>[f b])=l.map f
 |[]=>rfl
 |x::l=>by rw[cY,KS f l];rfl
def Wf{α h:Type}{ext:Nat}{it0 c:DI}{i j:Nat}{te:DE}{σ:Sg}{O O0:Ow}{src:Src}{l:List α}{inj:α->D}{m:α->List h}{inj2:h->D}{e:α->h->D}{τ:α->Sg}{τ2:α->h->Sg}{o:Bool}
  (v:it0 σ O0=.ok src O) (x:∀i,src.get O i=(l.map inj)[i]?) (hsz:src.size O=l.length) (n:(l.flatMap λa=>(m a).map (e a)).length<1900000)
  (y:∀a,(pO (pO (σ++aw ext KF) [i,j]) [i,j]).set i (KB (inj a))=τ a) (z:∀a b,(pO (τ a) [j]).set j (KB (inj2 b))=τ2 a b)
  (A:∀a∈l,c (τ a) O=.ok (.val ((m a).map inj2)) O) (B:∀a∈l,∀b∈m a,te (τ2 a b) O=.ok (e a b) O):
  qj o ext it0 (.one i) [] [⟨c,.one j,[]⟩] te σ O0=uU o (.ok (l.flatMap λa=>(m a).map (e a)) O):=by
 unfold qj Ab;rw[v];show uU o (wU (qh src _ (src.size O) 0 O []))=_;have w:=GW (O:=O) (src:=src) (step:=yc ⟨it0,.one i,[]⟩ [⟨c,.one j,[]⟩] te (pO (σ++aw ext KF) (pX [⟨it0,.one i,[]⟩,⟨c,.one j,[]⟩]))) (g:=λa=>(m a).map (e a)) (K4:=[]) x (λk a p=>by
  have r:=aL p;show tW [⟨c,.one j,[]⟩] te ((pO (pO (σ++aw ext KF) [i,j]) [i,j]).set i (KB (inj a))) O _=_;rw[y];unfold tW;show((c (τ a) O).bnd _)=_;rw[A a r];show qh (.val ((m a).map inj2)) _ ((m a).map inj2).length 0 O _=_;have f:=z8J (g:=λa=>(m a).map (e a)) l (k+1);rw[Kq p] at f ⊢;rw[aE] at f;have s:=GW (O:=O) (src:=.val ((m a).map inj2)) (step:=λd C K4=>match Tg.put (.one j) d (pO (τ a) (pX [⟨c,.one j,[]⟩])) with|some qA=>(sW [] qA C).bnd λb t=>if b=KM then tW [] te qA t K4 else .ok K4 t|none=>.bad) (g:=λb=>[e a b]) (l:=m a) (inj:=inj2) (K4:=[]++(l.take k).flatMap λa=>(m a).map (e a)) (λ_=>rfl) (λq b u=>by
   have E:=aL u;show tW [] te ((pO (τ a) [j]).set j (KB (inj2 b))) O _=_;rw[z];unfold tW;rw[B a r b E];show(if _<4000000 then _ else _)=_;have G:((m a).take q).length<=((m a).map (e a)).length:=by rw[ax];exact lC q (m a)
   have F:(((m a).take q).flatMap λb=>[e a b]).length=((m a).take q).length:=by
    rw[KS,ax]
   rw[qb (by rw[cQ,aE,F];lia),Kq u];simp) ((m a).map inj2).length 0 (cn _) 'k'
  rw[jg,iG,bC,KS] at s;refine Eq.trans (show _=_ from s) ?_;rw[cQ];rfl) l.length 0 (cn _) 'k'
 rw[jg,iG,bC,cQ] at w;rw[hsz,w];rfl
def Yt{α:Type}{ext:Nat}{it0:DI}{i:Nat}{t:DT}{te:DE}{σ:Sg}{O O0:Ow}{src:Src}{l:List α}{inj:α->D}{p:α->Bool}{e:α->List Nat}{τ:α->Sg}(m:it0 σ O0=.ok src O)(n:∀i,src.get O i=(l.map inj)[i]?)(hsz:src.size O=l.length)(o:l.length<1000)
  (q:∀a,(pO (pO (σ++aw ext KF) [i]) [i]).set i (KB (inj a))=τ a) (r:∀a∈l,t (τ a) O=.ok (p a) O) (s:∀a∈l,p a=KM->te (τ a) O=.ok (.str (e a)) O) (u:(p8 ((l.filter p).map e)).length<1000):
  zS K7 ext it0 (.one i) [t] [] te σ O0=.ok (.lst ((p8 ((l.filter p).map e)).map .str)) O:=by
 unfold zS wQ;rw[m];show M3 K7 (wU (qh src _ (src.size O) 0 O []))=_;have w:=GW (O:=O) (src:=src) (step:=tU ⟨it0,.one i,[t]⟩ [] (xV te) (pO (σ++aw ext KF) (pX [⟨it0,.one i,[t]⟩]))) (g:=λa=>if p a=KM then [D.str (e a)] else []) (K4:=[]) n (λk a f=>by
  have h:=aL f;show((sW [t] ((pO (pO (σ++aw ext KF) [i]) [i]).set i (KB (inj a))) O).bnd λb j=>if b=KM then sY [] (xV te) ((pO (pO (σ++aw ext KF) [i]) [i]).set i (KB (inj a))) j ([]++(l.take k).flatMap λa=>if p a=KM then [D.str (e a)] else []) else R.ok ([]++(l.take k).flatMap λa=>if p a=KM then [D.str (e a)] else []) j)=_;rw[q,GR (r a h),Kq f];show(if p a=KM then sY [] (xV te) (τ a) O _ else R.ok _ O)=_;by_cases c:p a=KM
  ·rw[qb c,qb c];show((te (τ a) O).bnd _)=_;rw[s a h c];show(if _<1000 then _ else _)=_;have d:=lC k l;rw[Ef,cQ,ax,qb (eG (aM (bu _ _) d) o),cQ]
  ·rw[qq c,qq c,bC]) l.length 0 (cn _) 'k'
 rw[jg,iG,bC,cQ,Ef] at w;rw[hsz,w];show(match ue ((l.filter p).map λa=>D.str (e a)) with|some ss=>if (p8 ss).length<1000 then _ else _|none=>_)=_;have v:((l.filter p).map λa=>D.str (e a))=((l.filter p).map e).map D.str:=by rw[bg];rfl
 rw[v,DL.strL_map];show(if (p8 ((l.filter p).map e)).length<1000 then _ else _)=_;rw[qb u];rfl
def zbZ{l:List (List Nat)}(f:l.length<10000)(d:l.Pairwise (· < ·))(O:Ow):Ed [.tup (l.map D.str)] O=.ok (.bl KM) O:=by
 have a:ya (b_ (a_ 0) (b_ (zI (a_ 0) (yN (dC (.int 1))) ye) d_)) [KB (.tup (l.map D.str))] O=.ok (.zip (.val (l.map D.str)) (.val ((l.map D.str).drop 1))) O:=by
  show((b_ (a_ 0) (b_ (zI (a_ 0) (yN (dC (.int 1))) ye) d_) _ O).bnd _)=_;rw[qe rfl (N4 O (l.map D.str) [KB (.tup (l.map D.str))] (by simp;lia) rfl)];rfl
 have c:=A6 (o:=K7) (ext:=2) (g:=.two 1 2) (ts:=[]) (te:=f_ BY (a_ 1) (a_ 2)) (l:=aA (l.length-1)) (inj:=λk=>D.tup [.str (l.getD k []),.str (l.getD (k+1) [])]) (p:=λ_=>KM) (e:=λk=>D.bl (decide (l.getD k []<l.getD (k+1) [])))
  (τ:=λk=>[KB (.tup (l.map D.str)),KB (.str (l.getD k [])),KB (.str (l.getD (k+1) []))]) a (λi=>by
   rw[CK];show(match (l.map D.str)[i]?,((l.map D.str).drop 1)[i]? with|some x,KB y=>KB (D.tup [x,y])|_,_=>KF)=_;rw[jp,a8,a8];by_cases a:i<l.length-1
   ·rw[qb a,ao 'd',show 1+i=i+1 from by lia,ao 'd'];show KB (D.tup [.str l[i],.str l[i+1]])=_;rw[aG,aG,ao 'd',ao 'd'];rfl
   ·rw[qq a,show l[1+i]?=KF from aQ.mpr 'd'];cases l[i]?<;>rfl) (by
   show min (l.map D.str).length ((l.map D.str).drop 1).length=_;simp) (by rw[cM];lia) (λk _=>rfl) (λk _=>rfl) (λk b _=>rfl)
 rw[Kr] at c;show fin (l_ _ [KB (.tup (l.map D.str))] O)=_;rw[rL ((uL (pD c)).trans (Af O _ _))];show R.ok (D.bl _) O=_;congr 2;rw[ak];intro k b;have b:=aR.mp b;have:=di.mp d k (k+1) 'd' 'd' 'd';rw[aG,aG,ao 'd',ao 'd'];exact decide_eq_true this
def zdo(O:Ow):(ou.map λcs=>Al [.int (cs.length:Nat),.str cs] O)=ou.map λ_=>R.ok (.bl KM) O:=by kernel_rfl
def zhi(a:1<=n)(b:n<=4)(h:cs∈YP n)(O:Ow):Al [.int n,.str cs] O=.ok (.bl KM) O:=by have:=fT.mp (zdo O) cs (t5 a b h);rw[qW a b h] at this;exact this
def Rz{n:Nat}(a:1<=n)(b:n<=4){l:List (List Nat)}(c:l.length<10000)(d:l.Pairwise (· < ·))(f:∀cs∈l,cs∈YP n)(O:Ow):Am [.int n,.tup (l.map D.str)] O=.ok (.bl KM) O:=by have g:=vW (o:=K7) (ext:=1) (i:=2) (it0:=qg (a_ 1)) (σ:=[KB (.int n),KB (.tup (l.map D.str))]) (O0:=O) (O:=O) (l:=l) (inj:=D.str) (te:=j_ 2 Al (b_ (a_ 0) (b_ (a_ 2) d_))) (e:=λ_=>D.bl KM) (τ:=λcs=>[KB (.int n),KB (.tup (l.map D.str)),KB (.str cs)]) rfl 'd' (λ_=>rfl) (λcs h=>(uw (qe rfl rfl) rfl).trans (zhi a b (f cs h) O));have j:=(uL (pD g)).trans (Af O l λ_=>KM);have k:pS (qQ (qo (uq "tuple" (a_ 1)))) (l_ (dC (.bl K7))) pU [KB (.int n),KB (.tup (l.map D.str))] O=.nx [KB (.int n),KB (.tup (l.map D.str))] O:=rfl;show fin (n_ (pS (qQ (qo (uq "tuple" (a_ 1)))) (l_ (dC (.bl K7))) pU) (l_ (w9 _ _)) [KB (.int n),KB (.tup (l.map D.str))] O)=_;rw[sE k];unfold l_ w9;rw[j];have m:(l.all λ_=>KM)=KM:=ak.mpr λ_ _=>rfl;rw[m];simp only[n_,pY,pS,l_,rG,pU,a_,dC,b_,d_,j_,pB,f_,pA,qo,qQ,x8,R.bnd,R.bnS,fin,cx,cy,dg,dG,aS,cP,d0,eV,d6,fB,if_true,if_false,d8,eI,bi,ite_true,ite_false,zbZ c d O]
def o5:List (Nat×Nat×Nat):=[1,2,3,4].flatMap λn=>(aA n).flatMap λk=>[48,49].map λs=>(n,k,s)
def zeE(O:Ow):(o5.map λq=>Aj [.str (aw q.1 45),.int (q.2.1:Nat),.str [q.2.2]] O)=o5.map λq=>R.ok (.str ((aw q.1 45).set q.2.1 q.2.2)) O:=by kernel_rfl
def zgU(a:1<=n)(b:n<=4)(c:k<n)(d:s=48\/s=49)(O:Ow):Aj [.str (aw n 45),.int (k:Nat),.str [s]] O=.ok (.str ((aw n 45).set k s)) O:=by
 have e:(n,k,s)∈o5:=by
  unfold o5;rw[fk];refine⟨n,by rcases vV a b with rfl|rfl|rfl|rfl<;>simp,?_⟩;rw[fk];refine⟨k,aR.mpr c,?_⟩;rcases d with rfl|rfl<;>simp
 exact fT.mp (zeE O) (n,k,s) e
def Wh(O:Ow)(h:c=48\/c=49):Hq [.str [c]] O=.ok (.str [ex c]) O:=by rcases h with rfl|rfl<;>kernel_rfl
def VH(c:Nat):ex c=48\/ex c=49:=by unfold ex;split<;>simp
def R8(cs:List Nat):vq (cs.map λc=>D.str [c])=(aA cs.length).map λk=>D.tup [.int (k:Nat),.str [cs.getD k 0]]:=by rw[zhz,ax];refine dS λk a=>?_;have a:=aR.mp a;rw[v8 (by simpa using a),iF,CA a]
def zhm(b:1<=n)(d:n<=4)(f:c∈YP n)(O:Ow):Ei [.str c] O=.ok (.lst ((xj n c).map .str)) O:=by
 have h:=qW b d f;have m:=DR b d f;show fin (KJ [KB (.str c),KF] O)=_;unfold KJ;refine vB (tx (x:=.str (aw n 45)) (O1:=O) (qL (y:=.int (n:Nat)) rfl (tF (pD rfl) ((Kl 'd').trans (by rw[h]))) (OM 'd')) (rL ?_));refine(A6 (O:=O) (g:=.two 2 3) (src:=.val (vq (c.map λc=>D.str [c]))) (l:=aA n) (inj:=λk=>D.tup [.int (k:Nat),.str [c.getD k 0]]) (p:=λk=>c.getD k 0 !=45) (e:=λ(k:Nat)=>D.str (pick n c k)) (τ:=λ(k:Nat)=>[KB (.str c),KB (.str (aw n 45)),KB (.int (k:Int)),KB (.str [c.getD k 0])]) ?_ ?_ ?_ ?_ ?_ ?_ ?_).trans ?_
 ·show(match vk (.str c) with|some (.val ds)=>R.ok (Src.val (vq ds)) O|_=>R.bad)=_;rw[m]
 ·intro i;rw[R8,h];rfl
 ·rw[R8,h];simp[Src.size]
 ·simp;lia
 ·intro _ _;rfl
 ·intro k a;have a:=aR.mp a;exact GR (qV (qL rfl rfl (JZ O (yn b d f a))))
 ·intro k a j;have a:=aR.mp a;have j:c.getD k 0≠45:=by simpa using j
  have s1:=yn b d f a;unfold sgn at s1;simp only[cz,beq_iff_eq] at s1;have o:c.getD k 0=48\/c.getD k 0=49:=by
   rcases s1 with(s1|s1)|s1
   ·exact absurd s1 j
   ·exact .inl s1
   ·exact .inr s1
  exact pP (GU rfl (qe rfl (pP (pD rfl) (Wh O o)))) (zgU b d a (VH _) O)
 ·show R.ok (D.lst _) O=_;unfold xj;rw[bg];rfl
def Xp(b:1<=n)(c:n<=4)(a:∀t∈l,t∈YP n)(d:l.length<=81)(O:Ow):Eg [.lst (l.map .str)] O=.ok (.own O.length) (O++[(q0 n l).map .str]):=by show fin (Hb [KB (.lst (l.map .str))] O)=_;unfold Hb;refine vZ ((zR (o:=KM) (l:=l) (inj:=D.str) (p:=λt=>!(l.any λo=>decide (t≠o)&&qD n t o)) (e:=D.str) (τ:=λt=>[KB (.lst (l.map .str)),KB (.str t)]) (vC rfl) 'd' (λ_=>rfl) (λt f=>uZ (uY (tF (pD ((vW (l:=l) (inj:=D.str) (e:=λo=>D.bl (decide (t≠o)&&qD n t o)) (τ:=λo=>[KB (.lst (l.map .str)),KB (.str t),KB (.str o)]) (vC rfl) 'd' (λ_=>rfl) (λo g=>PB (qL rfl rfl (YS O b c (a t f) (a o g))) λ_=>pP (qe rfl rfl) (Z8 b c (a t f) (a o g) O))).trans rfl)) (Kd O l λo=>decide (t≠o)&&qD n t o)))) (λ_ _ _=>rfl)).trans rfl)
def zhk{n:Nat}(a:1<=n)(d:n<=4){cl:List (List Nat)}(f:∀c∈cl,c∈YP n)(g:cl.Pairwise (· < ·))(e:cl.length<1000)(O:Ow):CM [.int n,.tup (cl.map .str)] O=.ok .non O:=by
 have h:Eu [.int n] O=.ok .non O:=by rcases vV a d with rfl|rfl|rfl|rfl<;>kernel_rfl
 show fin (Ew [KB (.int n),KB (.tup (cl.map .str))] O)=_;unfold Ew;rw[sE (Cy (pP (pD rfl) h)),tZ (uZ (b:=KM) (uY (pP (qe rfl rfl) (Rz a d 'd' g f O))))];rfl
def oU(X:Ow):Prop:=∀c∈X,∃l:List (List Nat),c=l.map D.str
def oU.flat(h:vO O)(a:oU X):vO (O++X):=zgB h λc b d e=>by
 obtain⟨l,rfl⟩:=a c b;obtain⟨x,_,rfl⟩:=aB.mp e;rfl
def oU.one(a:oU X)(l:List (List Nat)):oU (X++[l.map D.str]):=λc hc=>by
 rcases aP.mp hc with hc|hc
 ·exact a c hc
 ·exact⟨l,by simpa using hc⟩
def zhq(h:l.length<=k):(q0 n l).length<=k:=aM (bu _ _) h
def Y4(a:1<=n)(b:n<=4)(cl:List (List Nat)):(rO n cl).length<=81:=aM (bu _ _) (Kt a b)
theorem GS{α c:Type}{g:α->List c}{k:Nat}(b:∀a,(g a).length<=k):∀l:List α,(l.flatMap g).length<=l.length*k
 |[]=>by simp
 | x::l=>by
  rw[cY,aE,aS,Nat.succ_mul];have:=GS b l;have:=b x;lia
def vX(n:Nat)(wide:List (List Nat))(c:List Nat):List (List Nat×List Nat):=wide.flatMap λw=>(xj n c).map λp=>(w,p)
def R6(n:Nat)(wide:List (List Nat))(c:List Nat):(((vX n wide c).filter λq=>!rQ n q.1 q.2).map λq=>met n q.1 q.2)=uT n wide c:=by
 unfold vX uT
 induction wide with
 |nil=>rfl
 | cons w r ih=>
  rw[cY,cY,List.filter_append,dE,ih];congr 1;rw[kz,bg];rfl
def Gk:DS:=(n_ (pY 4 (qj K7 2 (qg (a_ 2)) (.one 5) [] (⟨(qg (j_ 1 Ei (b_ (a_ 3) d_))),(.one 6),[]⟩::[]) (j_ 2 DJ (b_ (a_ 5) (b_ (a_ 6) d_))))) (pY 2 (j_ 1 Eg (b_ (zS K7 1 (qg (a_ 4)) (.one 5) [(pA (f_ yJ (a_ 5) (dC .non)))] [] (a_ 5)) d_))))
def zg0{n:Nat}(f:1<=n)(g:n<=4){wide:List (List Nat)}(o:∀w∈wide,w∈YP n)(F:wide.length<=81){c:List Nat}(y:c∈YP n)(z:(p8 (uT n wide c)).length<64){O:Ow}(A:vO O){k:Nat}(u:O[k]?=KB (wide.map .str)){a b y4:Option D}:
  Gk [a,b,KB (.own k),KB (.str c),y4] O=.nx [a,b,KB (.own O.length),KB (.str c),KB (.lst ((vX n wide c).map λq=>uu n q.1 q.2))] (O++[(q0 n (p8 (uT n wide c))).map .str]):=by
 have B:∀w:List Nat,((xj n c).map λp=>(w,p)).length<=4:=λw=>by rw[ax];have:=Rx n c;lia
 have G:(vX n wide c).length<=324:=by
  have:=GS B wide;unfold vX;lia
 have v:(wide.flatMap λw=>(xj n c).map (uu n w))=(vX n wide c).map λq=>uu n q.1 q.2:=by
  unfold vX;rw[List.map_flatMap];congr 1;funext w;rw[bg];rfl
 have C:∀p∈xj n c,p∈YP n:=λp d=>by
  obtain⟨k,_,rfl⟩:=aB.mp d;exact KL
 unfold Gk;refine tx (x:=.lst ((vX n wide c).map λq=>uu n q.1 q.2)) (O1:=O) ?_ ?_
 ·rw[<- v];refine(Wf (O:=O) (src:=.own k) (l:=wide) (inj:=D.str) (m:=λ_=>xj n c) (inj2:=D.str) (e:=λw p=>uu n w p) (τ:=λw=>[a,b,KB (.own k),KB (.str c),y4,KB (.str w),KF]) (τ2:=λw p=>[a,b,KB (.own k),KB (.str c),y4,KB (.str w),KB (.str p)]) rfl ?_ ?_ ?_ (λ_=>rfl) (λ_ _=>rfl) (λw o=>vC (pP (pD rfl) (zhm f g y O))) λw r p d=>pP (qe rfl rfl) (XU f g (o w r) (C p d) A)).trans rfl
  ·intro i;show(match O[k]? with|some ds=>ds[i]?|none=>KF)=_;rw[u]
  ·show(match O[k]? with|some ds=>ds.length|none=>0)=_;rw[u];simp
  ·rw[v,ax];lia
 ·refine A4 (x:=.own O.length) (pP (ds:=[.lst ((p8 (uT n wide c)).map .str)]) (pD ?_) (Xp f g (λt s=>?_) 'd' O))
  ·have:=Yt (O:=O) (ext:=1) (i:=5) (it0:=qg (a_ 4)) (t:=pA (f_ yJ (a_ 5) (dC .non))) (te:=a_ 5) (σ:=[a,b,KB (.own k),KB (.str c),KB (.lst ((vX n wide c).map λq=>uu n q.1 q.2))]) (O0:=O) (src:=.val ((vX n wide c).map λq=>uu n q.1 q.2)) (l:=vX n wide c) (inj:=λq=>uu n q.1 q.2) (p:=λq=>!rQ n q.1 q.2) (e:=λq=>met n q.1 q.2) (τ:=λq=>[a,b,KB (.own k),KB (.str c),KB (.lst ((vX n wide c).map λq=>uu n q.1 q.2)),KB (uu n q.1 q.2)]) rfl (λ_=>rfl) (by simp[Src.size]) 'd' (λ_=>rfl) (λq E=>qV (qL rfl rfl (by
     show R.ok (D.bl (!AS (uu n q.1 q.2))) O=_;unfold uu rQ;split
     ·rename_i h;rw[h];rfl
     ·rename_i h;rw[Bool.not_eq_true] at h;rw[h];rfl))) (λq E d=>by
     show R.ok (uu n q.1 q.2) O=_;unfold uu;have d:¬ (aA n).any (rF q.1 q.2)=KM:=by
      unfold rQ at d;simpa using d
     rw[qq d]) (by rw[R6];exact(bb z 'u'))
   rw[R6] at this;exact this
  ·have s:=(xr _).mp s;obtain⟨w,r,j,_,_,_,rfl⟩:=oW.mp s;exact GV f g (o w r) KL
def z7F{n:Nat}(a:1<=n)(b:n<=4){cl:List (List Nat)}(d:∀c∈cl,c∈YP n)(r:cl.Pairwise (· < ·))(e:cl.length<1000){O:Ow}(t:vO O):
  ∃X,oU X/\CH [.int n,.tup (cl.map .str)] O=.ok (.own (O++X).length) (O++X++[(q0 n (rO n cl)).map .str]):=by
 let N:Option D:=KB (.int n);let T:Option D:=KB (.tup (cl.map .str));obtain⟨σ',m,o,X,f,g,rfl,rfl,h⟩:=Jq (i:=3) (it:=qg (a_ 1)) (body:=Gk) (σ:=[N,T,KB (.own O.length),KF,KF]) (O0:=O++[[.str (aw n 45)]]) (O:=O++[[.str (aw n 45)]]) (l:=cl) (inj:=D.str) rfl
  (λj σ m=>∃X f g,σ=[N,T,KB (.own (O++X).length),f,g]/\m=O++X++[(q0 n (rO n (cl.take j))).map .str]/\oU X) (λj c σ m k u=>by
   obtain⟨X,f,g,rfl,rfl,h⟩:=u;have p:=aL k;have s:cl.take (j+1)=cl.take j++[c]:=by rw[ig,k];rfl
   have v:=zgJ a b (cl:=cl.take j) (d c p) (λy z=>d y (cD z)) (by rw[<- s];exact r.sublist (cK _ _));have A:vO (O++X++[(q0 n (rO n (cl.take j))).map .str]):=by
    rw[a9];exact oU.flat t (h.one _)
   refine⟨_,_,zg0 a b (wide:=q0 n (rO n (cl.take j))) (λw B=>(oH.mp (oF.mp B).1).1) (zhq (Y4 a b _)) (d c p) v A CC,X++[(q0 n (rO n (cl.take j))).map .str],KB (.str c),KB (.lst ((vX n (q0 n (rO n (cl.take j))) c).map λq=>uu n q.1 q.2)),?_,?_,h.one _⟩
   ·rw[a9]
   ·rw[zcS a b (d c p),s,<- a9 O X]) ⟨[],KF,KF,by rw[bC],by rw[bC,jg,QW a b];rfl,λc k=>by cases k⟩
 rw[iD] at o;refine⟨X,h,?_⟩;show fin (KR [N,T,KF,KF,KF] O)=_;unfold KR;unfold Gk at o;refine vB (GL (x:=.non) (O1:=O) (pP (qe rfl rfl) (zhk a b d r e O)) (tx (x:=.own O.length) (O1:=O++[[.str (aw n 45)]]) ?_ (A0 (σ':=[N,T,KB (.own (O++X).length),f,g]) (O1:=O++X++[(q0 n (rO n cl)).map .str]) ?_ (rL rfl))))
 rotate_left
 ·exact o
 show((b_ _ _ _ O).bnd _)=_;rw[pD (qL rfl rfl (OM 'd'))];rfl
def zcZ:(o6.all λq=>decide (pM (vt q.1 q.2)=[q.2])&&decide (vt q.1 q.2∈YP q.1))=KM:=by decide +kernel
def Yx(b:t∈q0 n (tM n f))(c:yg f t=KM):t∈gr n f:=by obtain⟨d,e⟩:=oF.mp b;refine aO.mpr ⟨d,?_⟩;unfold B4;rw[c,gd,j8,fv];intro o g a;simp only[aW,decide_eq_true_eq] at a;exact a.1 (e o g a.2).symm
def FW(d:D):Prop:=d=.int 0\/d=.int 1
def FW.ans(h:FW d):uF d:=by
 rcases h with h|h
 ·exact .inl h
 ·exact .inr (.inl h)
structure x_(n:Nat)(f:List D):Prop where
 fn:Fn n f
 bin:∀d∈f,FW d
def rh(f:List D):List D:=f.map B0
def zgT(h:x_ n f):x_ n (rh f):=by
 have b:∀d∈rh f,FW d:=λd a=>by
  obtain⟨x,c,rfl⟩:=aB.mp a;rcases h.bin x c with rfl|rfl
  ·exact .inr rfl
  ·exact .inl rfl
 exact⟨⟨h.fn.n1,h.fn.n4,by unfold rh;rw[ax];exact h.fn.len,λd a=>(b d a).ans⟩,b⟩
def QP(h:x_ n f)(a:p<2 ^ n):FW (f.getD p .non):=by
 have b:p<f.length:=by rw[h.fn.len];exact a
 rw[v8 b];exact h.bin _ (cr _)
def zhf(h:x_ n f)(b:p<2 ^ n):(rh f).getD p .non=B0 (f.getD p .non):=by
 have a:p<f.length:=by rw[h.fn.len];exact b
 rw[v8 a,v8 (by unfold rh;rw[ax];exact a)];unfold rh;rw[iF]
def Px(h:x_ n f)(a:p<2 ^ n):vG ((rh f).getD p .non) = !vG (f.getD p .non):=by rw[zhf h a];rcases QP h a with e|e<;>rw[e]<;>rfl
def Pk(h:x_ n f)(a:p<2 ^ n):y_ (f.getD p .non) = !vG (f.getD p .non):=by rcases QP h a with e|e<;>rw[e]<;>rfl
def GJ(h:sX f t=KM)(a:p∈pM t):vG (f.getD p .non)=K7:=by unfold sX at h;have:=ak.mp h p a;simpa using this
def zac(h:x_ n f)(b:t∈tM n f):yg f t=KM:=by
 have c:=h.fn.n1;have d:=h.fn.n4;have g:=Ba b;have k:pM t≠[]:=λe=>by have:=Qf c d g;rw[e] at this;cases this
 obtain⟨p,a⟩:=jQ _ k;have i:=Cs c d g a;have j:p∈(qO f).filter λp=>(pM t).contains p:=aO.mpr ⟨oE.mpr ⟨by rw[h.fn.len];exact i,by rw[Pk h i,GJ (aO.mp b).2 a];rfl⟩,by simpa using a⟩;unfold yg;cases e:(qO f).filter λp=>(pM t).contains p with
 |nil=>rw[e] at j;cases j
 |cons _ _=>rfl
def Zd(h:x_ n f):gr n f=q0 n (tM n f):=by unfold gr q0;refine io λt a=>?_;unfold B4;rw[zac h a,gd,G_,ij];congr 2;funext o;rw[ml];congr 1;by_cases e:t=o<;>simp[e,eq_comm]
def J4(h:t∈gr n f):sX f t=KM:=(aO.mp (aO.mp h).1).2
def Wk(a:Fn n f):(gr n f).Pairwise (· < ·):=((J9 a.n1 a.n4).filter _).filter _
def zfy(h:x_ n f)(k:∀t∈l,t∈gr n (rh f))(o:C1 (rh f) l=KM):rO n l=tM n f:=by
 have a:=h.fn.n1;have b:=h.fn.n4;have q:=zgT h;unfold rO tM;refine io λt d=>?_;rw[eO,ak];constructor
 ·intro x;unfold sX;rw[ak];intro p j;have g:=Cs a b d j;cases y:vG (f.getD p .non) with
  |false=>rfl
  | true=>
   exfalso;have z:p∈qO (rh f):=oE.mpr ⟨by rw[q.fn.len];exact g,by rw[Pk q g,Px h g,y];rfl⟩;unfold C1 at o;obtain⟨c,i,m⟩:=bF.mp (ak.mp o p z);have A:=zcm a b d (xt (k c i)) (x c i);have:p∈Dl t c:=aO.mpr ⟨j,m⟩;rw[A] at this;cases this
 ·intro B c i;cases r:rQ n t c with
  |true=>rfl
  | false=>
   exfalso;have s:=xt (k c i);have j:=Y0 a b d s (by unfold rQ at r;rw[r];decide);have C:pM (met n t c)≠[]:=λe=>by have:=Qf a b (GV a b d s);rw[e] at this;cases this
   obtain⟨p,u⟩:=jQ _ C;rw[<- j] at u;obtain⟨v,D⟩:=aO.mp u;have g:=Cs a b d v;have E:=GJ B v;have w:=GJ (J4 (k c i)) (p:=p) (by simpa using D);rw[Px h g,E] at w;cases w
def B5(f:List D)(cs:List Nat):Bool:=(pM cs).any λp=>y_ (f.getD p .non)
def z6u(a:Fn n f)(h:cs∈YP n)(O:Ow):Et [.tup f,.str cs] O=.ok (.bl (B5 f cs)) O:=by
 have b:=t5 a.n1 a.n4 h;have g:=qW a.n1 a.n4 h;have c:qg (j_ 1 xw (b_ (a_ 1) d_)) [KB (.tup f),KB (.str cs)] O=.ok (.val (ur (pM cs))) O:=vC ((uw (pD rfl) rfl).trans (Ej b O));have j:=vW (o:=K7) (ext:=1) (i:=2) (te:=f_ (pC rq) (f_ qf (a_ 0) (a_ 2)) (dC (.int 1))) (e:=λp=>D.bl (y_ (f.getD p .non))) (τ:=λp=>[KB (.tup f),KB (.str cs),KB (.int (p:Nat))]) c (by have:=PU b;lia) (λ_=>rfl) (λq k=>by
  have d:q<f.length:=by rw[a.len,<- g];exact Jo b k
  refine(qG ((qG rfl rfl).trans (JH (i:=q) d)) rfl).trans ((eq1 O (a.ans _ (cr d))).trans ?_);rw[v8 d])
 show fin (l_ _ [KB (.tup f),KB (.str cs)] O)=_;rw[rL ((uL (pD j)).trans (Kd O _ _))];rfl
def zgP(O:Ow):(allS.map λq=>Aj [.str q.1,.int (q.2:Nat),.str [45]] O)=allS.map λq=>R.ok (.str (q.1.set q.2 45)) O:=by kernel_rfl
def ZF(h:cs∈ou)(a:k<cs.length)(O:Ow):Aj [.str cs,.int (k:Nat),.str [45]] O=.ok (.str (cs.set k 45)) O:=fT.mp (zgP O) _ (zgV h a)
def zK(f:List D)(cs:List Nat)(k:Nat):Bool:=cs.getD k 0 !=45&&sX f (cs.set k 45)
def GC(f:List D)(cs:List Nat):Bool:=!(aA cs.length).any (zK f cs)
def XH(b:Fn n f)(h:cs∈YP n)(d:k<cs.length)(O:Ow):En [.tup f,.str cs,.int (k:Nat)] O=.ok (.bl (zK f cs k)) O:=by
 have g:=t5 b.n1 b.n4 h;have j:cs.length<=4:=by rw[qW b.n1 b.n4 h];exact b.n4
 have e:=Eb b.n1 b.n4 h _ (cr d);show fin (Hz [KB (.tup f),KB (.str cs),KB (.int (k:Nat))] O)=_;have l:f_ (pC pT) (f_ qf (a_ 1) (a_ 2)) (dC (.str [45])) [KB (.tup f),KB (.str cs),KB (.int (k:Nat))] O=.ok (.bl (cs[k] !=45)) O:=(qG ((qG rfl rfl).trans (O8 'd' d)) rfl).trans (JZ O e);unfold Hz zK;rw[CA d];simp only[n_,pY,pS,l_,rG,pU,a_,dC,b_,d_,j_,pB,f_,pA,qo,qQ,x8,R.bnd,R.bnS,fin,cx,cy,dg,dG,aS,cP,d0,eV,d6,fB,if_true,if_false,d8,eI,bi,ite_true,ite_false,w9];have i:(match (match f_ qf (a_ 1) (a_ 2) [KB (.tup f),KB (.str cs),KB (.int (k:Nat))] O with|.ok a O=>R.ok a O|r=>r) with|_=>True):=trivial;rw[show qf O (D.str cs) (D.int (k:Nat))=.ok (.str [cs[k]]) O from O8 'd' d];simp only[n_,pY,pS,l_,rG,pU,a_,dC,b_,d_,j_,pB,f_,pA,qo,qQ,x8,R.bnd,R.bnS,fin,cx,cy,dg,dG,aS,cP,d0,eV,d6,fB,if_true,if_false,d8,eI,bi,ite_true,ite_false,JZ O e];cases m:(cs[k] !=45) with
 | true=>
  simp only[n_,pY,pS,l_,rG,pU,a_,dC,b_,d_,j_,pB,f_,pA,qo,qQ,x8,R.bnd,R.bnS,fin,cx,cy,dg,dG,aS,cP,d0,eV,d6,fB,if_true,if_false,d8,eI,bi,ite_true,ite_false,ZF g d O,Kh b (KD b.n1 b.n4 h (k:=k) (c:=45) rfl) O,nR]
 |false=>simp only[n_,pY,pS,l_,rG,pU,a_,dC,b_,d_,j_,pB,f_,pA,qo,qQ,x8,R.bnd,R.bnS,fin,cx,cy,dg,dG,aS,cP,d0,eV,d6,fB,if_true,if_false,d8,eI,bi,ite_true,ite_false,nv]
def zfq(a:Fn n f)(h:cs∈YP n)(O:Ow):Eh [.tup f,.str cs] O=.ok (.bl (GC f cs)) O:=by
 have g:cs.length<=4:=by rw[qW a.n1 a.n4 h];exact a.n4
 have b:vp (b_ (pB qB (b_ (a_ 1) d_)) d_) [KB (.tup f),KB (.str cs)] O=.ok (.val ((aA cs.length).map λ(i:Nat)=>D.int (i:Int))) O:=D2 (pD ((uL (pD rfl)).trans (Kl 'd'))) 'd';have c:=vW (o:=K7) (ext:=1) (i:=2) (te:=j_ 3 En (b_ (a_ 0) (b_ (a_ 1) (b_ (a_ 2) d_)))) (e:=λk=>D.bl (zK f cs k)) (τ:=λp=>[KB (.tup f),KB (.str cs),KB (.int (p:Nat))]) b (by rw[cM];lia) (λ_=>rfl) (λk d=>by
  exact(uw (GU rfl (qe rfl rfl)) rfl).trans (XH a h (aR.mp d) O))
 show fin (Hr [KB (.tup f),KB (.str cs)] O)=_;unfold Hr GC;have:=(uL (pD c)).trans (Kd O _ _);unfold l_ Dk;rw[this];rfl
def MA(f:List D)(cs:List Nat):Bool:=B5 f cs&&GC f cs
def Jn(n:Nat)(f:List D):List (List Nat):=(tM n f).filter (MA f)
def zhx(h:cs∈tM n f):cs∈YP n/\sX f cs=KM:=aO.mp h
def Su(a:Fn n f)(O:Ow):Ai [.tup f] O=.ok (.lst ((Jn n f).map .str)) O:=by
 have d:qg (j_ 1 Ek (b_ (a_ 0) d_)) [KB (.tup f)] O=.ok (.val ((tM n f).map .str)) O:=vC ((uw (pD rfl) rfl).trans (z7v a O));have g:=zR (o:=K7) (ext:=1) (i:=1) (t:=tw (qo (j_ 2 Et (b_ (a_ 0) (b_ (a_ 1) d_)))) (qo (j_ 2 Eh (b_ (a_ 0) (b_ (a_ 1) d_))))) (te:=a_ 1) (p:=MA f) (e:=D.str) (τ:=λb=>[KB (.tup f),KB (.str b)]) d (by have:=RM a;lia) (λ_=>rfl) (λb h=>by
  obtain⟨c,j⟩:=zhx h;exact CD (uY ((uw (qe rfl rfl) rfl).trans (z6u a c O))) λ_=>uY ((uw (qe rfl rfl) rfl).trans (zfq a c O))) (λb _ _=>rfl)
 show fin (G4 [KB (.tup f)] O)=_;unfold G4;rw[rL (g.trans rfl)];rfl
theorem N3{α:Type}{src:Src}{step:D->Ow->List D->R (List D)}{O:Ow}{inj:α->D}{g:α->D}{all:List α}(c:∀i,src.get O i=(all.map inj)[i]?)(j:∀b a r,all=b++a::r->step (inj a) O (b.map g)=.ok (b.map g++[g a]) O):∀(ds b:List α)(f:Nat),all=b++ds->ds.length<=f->qh src step f b.length O (b.map g)=.ok (all.map g) O
 | [],b,f,ha,_=>by
  have e:src.get O b.length=KF:=by rw[c,ha];simp
  have k:all=b:=by rw[ha];simp
  cases f<;>(unfold qh;rw[e,k])
 |d::ds,b,0,_,h=>by simp at h
 | d::ds,b,f+1,ha,h=>by
  unfold qh;have e:src.get O b.length=KB (inj d):=by rw[c,ha];simp
  rw[e];show((step (inj d) O (b.map g)).bnd λl m=>qh src step f (b.length+1) m l)=_;rw[j b d ds ha];show qh src step f (b.length+1) O (b.map g++[g d])=_;have:=N3 c j ds (b++[d]) f (by rw[ha];simp) (by simpa using h);rw[aE,fD,dE] at this;exact this
def zfZ{α:Type}{ext i:Nat}{it0:DI}{tk tv:DE}{σ:Sg}{O O0:Ow}{l:List α}{inj key val:α->D}{kk:α->DK}{τ:α->Sg}(n:it0 σ O0=.ok (.val (l.map inj)) O)(y:l.length<1000)(j:(l.map kk).Nodup)
  (o:∀a,(pO (pO (σ++aw ext KF) [i]) [i]).set i (KB (inj a))=τ a) (p:∀a∈l,tk (τ a) O=.ok (key a) O) (q:∀a∈l,vS (key a)=KB (kk a)) (s:∀a∈l,tv (τ a) O=.ok (val a) O):
  A1 ext it0 (.one i) [] [] tk tv σ O0=.ok (.map (l.map kk) (l.map val)) O:=by
 unfold A1 wQ;rw[n];show((wU (qh (.val (l.map inj)) _ ((l.map inj).length) 0 O [])).bnd _)=_;have w:=N3 (O:=O) (src:=.val (l.map inj)) (step:=tU ⟨it0,.one i,[]⟩ [] (BS tk tv) (pO (σ++aw ext KF) (pX [⟨it0,.one i,[]⟩]))) (inj:=inj) (g:=λa=>rY (kk a,val a)) (all:=l) (λ_=>rfl) (λc a r f=>by
  have h:a∈l:=by rw[f];simp
  show(match (KB ((pO (pO (σ++aw ext KF) [i]) [i]).set i (KB (inj a))):Option Sg) with|some qA=>(sW [] qA O).bnd λb m=>if b=KM then sY [] (BS tk tv) qA m (c.map λa=>rY (kk a,val a)) else .ok (c.map λa=>rY (kk a,val a)) m|none=>.bad)=_;rw[o a];show((tk (τ a) O).bnd _)=_;rw[p a h];show(match vS (key a) with|some k=>_|none=>_)=_;rw[q a h];show((tv (τ a) O).bnd _)=_;rw[s a h];have d:(c.map λa=>rY (kk a,val a)).length<1000:=by
   rw[ax];have:=congrArg kC f;simp at this;lia
  have t:(c.map λa=>rY (kk a,val a)).any (B9 (kk a))=K7:=by
   rw[ip];intro x u;obtain⟨b,v,rfl⟩:=aB.mp u;have:kk b≠kk a:=by
    rw[f,dE,bH,fN] at j;exact j.2.2 _ (aB.mpr ⟨b,v,rfl⟩) _ au
   show ¬ decide (kk b=kk a)=KM;rw[decide_eq_true_eq];exact this
  show(if _/\_ then R.ok _ O else R.bad)=_;rw[qb ⟨d,t⟩];rfl) l [] ((l.map inj).length) rfl 'k'
 rw[show qh (.val (l.map inj)) _ ((l.map inj).length) 0 O []=_ from w];show R.ok (D.map (CY (l.map λa=>rY (kk a,val a))) (CZ (l.map λa=>rY (kk a,val a)))) O=_;have e:(l.map λa=>rY (kk a,val a))=(l.map λa=>(kk a,val a)).map rY:=by rw[bg];rfl
 rw[e,JC,JK,bg,bg];rfl
theorem RE{α:Type}{kk:α->DK}{val:α->D}{a:α}:∀{l:List α},a∈l->(l.map kk).Nodup->vY (kk a) (l.map kk) (l.map val)=KB (val a)
 |[],h,_=>by cases h
 | b::l,h,hn=>by
  rw[bH,bG] at hn;show(if kk b=kk a then KB (val b) else vY (kk a) (l.map kk) (l.map val))=_;rcases aq.mp h with rfl|h
  ·rw[qb rfl]
  ·rw[qq (λ(e:kk b=kk a)=>hn.1 (by rw[e];exact aB.mpr ⟨a,h,rfl⟩))];exact RE h hn.2
def Ph(a:td σ O=.ok (.map ks ds) O)(b:tz σ O=.ok y O)(c:vS y=KB k)(e:vY k ks ds=KB d):AW td tz σ O=.ok d O:=by unfold AW;rw[a];show((tz σ O).bnd _)=_;rw[b];show(match vS y with|some k=>_|none=>_)=_;rw[c];show(match vY k ks ds with|some d=>R.ok d O|none=>R.bad)=_;rw[e]
abbrev Tm(ts:List (List Nat)):Prop:=∀cs∈ts,cs∈ou
def F6(h:Tm ts)(k:Nat):(ts.map D.str).all (pl k)=KM:=ak.mpr λd b=>by
 obtain⟨a,e,rfl⟩:=aB.mp b;have:(a.all λc=>decide (c<1114112))=KM:=ak.mp RH a (h a e);cases k<;>exact this
def Ym{a b:List (List Nat)}(h:a.map D.str=b.map D.str):a=b:=by have:=congrArg (List.map λd=>match d with|D.str x=>x|_=>[]) h;simpa [bg,Function.comp_def] using this
def U3(O:Ow){a b:List (List Nat)}(c:Tm a)(d:Tm b):pC pT O (.lst (a.map .str)) (.lst (b.map .str))=.ok (.bl (a !=b)) O:=
 (Oe O (F6 c 7) (F6 d 7) (b:=a==b) (by rw[beq_iff_eq];exact⟨λh=>h▸rfl,Ym⟩)).2
def Wl(h:sgn c=KM):c∈A7:=by unfold sgn at h;simp only[cz,beq_iff_eq] at h;rcases h with(rfl|rfl)|rfl<;>decide
def zgp(a:1<=n)(b:n<=4)(h:cs∈YP n):IA (.str cs):=.inl ⟨cs,rfl,λc d=>Wl (Eb a b h c d),by rw[qW a b h];lia⟩
def zcO{n:Nat}(a:1<=n)(b:n<=4){l:List (List Nat)}(h:∀t∈l,t∈YP n):∀d∈l.map D.str,IA d:=λd c=>by
 obtain⟨e,f,rfl⟩:=aB.mp c;exact zgp a b (h e f)
def zdt(a:1<=n)(b:n<=4)(h:cs∈YP n):AK n (.str cs)=KM:=by show(cs.length==n&&cs.all sgn)=KM;rw[qW a b h,ak.mpr (Eb a b h)];simp
def ZJ{n:Nat}(b:1<=n)(c:n<=4){l:List (List Nat)}(h:∀t∈l,t∈YP n)(f:l.Pairwise (· < ·)):Lf n (l.map D.str)=KM:=by
 unfold Lf;have e:(l.map D.str).map yb=l:=by
  rw[bg];exact(dS λa _=>rfl).trans (gT l)
 rw[e,ph.mpr f,gd,ak];intro d g;obtain⟨i,j,rfl⟩:=aB.mp g;exact zdt b c (h i j)
def z4W(a:1<=n)(b:n<=4)(O:Ow):Eu [.int (n:Nat)] O=.ok .non O:=by rcases vV a b with rfl|rfl|rfl|rfl<;>kernel_rfl
def Wc{n:Nat}(a:1<=n)(b:n<=4)(O:Ow)(x:Option D):zN HC (a_ 0) [KB (.int (n:Nat)),x] O=.ok (.int ((2 ^ n:Nat):Int)) O:=by rcases vV a b with rfl|rfl|rfl|rfl<;>rfl
def zeR{n:Nat}(a:1<=n)(c:n<=4){d:D}(O:Ow)(h:Am [.int (n:Nat),d] O=.ok (.bl KM) O):CM [.int (n:Nat),d] O=.ok .non O:=by show fin (Ew [KB (.int (n:Nat)),KB d] O)=_;unfold Ew;rw[sE (Cy (pP (pD rfl) (z4W a c O))),tZ (b:=K7) (O1:=O) (uZ (b:=KM) (uY (pP (qe rfl rfl) h)))];rfl
def Qk{t:DE}{σ:Sg}{O O1:Ow}{ds:List D}(h:t σ O=.ok (.lst ds) O1):qo t σ O=.ok (!ds.isEmpty) O1:=by show((t σ O).bnd _)=_;rw[h];rfl
def Xi{c:DT}{t u:DE}{σ:Sg}{O:Ow}{b:Bool}(h:c σ O=.ok b O):zB c t u σ O=if b=KM then t σ O else u σ O:=by show((c σ O).bnd _)=_;rw[h];rfl
def hit(l:List (List Nat))(p:Nat):Bool:=l.any λt=>(pM t).contains p
def zO(n:Nat)(l:List (List Nat)):List D:=(aA (2 ^ n)).map λp=>D.int (if hit l p=KM then 1 else 0)
def Ji(a:1<=n)(b:n<=4)(l:List (List Nat)):Fn n (zO n l):=⟨a,b,by unfold zO;simp,λd c=>by
 obtain⟨p,_,rfl⟩:=aB.mp c;split
 ·exact .inr (.inl rfl)
 ·exact .inl rfl⟩
section
variable{n:Nat}(h1:1<=n)(h4:n<=4){l:List (List Nat)}(ht:∀t∈l,t∈YP n)(hlen:l.length<64)(O:Ow)
include h1 h4 ht hlen
theorem zam(p:Nat):CO [.tup (l.map .str),.int (p:Nat)] O=.ok (.lst ((l.filter λt=>(pM t).contains p).map .str)) O:=by show fin (CP [KB (.tup (l.map .str)),KB (.int (p:Nat))] O)=_;unfold CP;exact vZ ((zR (l:=l) (inj:=D.str) (p:=λt=>(pM t).contains p) (e:=D.str) (τ:=λt=>[KB (.tup (l.map .str)),KB (.int (p:Nat)),KB (.str t)]) (Cu rfl) 'd' (λ_=>rfl) (λt h=>qV (qL rfl (pP (pD rfl) (Ej (t5 h1 h4 (ht t h)) O)) (JO O p _))) (λ_ _ _=>rfl)).trans rfl)
theorem zgM(p:Nat):(!((l.filter λt=>(pM t).contains p).map D.str).isEmpty)=hit l p:=by rw[List.isEmpty_map,G_,ij];simp only[ml];rfl
theorem N9(a:l.Pairwise (· < ·)):CS [.int (n:Nat),.tup (l.map .str)] O=.ok (.tup (zO n l)) O:=by have c:=Ag h4;have b:=(z8k (n:=n) (zcO h1 h4 ht) (by rw[ax];exact hlen) O).trans (by rw[ZJ h1 h4 ht a]);show fin (K2 [KB (.int (n:Nat)),KB (.tup (l.map .str))] O)=_;unfold K2;refine vB (GL (pP (qe rfl rfl) (zeR h1 h4 O b)) (rL (tF (pD ((vW (l:=aA (2 ^ n)) (inj:=λ(p:Nat)=>D.int (p:Int)) (e:=λp=>D.int (if hit l p=KM then 1 else 0)) (τ:=λ(p:Nat)=>[KB (.int (n:Nat)),KB (.tup (l.map .str)),KB (.int (p:Int))]) (D2 (pD (Wc h1 h4 O _)) 'd') (by simp;lia) (λ_=>rfl) (λp a=>?_)).trans rfl)) rfl)));rw[Xi (Qk (pP (qe rfl rfl) (zam h1 h4 ht hlen O p))),zgM h1 h4 ht hlen p];cases hit l p<;>rfl
end
def YI(h:uF d):uF (B0 d):=by
 rcases h with rfl|rfl|rfl
 ·exact .inr (.inl rfl)
 ·exact .inl rfl
 ·exact .inr (.inr rfl)
def zY(a:Fn n f):Fn n (rh f):=⟨a.n1,a.n4,by unfold rh;rw[ax];exact a.len,λd b=>by
 obtain⟨x,c,rfl⟩:=aB.mp b;exact YI (a.ans x c)⟩
def Zy(O:Ow)(h:uF d):Hw [d] O=.ok (B0 d) O:=by rcases h with rfl|rfl|rfl<;>rfl
def CL(a:Fn n f)(O:Ow):xu [.tup f] O=.ok (.tup (rh f)) O:=by have c:=Ag a.n4;have g:=a.len;show fin (KH [KB (.tup f)] O)=_;unfold KH;exact vB (GL (pP (pD rfl) (JL a O)) (rL (tF (pD ((vW (l:=f) (inj:=λd=>d) (e:=B0) (τ:=λd=>[KB (.tup f),KB d]) (by rw[mj];exact Cu rfl) 'd' (λ_=>rfl) (λd b=>pP (pD rfl) (Zy O (a.ans d b)))).trans rfl)) rfl)))
def zc0(b:1<=n)(c:n<=4)(d:∀t∈l,t∈YP n)(a:l.length<64)(O:Ow)(e:l.Pairwise (· < ·)):Ey [.int (n:Nat),.tup (l.map .str)] O=.ok (.tup (rh (zO n l))) O:=by show fin (HD [KB (.int (n:Nat)),KB (.tup (l.map .str))] O)=_;unfold HD;exact vZ (pP (pD (pP (qe rfl rfl) (N9 b c d a O e))) (CL (Ji b c l) O))
def BV:D->Bool
 |.non=>KM
 |.bl _=>KM
 |.int _=>KM
 |.str _=>KM
 |_=>K7
def Bm:D->Bool
 |.tup ds=>ds.all BV
 |d=>BV d
def Pl(O:Ow):Prop:=∀c∈O,∀d∈c,Bm d=KM
def At(O:Ow):Prop:=∀c∈O,∀d∈c,BV d=KM
def QI:∀{d:D},BV d=KM->zQ n d=KM
 |.non,_=>rfl
 |.bl _,_=>rfl
 |.int _,_=>rfl
 |.str _,_=>rfl
def WE:∀{d:D},BV d=KM->nm d=KM
 |.non,_=>rfl
 |.bl _,_=>rfl
 |.int _,_=>rfl
 |.str _,_=>rfl
def VZ:∀{d:D},BV d=KM->Bm d=KM
 |.non,_=>rfl
 |.bl _,_=>rfl
 |.int _,_=>rfl
 |.str _,_=>rfl
def At.flat(h:At O):vO O:=λc a d b=>QI (h c a d b)
def At.pl(h:At O):Pl O:=λc a d b=>VZ (h c a d b)
theorem Jv:∀{ds:List D},(∀d∈ds,nm d=KM)->nms ds=KM
 |[],_=>rfl
 | d::ds,h=>by
  unfold nms;rw[h d au,Jv λx a=>h x (al _ a)];rfl
def WM:∀{d:D},Bm d=KM->nm d=KM
 | .tup ds,h=>by
  unfold nm;exact Jv λd a=>WE (ak.mp h d a)
 |.non,_=>rfl
 |.bl _,_=>rfl
 |.int _,_=>rfl
 |.str _,_=>rfl
def Pl.nms(h:Pl O):O.all nms=KM:=ak.mpr λc a=>Jv λd b=>WM (h c a d b)
def Pe:∀{d:D},Bm d=KM->frz O n (f+1) d=KB d
 | .tup ds,h=>by
  show(pR (frz O n f) ds).map D.tup=_;rw[z_ λd a=>Km (QI (ak.mp h d a))];rfl
 |.non,_=>rfl
 |.bl _,_=>rfl
 |.int _,_=>rfl
 |.str _,_=>rfl
def GB(a:Pl O')(X:Ow)(h:frz (O'++X) O'.length 8 d=KB d'):xb O'.length (.ok d (O'++X))=.ok d' O':=by
 unfold xb;dsimp only;rw[h];have:(O'++X).take O'.length=O':=by simp
 rw[this,z_ λc b=>z_ λd e=>Pe (a c b d e)]
def Pl.one(h:Pl O)(a:∀d∈c,Bm d=KM):Pl (O++[c]):=λx hx=>by
 rcases aP.mp hx with hx|hx
 ·exact h x hx
 ·have:x=c:=by simpa using hx
  subst this;exact a
def toT(c:List (List Nat)):D:=.tup (c.map .str)
def WK(c:List (List Nat)):Bm (toT c)=KM:=by show(c.map D.str).all BV=KM;rw[ak];intro d a;obtain⟨x,_,rfl⟩:=aB.mp a;rfl
def JW(l:List (List (List Nat))):∀d∈l.map toT,Bm d=KM:=λd a=>by
 obtain⟨x,_,rfl⟩:=aB.mp a;exact WK x
section
variable{α:Type}[DecidableEq α]
noncomputable def sG(inj:α->D)(h:DLC.Held α):D:=.map ((DLC.keys h).map dq) (h.map λkv=>.lst (kv.2.map inj))
structure Inj(inj:α->D):Prop where
 in_:∀(O:Ow)(x:α)(l:List α),w4 O (inj x) (.lst (l.map inj))=.ok (.bl (l.contains x)) O
 nin:∀(O:Ow)(x:α)(l:List α),vP O (inj x) (.lst (l.map inj))=.ok (.bl (!l.contains x)) O
variable{inj:α->D}(J:Inj inj)
def Om(n:(DLC.keys h).Nodup)(m:kv∈h):vY (.inr kv.1) ((DLC.keys h).map dq) (h.map λkv=>D.lst (kv.2.map inj))=KB (.lst (kv.2.map inj)):=by
 have e:(DLC.keys h).map dq=h.map λkv=>(dq kv.1:DK):=by unfold DLC.keys;rw[bg];rfl
 rw[e];refine RE (kk:=λkv:List Nat×List α=>(dq kv.1:DK)) (val:=λkv=>D.lst (kv.2.map inj)) m ?_;rw[<- e];exact fQ.mpr (List.Pairwise.imp (λa e=>a (gQ e)) n)
def ZC(n:(DLC.keys h).Nodup)(m:t∈DLC.keys h):vY (.inr t) ((DLC.keys h).map dq) (h.map λkv=>D.lst (kv.2.map inj))=KB (.lst ((DLC.at_ h t).map inj)):=by obtain⟨kv,a,rfl⟩:=aB.mp m;rw[Om n a,DLC.at_mem n a]
include J in
theorem Se(n:(DLC.keys h).Nodup)(b:h.length<=100)(x:α)(O:Ow):yU [sG inj h,inj x] O=.ok (.lst ((DLC.hold h x).map .str)) O:=by
 show fin (Hf [KB (sG inj h),KB (inj x)] O)=_;unfold Hf;have c:F7 (a_ 0) [KB (sG inj h),KB (inj x)] O=.ok (.val (h.map λa=>D.str a.1)) O:=by
  show R.ok (Src.val (((DLC.keys h).map dq).map An)) O=_;unfold DLC.keys;rw[bg,bg];rfl
 refine vZ ((zR (l:=h) (inj:=λa=>D.str a.1) (p:=λa=>a.2.contains x) (e:=λa=>.str a.1) (τ:=λa=>[KB (sG inj h),KB (inj x),KB (.str a.1)]) c 'd' (λ_=>rfl) (λa d=>qV (qL rfl (Ph rfl rfl rfl (Om n d)) (J.in_ O x a.2))) (λ_ _ _=>rfl)).trans ?_);show R.ok (D.lst _) O=_;unfold DLC.hold;rw[bg];rfl
theorem Ke:∀(w:List α)(b:α),(∀y∈w,tE (σ++[KB (inj y)]) O=.ok (.int (f y:Nat)) O)->DL.minGo tE σ (w.map inj) (inj b) (f b:Nat) O=.ok (inj (DLC.minGo f w b)) O
 |[],b,_=>rfl
 | x::w,b,h=>by
  rw[bH];unfold DL.minGo DLC.minGo;rw[h x au];dsimp only;by_cases c:f x<f b
  ·rw[qb (show((f x:Nat):Int)<(f b:Nat) by lia),qb c];exact Ke w x λy a=>h y (al _ a)
  ·rw[qq (show ¬ ((f x:Nat):Int)<(f b:Nat) by lia),qq c];exact Ke w b λy a=>h y (al _ a)
def B6:DE:=pB qB (b_ (j_ 2 yU (b_ (a_ 0) (b_ (a_ 9) d_))) d_)
def Ca:DE:=qj K7 1 (qg (a_ 1)) (.one 9) [(pA (f_ vP (a_ 9) (AW (a_ 0) (a_ 6))))] [] (a_ 9)
def AH(Pt:Nat)(F:List D->Ow->R D):DE:=AI (a_ 4) (b_ (qj K7 1 (qg (qS Pt 8 3 F (b_ (a_ 5) (b_ (a_ 7) (b_ (f_ (fI wJ) (a_ 2) (dC (.int 1))) d_))))) (.one 9) [] [] (f_ rX (tL (b_ (a_ 6) d_)) (a_ 9))) d_)
def stC(inj:α->D)(h:DLC.Held α)(w:List α)(m:Int)(y:Option D)(k:Nat)(a b c:Option D)(Pt:Nat):Sg:=[KB (sG inj h),KB (.lst (w.map inj)),KB (.int m),y,KB (.own k),a,b,c,KB (.tab Pt)]
include J in
theorem YC(n:(DLC.keys h).Nodup)(d:w.length<=100)(b:t∈DLC.keys h)(O:Ow):Ca (stC inj h w m y k a (KB (.str t)) c Pt) O=.ok (.lst ((DLC.left h w t).map inj)) O:=
 (zR (o:=K7) (l:=w) (inj:=inj) (p:=λx=>!(DLC.at_ h t).contains x) (e:=inj) (τ:=λx=>stC inj h w m y k a (KB (.str t)) c Pt++[KB (inj x)]) (vC rfl) 'd' (λ_=>rfl) (λx f=>qV (qL rfl (Ph rfl rfl rfl (ZC n b)) (J.nin O x _))) (λ_ _ _=>rfl)).trans rfl
def uW(a:σ[iT]?=KB (KB (.tab Pt)))(b:t σ O=.ok ds O1)(c:F ds O1=z)(d:ds.length=n:=by rfl):qS Pt iT n F t σ O=z:=by unfold qS;rw[a];dsimp only;rw[qb rfl];exact pP b c d
def Wq{h r:DLC.Held α}{w l:List α}{t:List Nat}{m:Nat}{y:Option D}{Pt:Nat}{F:List D->Ow->R D}{O:Ow}{K4 cs:List (List (List Nat))}(b:F [sG inj r,.lst (l.map inj),.int (m:Nat)] (O++[K4.map toT])=.ok (.lst (cs.map toT)) (O++[K4.map toT]))(k:K4.length+cs.length<=1700000)(a:∀c∈cs,c.length<=1000):
  AH Pt F (stC inj h w ((m+1:Nat):Int) y O.length (KB (sG inj r)) (KB (.str t)) (KB (.lst (l.map inj))) Pt) (O++[K4.map toT])=.ok .non (O++[(K4++cs.map (t :: ·)).map toT]):=by
 have d:((m+1:Nat):Int)-1=(m:Nat):=by lia
 have f:qS Pt 8 3 F (b_ (a_ 5) (b_ (a_ 7) (b_ (f_ (fI wJ) (a_ 2) (dC (.int 1))) d_))) (stC inj h w ((m+1:Nat):Int) y O.length (KB (sG inj r)) (KB (.str t)) (KB (.lst (l.map inj))) Pt) (O++[K4.map toT])=.ok (.lst (cs.map toT)) (O++[K4.map toT]):=by
  refine uW rfl (ds:=[sG inj r,.lst (l.map inj),.int (m:Nat)]) ?_ b;show R.ok [sG inj r,.lst (l.map inj),.int (((m+1:Nat):Int)-1)] _=_;rw[d]
 have g:=vW (o:=K7) (ext:=1) (i:=9) (l:=cs) (inj:=toT) (te:=f_ rX (tL (b_ (a_ 6) d_)) (a_ 9)) (e:=λc=>toT (t::c)) (τ:=λc=>stC inj h w ((m+1:Nat):Int) y O.length (KB (sG inj r)) (KB (.str t)) (KB (.lst (l.map inj))) Pt++[KB (toT c)]) (vC f) 'd' (λ_=>rfl) (λc j=>by
  refine qL (x:=.tup [.str t]) (y:=toT c) (O1:=O++[K4.map toT]) (O2:=O++[K4.map toT]) rfl rfl ?_;show(if [D.str t]≠[]/\[D.str t].length+(c.map D.str).length<=4000000 then R.ok (D.tup ([D.str t]++c.map D.str)) (O++[K4.map toT]) else .bad)=_;rw[qb ⟨by simp,by rw[ax];have:=a c j;simp;lia⟩];rfl)
 unfold AH AI;show(R.bnd (R.ok (D.own O.length) (O++[K4.map toT])) _)=_;show((b_ _ d_ _ (O++[K4.map toT])).bnd _)=_;rw[pD (g.trans (show uU K7 _=R.ok (D.lst (cs.map λc=>toT (t::c))) (O++[K4.map toT]) from rfl))];show(match [D.lst (cs.map λc=>toT (t::c))],(O++[K4.map toT])[O.length]? with|[y],KB ds=>(match rJ (O++[K4.map toT]) y with|some es=>if ds.length+es.length<=4000000 then R.ok D.non ((O++[K4.map toT]).set O.length (ds++es)) else R.bad|none=>R.bad)|_,_=>R.bad)=_;rw[CC];dsimp only[rJ];rw[qb (by simp;lia),Qq,dE,bg];rfl
def IJ(inj:α->D)(Pt k m:Nat):Prop:=∀(h:DLC.Held α)(w:List α)(O:Ow),Pl O->(DLC.keys h).Nodup->h.length<=100->w.length<=100->(∀x∈w,(DLC.hold h x).length<=6)->v_ Pt k [sG inj h,.lst (w.map inj),.int (m:Nat)] O=.ok (.lst ((DLC.cov m h w).map toT)) O
def Qr(h:DLC.Held α)(t:List Nat):(DLC.drop h t).length<=h.length:=bu _ _
def zf7(r:DLC.Held α)(t:List Nat):tY (.inr t) ((DLC.keys r).map dq)=(DLC.keys (DLC.drop r t)).map dq:=by
 unfold tY DLC.keys DLC.drop
 induction r with
 |nil=>rfl
 | cons kv r ih=>
  simp only[bH];by_cases e:kv.1=t
  ·rw[dJ (by simp[e]),dJ (by simp[e])];exact ih
  ·rw[dL (by simpa using e),dL (by simpa using e)];simp only[bH];rw[ih]
def zdY(r:DLC.Held α)(t:List Nat):xm (.inr t) ((DLC.keys r).map dq) (r.map λkv=>D.lst (kv.2.map inj))=(DLC.drop r t).map λkv=>D.lst (kv.2.map inj):=by
 unfold DLC.keys DLC.drop
 induction r with
 |nil=>rfl
 | cons kv r ih=>
  simp only[bH];unfold xm;by_cases e:kv.1=t
  ·rw[qb (by rw[e]),dJ (by simp[e])];exact ih
  ·rw[qq (λz=>e (gQ z)),dL (by simpa using e),bH,ih]
def WN(h:t∈DLC.keys r):C0 (.inr t) ((DLC.keys r).map dq)=KM:=by unfold C0;rw[bF];exact⟨.inr t,aB.mpr ⟨t,h,rfl⟩,by simp⟩
def OQ{Pt k m:Nat}(v:IJ inj Pt k m)(E:m<=7){h:DLC.Held α}{w:List α}(n:(DLC.keys h).Nodup)(i:h.length<=100)(j:w.length<=100)(z:∀x∈w,(DLC.hold h x).length<=6){O:Ow}(l:Pl O){y:Option D}:
  ∀(ts:List (List Nat))(r:DLC.Held α)(K4:List (List (List Nat)))(b c:Option D),(∀t∈ts,t∈DLC.keys r)->ts.Nodup->(∀kv∈r,kv∈h)->(∀x,(DLC.hold r x).length<=(DLC.hold h x).length)->(DLC.keys r).Nodup->r.length<=100->K4.length+ts.length*6 ^ m<=1700000->(∀t∈ts,t∈DLC.keys h)->
   ∃o p,xi 5 6 7 Ca (AH Pt (v_ Pt k)) (ts.map D.str) ((DLC.keys r).map dq) (r.map λkv=>D.lst (kv.2.map inj)) (stC inj h w ((m+1:Nat):Int) y O.length KF b c Pt) (O++[K4.map toT])=.nx (stC inj h w ((m+1:Nat):Int) y O.length KF o p Pt) (O++[(K4++DLC.covL (DLC.cov m) h w ts r).map toT])
 |[],r,K4,b,c,_,_,_,_,_,_,_,_=>⟨b,c,by unfold DLC.covL;rw[bC];rfl⟩
 | t::ts,r,K4,b,c,f,nt,hr,hh,nr,fr,hl,T7=>by
  have F:∀kv∈DLC.drop r t,kv∈h:=λkv f=>hr kv (DLC.mem_drop.mp f).1;have A:∀x,(DLC.hold (DLC.drop r t) x).length<=(DLC.hold h x).length:=λx=>aM (DLC.hold_drop r t x) (hh x);have C:∀x∈DLC.left h w t,(DLC.hold (DLC.drop r t) x).length<=6:=λx G=>aM (A x) (z x (DLC.mem_left.mp G).1);have N:=DLC.cov_few (B:=6) 'u' m C;have H:=YC J n j (T7 t au) (m:=((m+1:Nat):Int)) (y:=y) (k:=O.length) (Pt:=Pt) (a:=KF) (c:=c) (O++[K4.map toT]);have I:=v (DLC.drop r t) (DLC.left h w t) (O++[K4.map toT]) (l.one (JW K4)) (DLC.nd_drop nr) (aM (Qr r t) fr) (aM (bu _ _) j) C;have d:K4.length+(DLC.cov m (DLC.drop r t) (DLC.left h w t)).length<=1700000:=by
   rw[aS,mM] at hl;lia
  have K:=Wq (h:=h) (w:=w) (t:=t) (y:=y) (Pt:=Pt) I d λc L=>by have:=(DLC.cov_sound m (DLC.nd_drop nr) L).1;lia
  obtain⟨o,p,M⟩:=OQ v E n i j z l ts (DLC.drop r t) (K4++(DLC.cov m (DLC.drop r t) (DLC.left h w t)).map (t :: ·)) (KB (.str t)) (KB (.lst ((DLC.left h w t).map inj)))
   (λs g=>DLC.keys_drop.mpr ⟨f s (al _ g),λe=>(bG.mp nt).1 (e▸g)⟩) (bG.mp nt).2 F A (DLC.nd_drop nr) (aM (Qr r t) fr) (by rw[aE,ax];rw[aS,mM] at hl;lia) (λs g=>T7 s (al _ g))
  refine⟨o,p,?_⟩;rw[bH];unfold xi;dsimp only[vS];rw[qb (WN (f t au))];have q:Ca ((stC inj h w ((m+1:Nat):Int) y O.length KF b c Pt).set 6 (KB (.str t))) (O++[K4.map toT])=.ok (.lst ((DLC.left h w t).map inj)) (O++[K4.map toT]):=H;rw[q];dsimp only;rw[zf7,zdY];have u:AH Pt (v_ Pt k) ((((stC inj h w ((m+1:Nat):Int) y O.length KF b c Pt).set 6 (KB (.str t))).set 7 (KB (.lst ((DLC.left h w t).map inj)))).set 5 (KB (.map ((DLC.keys (DLC.drop r t)).map dq) ((DLC.drop r t).map λkv=>D.lst (kv.2.map inj))))) (O++[K4.map toT])=_:=K;rw[u];dsimp only;rw[qb (l.one (JW _)).nms];refine Eq.trans M ?_;show _=RS.nx _ (O++[(K4++((DLC.cov m (DLC.drop r t) (DLC.left h w t)).map (t :: ·)++DLC.covL (DLC.cov m) h w ts (DLC.drop r t))).map toT]);rw[a9]
include J in
theorem RB:∀(m k:Nat),m<k->m<=8->IJ inj Pt k m
 |m,0,hk,_=>by lia
 | 0,k+1,_,_=>by
  intro h w O f n a s i;show xb O.length (fin (yQ Pt (v_ Pt k) [KB (sG inj h),KB (.lst (w.map inj)),KB (.int 0),KF,KF,KF,KF,KF,KB (.tab Pt)] O))=_;unfold yQ;cases w with
  | nil=>
   rw[vB (Dy (O1:=O) (x:=.lst [.tup []]) (uZ (b:=K7) rfl) rfl)];have:=GB f [] (d:=.lst [.tup []]) (d':=.lst [.tup []]) rfl;rw[bC] at this;exact this
  | cons x w=>
   rw[vB (vw (O1:=O) (uZ (b:=KM) rfl) (Dy (O1:=O) (x:=.lst []) (qV (b:=KM) rfl) rfl))];have:=GB f [] (d:=.lst []) (d':=.lst []) rfl;rw[bC] at this;exact this
 | m+1,k+1,hk,hm=>by
  intro h w O f n a s i;cases w with
  | nil=>
   show xb O.length (fin (yQ Pt (v_ Pt k) [KB (sG inj h),KB (.lst []),KB (.int ((m+1:Nat):Int)),KF,KF,KF,KF,KF,KB (.tab Pt)] O))=_;unfold yQ;rw[vB (Dy (O1:=O) (x:=.lst [.tup []]) (uZ (b:=K7) rfl) rfl)];have:=GB f [] (d:=.lst [.tup []]) (d':=.lst [.tup []]) rfl;rw[bC] at this;exact this
  | cons x w=>
   have z:IJ inj Pt k m:=RB m k 'd' 'd';let c:Sg:=[KB (sG inj h),KB (.lst ((x::w).map inj)),KB (.int ((m+1:Nat):Int)),KF,KF,KF,KF,KF,KB (.tab Pt)];have u:∀y,B6 (c++[KB (inj y)]) O=.ok (.int ((DLC.hold h y).length:Nat)) O:=λy=>tF (pD (pP (qe rfl rfl) (Se J n a y O))) (by show R.ok (D.int (((DLC.hold h y).map D.str).length:Nat)) O=_;rw[ax]);generalize g:DLC.minGo (λy=>(DLC.hold h y).length) w x=y;have l:y∈x::w:=by
    rcases DLC.minGo_mem (λy=>(DLC.hold h y).length) w x with e|e
    ·rw[<- g,e];exact au
    ·rw[<- g];exact al _ e
   have A:Cc Pt 8 (a_ 1) B6 c O=.ok (inj y) O:=by
    show(if Pt=Pt then (R.bnd (R.ok (D.lst ((x::w).map inj)) O) λx O1=>match x with|.lst ds=>B8 B6 c O1 ds|_=>.bad) else .bad)=_;rw[qb rfl];show B8 B6 c O (inj x::w.map inj)=_;show(match B6 (c++[KB (inj x)]) O with|.ok (.int j) O1=>DL.minGo B6 c (w.map inj) (inj x) j O1|_=>.bad)=_;rw[u x];dsimp only;rw[<- g];exact Ke w x λy _=>u y
   have v:(6:Nat)*6 ^ m<=1700000:=by
    have:m<=7:=by lia
    have:=i3 (n:=6) 'u' this;lia
   obtain⟨K,L,B⟩:=OQ J z 'd' n a s i f (y:=KB (inj y)) (DLC.hold h y) h [] KF KF (λt o=>((DLC.mem_hold n).mp o).1) (DLC.hold_nd n y) (λ_ h=>h) (λ_=>aF _) n a (by
    have:=lB (6 ^ m) (i y l);simp only[cP];lia) (λt o=>((DLC.mem_hold n).mp o).1)
   have C:((m+1:Nat):Int)≠0:=by lia
   have E:pA (f_ (pC rq) (a_ 2) (dC (.int 0))) c O=.ok K7 O:=qV (qL rfl rfl (show pC rq O (.int ((m+1:Nat):Int)) (.int 0)=_ from by
    show R.ok (D.bl (((m+1:Nat):Int)==0)) O=_;rw[beq_eq_false_iff_ne.mpr C]))
   have p:qg (j_ 2 yU (b_ (a_ 0) (b_ (a_ 3) d_))) (stC inj h (x::w) ((m+1:Nat):Int) (KB (inj y)) O.length KF KF KF Pt) (O++[[]])=.ok (.val ((DLC.hold h y).map D.str)) (O++[[]]):=vC (pP (qe rfl rfl) (Se J n a y (O++[[]])));have F:Dp 5 6 7 (a_ 0) (qg (j_ 2 yU (b_ (a_ 0) (b_ (a_ 3) d_)))) Ca (AH Pt (v_ Pt k)) (l_ (a_ 4)) (stC inj h (x::w) ((m+1:Nat):Int) (KB (inj y)) O.length KF KF KF Pt) (O++[[]])=.rt (.own O.length) (O++[((DLC.covL (DLC.cov m) h (x::w) (DLC.hold h y) h)).map toT]):=by
    unfold Dp;show(R.bnS (R.ok (sG inj h) (O++[[]])) _)=_;show(R.bnS (qg (j_ 2 yU (b_ (a_ 0) (b_ (a_ 3) d_))) (stC inj h (x::w) ((m+1:Nat):Int) (KB (inj y)) O.length KF KF KF Pt) (O++[[]])) _)=_;rw[p];show(match xi 5 6 7 Ca (AH Pt (v_ Pt k)) ((DLC.hold h y).map D.str) ((DLC.keys h).map dq) (h.map λq=>D.lst (q.2.map inj)) (stC inj h (x::w) ((m+1:Nat):Int) (KB (inj y)) O.length KF KF KF Pt) (O++[[]]) with|.nx σ' O'=>l_ (a_ 4) σ' O'|_=>.bad)=_;have G:xi 5 6 7 Ca (AH Pt (v_ Pt k)) ((DLC.hold h y).map D.str) ((DLC.keys h).map dq) (h.map λq=>D.lst (q.2.map inj)) (stC inj h (x::w) ((m+1:Nat):Int) (KB (inj y)) O.length KF KF KF Pt) (O++[[]])=_:=B;rw[G];rw[cQ];rfl
   have r:yQ Pt (v_ Pt k) c O=.rt (.own O.length) (O++[((DLC.covL (DLC.cov m) h (x::w) (DLC.hold h y) h)).map toT]):=by
    unfold yQ;exact vw (O1:=O) (uZ (b:=KM) rfl) (vw E (tx (x:=inj y) A (tx (x:=.own O.length) (O1:=O++[[]]) rfl F)))
   show xb O.length (fin (yQ Pt (v_ Pt k) c O))=_;rw[vB r];have H:=GB f [(DLC.covL (DLC.cov m) h (x::w) (DLC.hold h y) h).map toT] (d:=.own O.length) (d':=.lst ((DLC.covL (DLC.cov m) h (x::w) (DLC.hold h y) h).map toT)) (by
    unfold frz;dsimp only;rw[qq (bN _),CC];dsimp only;rw[z_ λd I=>Pe (JW _ d I)];rfl)
   refine H.trans ?_;show _=R.ok (D.lst ((DLC.covL (DLC.cov m) h (x::w) (DLC.hold h (DLC.minGo (λy=>(DLC.hold h y).length) w x)) h).map toT)) O;rw[g]
end
def dm(cs:List Nat):Nat:=cs.foldl (λa c=>2*a+(if c=45 then 1 else 0)) 0
def wz:Nat->Nat
 |0=>0
 |1=>0
 |3=>0
 |7=>0
 |15=>0
 |2=>1
 |6=>1
 |14=>1
 |4=>2
 |12=>2
 |13=>2
 |8=>3
 |9=>3
 |11=>3
 |5=>4
 |_=>5
def zcL:((aA 16).all λp=>(YP 4).all λa=>(YP 4).all λb=>!((pM a).contains p&&(pM b).contains p&&wz (dm a)==wz (dm b))||(qD 4 a b||qD 4 b a))=KM:=by decide +kernel
def KI:([1,2,3].all λn=>(aA (2 ^ n)).all λp=>(YP n).all λa=>(YP n).all λb=>!((pM a).contains p&&(pM b).contains p&&wz (dm a)==wz (dm b))||(qD n a b||qD n b a))=KM:=by decide +kernel
def WS(k:Nat):wz k<6:=by unfold wz;split<;>decide
def zfT(h:1<=n)(i:n<=4)(c:p<2 ^ n)(d:a∈YP n)(f:b∈YP n)(j:p∈pM a)(k:p∈pM b)(e:wz (dm a)=wz (dm b)):qD n a b=KM\/qD n b a=KM:=by
 have g:(!((pM a).contains p&&(pM b).contains p&&wz (dm a)==wz (dm b))||(qD n a b||qD n b a))=KM:=by
  rcases vV h i with rfl|rfl|rfl|rfl
  ·exact ak.mp (ak.mp (ak.mp (ak.mp KI 1 'u') p (aR.mpr c)) a d) b f
  ·exact ak.mp (ak.mp (ak.mp (ak.mp KI 2 'u') p (aR.mpr c)) a d) b f
  ·exact ak.mp (ak.mp (ak.mp (ak.mp KI 3 'u') p (aR.mpr c)) a d) b f
  ·exact ak.mp (ak.mp (ak.mp zcL p (aR.mpr c)) a d) b f
 have z:((pM a).contains p&&(pM b).contains p&&wz (dm a)==wz (dm b))=KM:=by simp[j,k,e]
 rw[z] at g;simpa using g
theorem Ql:∀(k:Nat)(l:List Nat),l.Nodup->(∀x∈l,x<k)->l.length<=k
 | 0,l,_,h=>by
  cases l with
  |nil=>exact aF _
  |cons x l=>exact absurd (h x au) (nu _)
 | k+1,l,n,h=>by
  have b:=Ql k (l.erase k) (n.erase k) λx a=>by
   have:=h x (List.mem_of_mem_erase a);have c:x≠k:=λe=>by
    subst e;exact(List.Nodup.not_mem_erase n) a
   lia
  have d:l.length<=(l.erase k).length+1:=by rw[List.length_erase];split<;>lia
  lia
def zci{α:Type}(f:α->Nat):∀(l:List α),l.Nodup->(∀x∈l,f x<k)->(∀x∈l,∀y∈l,f x=f y->x=y)->l.length<=k:=by
 intro l c d g;have h:(l.map f).Nodup:=by
  refine fQ.mpr ?_;refine j0 ?_ c;intro a b i j m e;exact m (g a i b j e)
 have n:=Ql k (l.map f) h λx o=>by
  obtain⟨y,p,rfl⟩:=aB.mp o;exact d y p
 simpa using n
def zai(d:Fn n f)(h:cs∈YP n):B5 f cs=yg f cs:=by
 have:yg f cs=KM↔B5 f cs=KM:=by
  unfold yg B5;simp only[im,bF];constructor
  ·intro e;cases b:(qO f).filter λp=>(pM cs).contains p with
   |nil=>rw[b] at e;cases e
   | cons p l=>
    have g:p∈(qO f).filter λp=>(pM cs).contains p:=by rw[b];exact au
    obtain⟨a,c⟩:=aO.mp g;exact⟨p,by simpa using c,(oE.mp a).2⟩
  ·rintro⟨p,a,c⟩;cases b:(qO f).filter λp=>(pM cs).contains p with
   | nil=>
    have:p∈(qO f).filter λp=>(pM cs).contains p:=aO.mpr ⟨oE.mpr ⟨by rw[d.len];exact Cs d.n1 d.n4 h a,c⟩,by simpa using a⟩;rw[b] at this;cases this
   |cons p l=>rfl
 cases a:B5 f cs<;>cases c:yg f cs<;>simp_all
def Zn:(ou.all λa=>ou.all λb=>!(a.length==b.length&&qD a.length a b&&decide (a≠b))||(aA a.length).any λk=>a.getD k 0 !=45&&qD a.length (a.set k 45) b)=KM:=by decide +kernel
def zgC(b:a.length=n):qD n a (a.set k 45)=KM:=Ct λj c=>by
 by_cases e:k=j
 ·subst e;left;rw[aG,bw 'd'];rfl
 ·right;rw[aG,bq e,<- aG]
def zeZ(c:Fn n f)(d:a∈YP n)(e:b∈YP n)(h:qD n a b=KM)(g:sX f b=KM):sX f a=KM:=by unfold sX at *;rw[ak] at *;exact λp i=>g p (QN c.n1 c.n4 d e h i)
def Ru(a:Fn n f):Jn n f=gr n f:=by
 unfold Jn gr;refine io λt u=>?_;have i:=Ba u;have b:=qW a.n1 a.n4 i;unfold MA B4;rw[zai a i,Bool.and_comm];congr 1;unfold GC;rw[G_];have j:(aA t.length).any (zK f t)=KM ↔ ∃o∈tM n f,o≠t/\qD n t o=KM:=by
  rw[bF];constructor
  ·rintro⟨k,l,d⟩;have l:=aR.mp l;unfold zK at d;rw[aW] at d;have v:=KD a.n1 a.n4 i (k:=k) (c:=45) rfl;refine⟨t.set k 45,aO.mpr ⟨v,d.2⟩,λe=>?_,zgC b⟩;have w:t.getD k 0≠45:=by simpa using d.1
   have:(t.set k 45).getD k 0=45:=by rw[aG,bw l];rfl
   rw[e] at this;exact w this
  ·rintro⟨o,g,m,p⟩;have q:=Ba g;have h:=ak.mp (ak.mp Zn t (t5 a.n1 a.n4 i)) o (t5 a.n1 a.n4 q);rw[b,qW a.n1 a.n4 q,p,decide_eq_true (bB m)] at h;simp only[beq_self_eq_true,Bool.and_self,d8,lG] at h;rw[bF] at h;obtain⟨k,l,r⟩:=h;rw[aW] at r;refine⟨k,by rw[b];exact l,?_⟩;unfold zK;rw[aW];exact⟨r.1,zeZ a (KD a.n1 a.n4 i rfl) q r.2 (aO.mp g).2⟩
 cases d:(aA t.length).any (zK f t) with
 | true=>
  obtain⟨o,g,m,p⟩:=j.mp d;symm;show(tM n f).all _=K7;rw[List.all_eq_false];exact⟨o,g,by simp[m,p]⟩
 | false=>
  symm;show(tM n f).all _=KM;rw[ak];intro o g;cases s:(decide (o≠t)&&qD n t o) with
  |false=>rfl
  | true=>
   rw[aW] at s;have:=j.mpr ⟨o,g,of_decide_eq_true s.1,s.2⟩;rw[d] at this;cases this
def iN(p:Nat):D:=.int (p:Nat)
def US:Inj iN:=⟨λO x l=>JO O x l,λO x l=>zgA O x l⟩
def sH(n:Nat)(f:List D):DLC.Held Nat:=(gr n f).map λt=>(t,pM t)
def D1(n:Nat)(f:List D):DLC.keys (sH n f)=gr n f:=by unfold DLC.keys sH;rw[bg];exact gT _
def Y3(n:Nat)(f:List D)(x:Nat):DLC.hold (sH n f) x=(gr n f).filter λt=>(pM t).contains x:=by unfold DLC.hold sH;rw[kz,bg];exact gT _
def PR(g:a∈gr n f)(i:b∈gr n f)(h:qD n a b=KM):a=b:=by have c:=(aO.mp g).2;unfold B4 at c;rw[aW,j8,fv] at c;have d:=c.1 b (aO.mp i).1;rw[h,gd] at d;have j:¬ b≠a:=λe=>d (decide_eq_true e);exact(Decidable.not_not.mp j).symm
def zdS(b:p∈qO f)(c:p∈pM t):yg f t=KM:=by
 unfold yg;have a:p∈(qO f).filter λp=>(pM t).contains p:=aO.mpr ⟨b,by simpa using c⟩;cases e:(qO f).filter λp=>(pM t).contains p with
 |nil=>rw[e] at a;cases a
 |cons _ _=>rfl
def zgl:(o6.all λq=>decide (pM ((vt q.1 q.2).set (q.1-1) 45)=[2*(q.2/2),2*(q.2/2)+1])&&decide ((vt q.1 q.2).set (q.1-1) 45∈YP q.1))=KM:=by decide +kernel
section
variable{n:Nat}{f:List D}(hf:Fn n f)
include hf
theorem Jf:(gr n f).Nodup:=(Wk hf).imp λh e=>by subst e;exact absurd h (fZ _)
theorem Gr:(DLC.keys (sH n f)).Nodup:=by rw[D1];exact Jf hf
theorem PF:(sH n f).length<=100:=by unfold sH gr;rw[ax];have a:=bu (B4 n f) (tM n f);have:=RM hf;lia
theorem NI(h:t∈gr n f):DLC.at_ (sH n f) t=pM t:=DLC.at_mem (Gr hf) (kv:=(t,pM t)) (aB.mpr ⟨t,h,rfl⟩)
theorem zhn(x:Nat)(g:x∈qO f):(DLC.hold (sH n f) x).length<=6:=by
 rw[Y3];refine zci (λt=>wz (dm t)) _ ((Jf hf).filter _) (λt _=>WS _) λa c b d e=>?_;obtain⟨c,i⟩:=aO.mp c;obtain⟨d,j⟩:=aO.mp d;have k:x<2 ^ n:=by have:=(oE.mp g).1;rw[hf.len] at this;exact this
 rcases zfT hf.n1 hf.n4 k (xt c) (xt d) (by simpa using i) (by simpa using j) e with h|h
 ·exact PR c d h
 ·exact(PR d c h).symm
theorem J8(c:p∈qO f):vG (f.getD p .non)=K7:=by obtain⟨b,a⟩:=oE.mp c;rw[v8 b] at a ⊢;rcases hf.ans _ (cr b) with e|e|e<;>rw[e] at a ⊢ <;> first|rfl|cases a
theorem Q6(a:s∈tM n f)(d:p∈qO f)(e:p∈pM s):∃t∈gr n f,∀q∈pM s,q∈pM t:=by obtain⟨w,b,g⟩:=Nn (λt h=>qW hf.n1 hf.n4 (Ba h)) a;have c:∀q∈pM s,q∈pM w:=λq i=>QN hf.n1 hf.n4 (Ba a) (Ba (oF.mp b).1) g i;exact⟨w,Yx b (zdS d (c p e)),c⟩
theorem zgK(i:Nat):(∃p∈qO f,p/2=i)->∃t∈gr n f,∀p∈qO f,p/2=i->p∈pM t:=by
 rintro⟨p,d,rfl⟩;have m:p<2 ^ n:=by have:=(oE.mp d).1;rw[hf.len] at this;exact this
 by_cases g:2*(p/2)∈qO f/\2*(p/2)+1∈qO f
 ·have c:=ak.mp zgl (n,p) (Rb hf.n1 hf.n4 m);simp only[aW,decide_eq_true_eq] at c;have h:(vt n p).set (n-1) 45∈tM n f:=aO.mpr ⟨c.2,by
   unfold sX;rw[c.1];simp only[iz,List.all_nil,gd,J8 hf g.1,J8 hf g.2];rfl⟩
  obtain⟨t,j,k⟩:=Q6 hf h g.1 (by rw[c.1];simp);refine⟨t,j,λq l o=>k q ?_⟩;rw[c.1,<- o];simp only[aq,aZ,or_false];lia
 ·have c:=ak.mp zcZ (n,p) (Rb hf.n1 hf.n4 m);simp only[aW,decide_eq_true_eq] at c;have h:vt n p∈tM n f:=aO.mpr ⟨c.2,by
   unfold sX;rw[c.1];simp only[iz,List.all_nil,gd,J8 hf d];rfl⟩
  obtain⟨t,j,k⟩:=Q6 hf h d (by rw[c.1];simp);refine⟨t,j,λq l o=>k q ?_⟩;rw[c.1];by_cases e:q=p
  ·rw[e];simp
  ·exfalso;refine g ?_;have:(q=2*(p/2)/\p=2*(p/2)+1)\/(p=2*(p/2)/\q=2*(p/2)+1):=by lia
   rcases this with⟨a,b⟩|⟨a,b⟩
   ·exact⟨a▸l,b▸d⟩
   ·exact⟨a▸d,b▸l⟩
theorem Ro:∀k:Nat,∃S:List (List Nat),S.length<=k/\(∀t∈S,t∈gr n f)/\∀p∈qO f,p/2<k->∃t∈S,p∈pM t
 |0=>⟨[],aF _,λ_ h=>(aZ h).elim,λ_ _ h=>absurd h (nu _)⟩
 | k+1=>by
  obtain⟨S,i,c,d⟩:=Ro k;by_cases g:∃p∈qO f,p/2=k
  ·obtain⟨t,j,l⟩:=zgK hf k g;refine⟨t::S,by simp;exact i,λs b=>?_,λp a m=>?_⟩
   ·rcases aq.mp b with rfl|h
    ·exact j
    ·exact c s h
   ·by_cases e:p/2=k
    ·exact⟨t,au,l p a e⟩
    ·obtain⟨s,b,o⟩:=d p a 'd';exact⟨s,al _ b,o⟩
  ·refine⟨S,by lia,c,λp a m=>d p a ?_⟩;have:p/2≠k:=λe=>g ⟨p,a,e⟩;lia
theorem Vi:DLC.cov 8 (sH n f) (qO f)≠[]:=by
 obtain⟨S,h,b,i⟩:=Ro hf 8;have j:DLC.Cov (sH n f) (qO f) S:=⟨λt a=>by rw[D1];exact b t a,λx d=>by
  have:=(oE.mp d).1;rw[hf.len] at this;have l:=Ag hf.n4;obtain⟨t,a,k⟩:=i x d 'd';exact⟨t,a,by rw[NI hf (b t a)];exact k⟩⟩
 obtain⟨c,g,_⟩:=DLC.cov_some 8 (Gr hf) j h;intro e;rw[e] at g;cases g
theorem YH(O:Ow):Hm [.tup f] O=.ok (sG iN (sH n f)) O:=by
 have c:=Su hf O;rw[Ru hf] at c;have j:(gr n f).length<=100:=by have:=PF hf;unfold sH at this;rwa [ax] at this
 have d:=zfZ (ext:=1) (i:=1) (it0:=qg (j_ 1 Ai (b_ (a_ 0) d_))) (tk:=a_ 1) (tv:=j_ 1 xw (b_ (a_ 1) d_)) (σ:=[KB (.tup f)]) (O0:=O) (O:=O) (l:=gr n f) (inj:=D.str) (key:=D.str) (val:=λt=>.lst (ur (pM t))) (kk:=dq) (τ:=λt=>[KB (.tup f),KB (.str t)]) (vC ((uw (pD rfl) rfl).trans c)) 'd' (by
  refine fQ.mpr ((Jf hf).imp ?_);intro a b h e;exact h (gQ e)) (λ_=>rfl) (λ_ _=>rfl) (λ_ _=>rfl) (λt g=>(uw (pD rfl) rfl).trans (Ej (t5 hf.n1 hf.n4 (xt g)) O))
 show fin (Hi [KB (.tup f)] O)=_;unfold Hi;have e:sG iN (sH n f)=.map ((gr n f).map dq) ((gr n f).map λt=>.lst (ur (pM t))):=by
  unfold sG;rw[D1];unfold sH;rw[bg];rfl
 rw[e];show fin (l_ _ _ _)=_;unfold l_;rw[d];rfl
end
noncomputable def Bj(t:List Nat):Int:=((t.length-t.count 45:Nat):Int)
def zhc(O:Ow):(ou.map λcs=>CF [.str cs] O)=ou.map λcs=>R.ok (D.int (Bj cs)) O:=by kernel_rfl
def ZI(h:cs∈ou)(O:Ow):CF [.str cs] O=.ok (.int (Bj cs)) O:=fT.mp (zhc O) cs h
def rH(c:List (List Nat)):Int:=(c.map Bj).sum
theorem Ku:∀l:List Int,yd (l.map D.int)=KB l
 |[]=>rfl
 | x::l=>by
  show(yd (l.map D.int)).map (x :: ·)=_;rw[Ku l];rfl
def JP(a:∀t∈c,t∈ou)(f:c.length<=1000)(O:Ow):tD [toT c] O=.ok (.int (rH c)) O:=by
 have b:=vW (o:=K7) (ext:=1) (i:=1) (it0:=qg (a_ 0)) (σ:=[KB (toT c)]) (O0:=O) (O:=O) (l:=c) (inj:=D.str) (te:=j_ 1 CF (b_ (a_ 1) d_)) (e:=λt=>D.int (Bj t)) (τ:=λt=>[KB (toT c),KB (.str t)]) (Cu rfl) 'd' (λ_=>rfl) (λt d=>pP (pD rfl) (ZI (a t d) O));show fin (G2 [KB (toT c)] O)=_;unfold G2;refine vZ (tF (pD b) ?_);show(match yd (c.map λt=>D.int (Bj t)) with|some ns=>R.ok (D.int ns.sum) O|none=>.bad)=_;have:(c.map λt=>D.int (Bj t))=(c.map Bj).map D.int:=by rw[bg];rfl
 rw[this,Ku];rfl
def cW:DT:=qQ (qo (a_ 3))
def bW(Pt:Nat):DS:=n_ (Dh 2 (dC (.int 1))) (pY 3 (qS Pt 5 3 (Cw Pt) (b_ (a_ 0) (b_ (a_ 1) (b_ (a_ 2) d_)))))
section
variable{α:Type}[DecidableEq α]{inj:α->D}(J:Inj inj)
def sF(inj:α->D)(h:DLC.Held α)(w:List α)(Pt m:Nat)(x:Option D):Sg:=[KB (sG inj h),KB (.lst (w.map inj)),KB (.int (m:Nat)),KB (.lst ((DLC.cov m h w).map toT)),x,KB (.tab Pt)]
structure Sz(h:DLC.Held α)(w:List α):Prop where
 nd:(DLC.keys h).Nodup
 few:h.length<=100
 wl:w.length<=100
 six:∀x∈w,(DLC.hold h x).length<=6
include J in
theorem OB(z:Sz h w)(c:m<=8)(d:Pl O):qS Pt 5 3 (Cw Pt) (b_ (a_ 0) (b_ (a_ 1) (b_ (a_ 2) d_))) [KB (sG inj h),KB (.lst (w.map inj)),KB (.int (m:Nat)),a,b,KB (.tab Pt)] O=.ok (.lst ((DLC.cov m h w).map toT)) O:=
 uW rfl (GU rfl (qe rfl rfl)) (RB J m 10 'd' c h w O d z.nd z.few z.wl z.six)
include J in
theorem Qg(z:Sz h w)(i:DLC.cov 8 h w≠[]):∀(fuel m:Nat),m<=8->8<m+fuel->∃c,m<=c/\c<=8/\DLC.cov c h w≠[]/\(∀j,m<=j->j<c->DLC.cov j h w=[])/\∀(Pt:Nat)(O:Ow),Pl O->vA cW (bW Pt) fuel (sF inj h w Pt m KF) O=.nx (sF inj h w Pt c KF) O
 |0,m,h1,h2=>by lia
 | fuel+1,m,h1,h2=>by
  by_cases e:DLC.cov m h w=[]
  ·have x:m≠8:=λq=>i (q▸e);obtain⟨c,y,l,n,o,p⟩:=Qg z i fuel (m+1) 'd' 'd';refine⟨c,by lia,l,n,λj s d=>?_,λPt O f=>?_⟩
   ·by_cases q:j=m
    ·rw[q];exact e
    ·exact o j 'd' d
   ·have g:cW (sF inj h w Pt m KF) O=.ok KM O:=by
     unfold sF;rw[e];rfl
    have u:bW Pt (sF inj h w Pt m KF) O=.nx (sF inj h w Pt (m+1) KF) O:=by
     refine A0 (σ':=[KB (sG inj h),KB (.lst (w.map inj)),KB (.int ((m+1:Nat):Int)),KB (.lst ((DLC.cov m h w).map toT)),KF,KB (.tab Pt)]) (O1:=O) rfl ?_;rw[A4 (OB J z 'd' f)];rfl
    show((cW (sF inj h w Pt m KF) O).bnS λk O1=>if k=KM then (match bW Pt (sF inj h w Pt m KF) O1 with
     |.nx σ' O'=>vA cW (bW Pt) fuel σ' O'
     |.ct σ' O'=>vA cW (bW Pt) fuel σ' O'
     |.bk σ' O'=>.nx σ' O'
     |r=>r) else .nx (sF inj h w Pt m KF) O1)=_
    rw[g];show(if KM=KM then (match bW Pt (sF inj h w Pt m KF) O with
     |.nx σ' O'=>vA cW (bW Pt) fuel σ' O'
     |.ct σ' O'=>vA cW (bW Pt) fuel σ' O'
     |.bk σ' O'=>.nx σ' O'
     |r=>r) else RS.nx (sF inj h w Pt m KF) O)=_
    rw[qb rfl,u];exact p Pt O f
  ·refine⟨m,aF _,h1,e,λj a b=>by lia,λPt O f=>?_⟩;have g:cW (sF inj h w Pt m KF) O=.ok K7 O:=by
    refine uZ (b:=KM) ?_;rw[Qk (t:=a_ 3) (σ:=sF inj h w Pt m KF) (O:=O) (O1:=O) (ds:=(DLC.cov m h w).map toT) rfl];cases v:DLC.cov m h w with
    |nil=>exact absurd v e
    |cons _ _=>rfl
   show((cW (sF inj h w Pt m KF) O).bnS λk O1=>if k=KM then (match bW Pt (sF inj h w Pt m KF) O1 with
     |.nx σ' O'=>vA cW (bW Pt) fuel σ' O'
     |.ct σ' O'=>vA cW (bW Pt) fuel σ' O'
     |.bk σ' O'=>.nx σ' O'
     |r=>r) else .nx (sF inj h w Pt m KF) O1)=_
   rw[g];rfl
theorem Qy:∀l:List (List (List Nat)),yF (l.map toT)=KB l
 |[]=>rfl
 | x::l=>by
  show(match ue (x.map D.str),yF (l.map toT) with|some ks,KB t=>KB (ks::t)|_,_=>KF)=_;rw[strL_map,Qy l]
def few(h:DLC.Held α)(w:List α)(m:Nat):Int:=zM ((DLC.cov m h w).map rH)
def yH(h:DLC.Held α)(w:List α)(m:Nat):List (List (List Nat)):=zG (((DLC.cov m h w).filter λc=>rH c==few h w m).map p8)
theorem D4:∀(l:List Int)(x:Int),l.foldl min x=x\/l.foldl min x∈l
 |[],x=>.inl rfl
 | y::l,x=>by
  show l.foldl min (min x y)=x\/_;rcases D4 l (min x y) with e|e
  ·rw[show(List.foldl min x (y::l))=l.foldl min (min x y) from rfl,e];rcases Int.le_total x y with g|g
   ·left;lia
   ·right;rw[show min x y=y by lia];exact au
  ·right;exact al _ e
def Zm{h:DLC.Held α}{w:List α}{m:Nat}(a:DLC.cov m h w≠[]):∃c∈DLC.cov m h w,rH c=few h w m:=by
 unfold few;cases b:DLC.cov m h w with
 |nil=>exact absurd b a
 | cons c l=>
  rcases D4 (l.map rH) (rH c) with e|e
  ·exact⟨c,au,e.symm⟩
  ·obtain⟨d,f,q⟩:=aB.mp e;exact⟨d,al _ f,q⟩
def oZ{h:DLC.Held α}{w:List α}{m:Nat}{x:List (List Nat)}:x∈yH h w m ↔ ∃c∈DLC.cov m h w,rH c=few h w m/\p8 c=x:=by
 unfold yH;rw[(Kz _).mem_iff,aB];constructor
 ·rintro⟨c,d,rfl⟩;obtain⟨a,b⟩:=aO.mp d;exact⟨c,a,by simpa using b,rfl⟩
 ·rintro⟨c,a,b,rfl⟩;exact⟨c,aO.mpr ⟨a,by simpa using b⟩,rfl⟩
def Za{h:DLC.Held α}{w:List α}{m:Nat}(a:DLC.cov m h w≠[]):yH h w m≠[]:=by obtain⟨c,b,e⟩:=Zm a;have:p8 c∈yH h w m:=oZ.mpr ⟨c,b,e,rfl⟩;intro q;rw[q] at this;cases this
include J in
theorem VF(z:Sz h w)(E:∀t∈DLC.keys h,t∈ou)(F:DLC.cov 8 h w≠[]):∃m,m<=8/\DLC.cov m h w≠[]/\(∀j,j<m->DLC.cov j h w=[])/\∀(Pt:Nat)(O:Ow),Pl O->HA Pt [sG inj h,.lst (w.map inj)] O=.ok (.lst ((yH h w m).map toT)) O:=by
 obtain⟨m,_,r,s,G,H⟩:=Qg J z F 10 0 'd' 'd';refine⟨m,r,s,λj I=>G j 'd' I,λPt O u=>?_⟩;show fin (KZ Pt [KB (sG inj h),KB (.lst (w.map inj)),KF,KF,KF,KB (.tab Pt)] O)=_;unfold KZ;have v:(DLC.cov m h w).length<=1679616:=by
  have:=DLC.cov_few (B:=6) 'd' m z.six;have y:6 ^ m<=6 ^ 8:=i3 'd' r;have:(6:Nat) ^ 8=1679616:=by decide
  lia
 have A:∀c∈DLC.cov m h w,∀O,tD [toT c] O=.ok (.int (rH c)) O:=λc a O=>by
  obtain⟨C,f,b⟩:=DLC.cov_sound m z.nd a;exact JP (λt g=>E t (b.1 t g)) 'd' O
 have K:pB Dv (b_ (qj K7 1 (qg (a_ 3)) (.one 6) [] [] (j_ 1 tD (b_ (a_ 6) d_))) d_) (sF inj h w Pt m KF) O=.ok (.int (few h w m)) O:=by
  have k:=vW (o:=K7) (ext:=1) (i:=6) (it0:=qg (a_ 3)) (σ:=sF inj h w Pt m KF) (O0:=O) (O:=O) (l:=DLC.cov m h w) (inj:=toT) (te:=j_ 1 tD (b_ (a_ 6) d_)) (e:=λc=>D.int (rH c)) (τ:=λc=>sF inj h w Pt m KF++[KB (toT c)]) (vC rfl) 'd' (λ_=>rfl) (λc a=>pP (pD rfl) (A c a O));refine tF (pD k) ?_;show(match yd ((DLC.cov m h w).map λc=>D.int (rH c)) with|some ns=>(if ns≠[] then R.ok (D.int (zM ns)) O else .bad)|none=>.bad)=_;have:((DLC.cov m h w).map λc=>D.int (rH c))=((DLC.cov m h w).map rH).map D.int:=by rw[bg];rfl
  rw[this,Ku];show(if (DLC.cov m h w).map rH≠[] then R.ok (D.int (zM ((DLC.cov m h w).map rH))) O else .bad)=_;rw[qb (by intro q;exact s (List.map_eq_nil_iff.mp q))];rfl
 have L:pB Dm (b_ (qj K7 1 (qg (a_ 3)) (.one 6) [(pA (f_ (pC rq) (j_ 1 tD (b_ (a_ 6) d_)) (a_ 4)))] [] (pB yO (b_ (pB AO (b_ (a_ 6) d_)) d_))) d_) (sF inj h w Pt m (KB (.int (few h w m)))) O=.ok (.lst ((yH h w m).map toT)) O:=by
  have k:=zR (o:=K7) (ext:=1) (i:=6) (it0:=qg (a_ 3)) (σ:=sF inj h w Pt m (KB (.int (few h w m)))) (O0:=O) (O:=O) (l:=DLC.cov m h w) (inj:=toT) (t:=pA (f_ (pC rq) (j_ 1 tD (b_ (a_ 6) d_)) (a_ 4))) (te:=pB yO (b_ (pB AO (b_ (a_ 6) d_)) d_)) (p:=λc=>rH c==few h w m) (e:=λc=>toT (p8 c)) (τ:=λc=>sF inj h w Pt m (KB (.int (few h w m)))++[KB (toT c)]) (vC rfl) 'd' (λ_=>rfl)
   (λc a=>qV ((qG (pP (pD rfl) (A c a O)) rfl).trans (Ux O _ _)))
   (λc a _=>by
    obtain⟨C,f,b⟩:=DLC.cov_sound m z.nd a;have M:pB AO (b_ (a_ 6) d_) (sF inj h w Pt m (KB (.int (few h w m)))++[KB (toT c)]) O=.ok (.lst ((p8 c).map .str)) O:=by
     refine tF (pD (x:=toT c) (O1:=O) rfl) ?_;show(match ue (c.map D.str) with|some ss=>(if ss.Nodup/\ss.length<=1000 then R.ok (D.lst ((p8 ss).map .str)) O else .bad)|none=>.bad)=_;rw[strL_map];show(if c.Nodup/\c.length<=1000 then R.ok (D.lst ((p8 c).map .str)) O else .bad)=_;rw[qb ⟨f,by lia⟩]
    exact tF (pD M) rfl)
  refine tF (pD k) ?_;have N:(((DLC.cov m h w).filter λc=>rH c==few h w m).map λc=>toT (p8 c))=(((DLC.cov m h w).filter λc=>rH c==few h w m).map p8).map toT:=by rw[bg];rfl
  show(match yF (((DLC.cov m h w).filter λc=>rH c==few h w m).map λc=>toT (p8 c)) with|some qM=>(if (2<=qM.length->(qM.all λd=>!d.isEmpty)=KM)/\qM.length<=4000000 then R.ok (D.lst ((zG qM).map DL.toT)) O else .bad)|none=>.bad)=_;rw[N,Qy];have P:(((DLC.cov m h w).filter λc=>rH c==few h w m).map p8).length<=4000000:=by
   rw[ax];have:=bu (λc=>rH c==few h w m) (DLC.cov m h w);lia
  have n:2<=(((DLC.cov m h w).filter λc=>rH c==few h w m).map p8).length->((((DLC.cov m h w).filter λc=>rH c==few h w m).map p8).all λd=>!d.isEmpty)=KM:=by
   intro y;cases w with
   | nil=>
    exfalso;rw[ax] at y;have T:=bu (λc=>rH c==few h ([]:List α) m) (DLC.cov m h []);have U:(DLC.cov m h ([]:List α)).length=1:=by unfold DLC.cov;rfl
    lia
   | cons x w=>
    rw[ak];intro d Q;obtain⟨c,a,rfl⟩:=aB.mp Q;have a:=(aO.mp a).1;obtain⟨C,f,b⟩:=DLC.cov_sound m z.nd a;obtain⟨t,g,_⟩:=b.2 x au;have:t∈p8 c:=(xr _).mpr g;cases S:p8 c with
    |nil=>rw[S] at this;cases this
    |cons _ _=>rfl
  show(if _/\_ then R.ok (D.lst ((zG (((DLC.cov m h w).filter λc=>rH c==few h w m).map p8)).map DL.toT)) O else .bad)=_;rw[qb ⟨n,P⟩];rfl
 refine vB (O1:=O) (tx (O1:=O) (x:=.int 0) rfl (tx (O1:=O) (OB J z (m:=0) 'd' u) (A0 (σ':=sF inj h w Pt m KF) (O1:=O) ?_ (tx (O1:=O) K ?_))))
 ·exact H Pt O u
 ·exact rL L
end
def UR(a:Fn n f):Sz (sH n f) (qO f):=⟨Gr a,PF a,by have:=QM a;lia,zhn a⟩
structure BX(n:Nat)(f:List D)(l:List (List Nat)):Prop where
 srt:l.Pairwise (· < ·)
 inn:∀t∈l,t∈gr n f
 isf:C1 f l=KM
 few:l.length<=8
def NG(b:Fn n f):∃l,BX n f l/\∀(Pt:Nat)(O:Ow),Pl O->xx Pt [.tup f] O=.ok (.tup (l.map .str)) O:=by
 obtain⟨m,w,k,_,o⟩:=VF US (UR b) (λt a=>by rw[D1] at a;exact t5 b.n1 b.n4 (xt a)) (Vi b);cases d:yH (sH n f) (qO f) m with
 |nil=>exact absurd d (Za k)
 | cons x r=>
  have q:x∈yH (sH n f) (qO f) m:=by rw[d];exact au
  obtain⟨c,s,_,rfl⟩:=oZ.mp q;obtain⟨y,z,e⟩:=DLC.cov_sound m (Gr b) s;have g:∀t∈c,t∈gr n f:=λt a=>by have:=e.1 t a;rwa [D1] at this
  refine⟨p8 c,⟨CB c,λt a=>g t ((xr c).mp a),?_,?_⟩,λPt O u=>?_⟩
  ·unfold C1;rw[ak];intro p v;obtain⟨t,a,h⟩:=e.2 p v;rw[NI b (g t a)] at h;rw[bF];exact⟨t,(xr c).mpr a,by simpa using h⟩
  ·have:=Qe c;lia
  ·have j:Hg Pt [.tup f] O=.ok (.lst ((yH (sH n f) (qO f) m).map toT)) O:=by
    show fin (Hj Pt [KB (.tup f),KB (.tab Pt)] O)=_;unfold Hj;exact vZ (uW rfl (qe (pP (pD rfl) (YH b O)) (pP (qe rfl rfl) (SD b O))) (o Pt O u))
   rw[d] at j;show fin (Hs Pt [KB (.tup f),KB (.tab Pt)] O)=_;unfold Hs;exact vZ (qL (uW rfl (pD rfl) j) rfl (Pq (i:=0) (ds:=List.map toT (p8 c::r)) 'k'))
def JE(a:Fn n f):rh (rh f)=f:=by unfold rh;rw[bg];refine(dS λd b=>?_).trans (gT f);rcases a.ans d b with rfl|rfl|rfl<;>rfl
def Xa(h:uF d):pl 7 d=KM:=by rcases h with rfl|rfl|rfl<;>rfl
def Jc(a:Fn n f):f.all (pl 7)=KM:=ak.mpr λd b=>Xa (a.ans d b)
def DV(O:Ow)(h:ds.all (pl 7)=KM):pC pT O (.tup ds) (.tup ds)=.ok (.bl K7) O:=(Jb O (x:=.tup ds) (y:=.tup ds) h h (b:=KM) 'k').2
def Jm(a:Fn n f)(h:∀t∈l,t∈gr n f):Tm l:=λt b=>t5 a.n1 a.n4 (xt (h t b))
def YB(h:O[k]?=KB ds):qu O 8 (.own k)=qu O 8 (.lst ds):=by show(match O[k]? with|some ds=>(pR (qu O 7) ds).map fq|none=>KF)=_;rw[h];rfl
def Sa(b:Fn n f)(h:BX n f l)(O:Ow):A8 [.tup f,.tup (l.map .str)] O=.ok (.bl KM) O:=by
 have c:l.length<64:=by have:=h.few;lia
 rw[zde b (λt a=>xt (h.inn t a)) c O (Rz b.n1 b.n4 'd' h.srt (λt a=>xt (h.inn t a)) O)];have:HW f l=KM:=by
  unfold HW;rw[h.isf,gd,ak];exact λt a=>J4 (h.inn t a)
 rw[this]
def z7G(a:Fn n f)(h:BX n (rh f) l)(O:Ow):Er [.tup f,.tup (l.map .str)] O=.ok (.bl KM) O:=by show fin (Hv [KB (.tup f),KB (.tup (l.map .str))] O)=_;unfold Hv;exact vZ (pP (qe (pP (pD rfl) (CL a O)) rfl) (Sa (zY a) h O))
def FX(f g:List D):Prop:=∀p,p<f.length->f.getD p .non=.non\/f.getD p .non=g.getD p .non
def XT(h:p<2 ^ n):(zO n l).getD p .non=D.int (if hit l p=KM then 1 else 0):=by unfold zO;rw[aG,a8,gc h];rfl
def OW(d:Fn n f)(h:BX n f l):FX f (zO n l):=λp a=>by
 have b:p<2 ^ n:=by rw[<- d.len];exact a
 rw[XT b];have g:=d.ans _ (cr a);rw[<- v8 a] at g;rcases g with e|e|e
 ·right;have:hit l p=K7:=by
   cases c:hit l p with
   |false=>rfl
   | true=>
    unfold hit at c;rw[bF] at c;obtain⟨t,j,k⟩:=c;have:=GJ (J4 (h.inn t j)) (p:=p) (by simpa using k);rw[e] at this;cases this
  rw[e,this];rfl
 ·right;have m:p∈qO f:=oE.mpr ⟨a,by rw[e];rfl⟩;have i:=h.isf;unfold C1 at i;have:hit l p=KM:=ak.mp i p m;rw[e,this];rfl
 ·exact .inl e
def Oi(p:Nat):(rh f).getD p .non=B0 (f.getD p .non):=by unfold rh;rw[aG,a8,aG];cases f[p]?<;>rfl
def ZA(h:FX f g):FX (rh f) (rh g):=λp a=>by
 unfold rh at a;rw[ax] at a;rw[Oi,Oi];rcases h p a with e|e
 ·left;rw[e];rfl
 ·right;rw[e]
def zgO(a:Fn n f)(h:BX n (rh f) l):FX f (rh (zO n l)):=by have:=ZA (OW (zY a) h);rwa [JE a] at this
def oY(O:Ow)(h:p<f.length):qf O (.tup f) (.int (p:Nat))=.ok (f.getD p .non) O:=by rw[v8 h];exact JH h
def W2(O:Ow)(h:uF d):pC pT O d d=.ok (.bl K7) O:=by rcases h with rfl|rfl|rfl<;>kernel_rfl
def Rh(k:Fn n f)(u:Fn n g)(h:FX f g)(O:Ow):Bc [.tup f,.tup g] O=.ok (.bl KM) O:=by
 have z:=Ag k.n4;have A:=k.len;show fin (Ho [KB (.tup f),KB (.tup g)] O)=_;unfold Ho;have v:vp (b_ (pB qB (b_ (a_ 0) d_)) d_) [KB (.tup f),KB (.tup g)] O=.ok (.val ((aA f.length).map λ(i:Nat)=>D.int (i:Int))) O:=D2 (pD (tF (pD rfl) (Kc O f))) 'd';have w:=zR (o:=K7) (ext:=1) (i:=2) (O0:=O) (O:=O) (σ:=[KB (.tup f),KB (.tup g)]) (l:=aA f.length) (inj:=λ(i:Nat)=>D.int (i:Int)) (t:=tw (pA (f_ yJ (f_ qf (a_ 0) (a_ 2)) (dC .non))) (pA (f_ (pC pT) (f_ qf (a_ 0) (a_ 2)) (f_ qf (a_ 1) (a_ 2))))) (te:=a_ 2) (p:=λ_=>K7) (e:=λ(i:Nat)=>D.int (i:Int)) (τ:=λi=>[KB (.tup f),KB (.tup g),KB (.int (i:Nat))]) v (by rw[cM];lia) (λ_=>rfl)
  (λp j=>by
   have j:=aR.mp j;have m:p<g.length:=by rw[u.len,<- k.len];exact j
   have r:=oY O j;have y:=oY O m;have s:=k.ans _ (cr j);rw[<- v8 j] at s;rcases h p j with e|e
   ·exact CD (a:=K7) (b:=K7) (qV (qL (qL rfl rfl r) rfl (by rw[e];rfl))) (λq=>by cases q)
   ·have:=CD (σ:=[KB (.tup f),KB (.tup g),KB (.int (p:Nat))]) (O:=O) (c:=pA (f_ yJ (f_ qf (a_ 0) (a_ 2)) (dC .non))) (d:=pA (f_ (pC pT) (f_ qf (a_ 0) (a_ 2)) (f_ qf (a_ 1) (a_ 2)))) (a:=!AS (f.getD p .non)) (b:=K7) (qV (qL (qL rfl rfl r) rfl rfl)) (λ_=>qV (qL (qL rfl rfl r) (qL rfl rfl y) (by rw[<- e];exact W2 O s)));rw[nD] at this;exact this)
   (λp j q=>by cases q)
 refine vZ (qL (O1:=O) (x:=.lst []) (w.trans (by rw[fv.mpr (λ_ _=>by simp)];rfl)) rfl ?_);kernel_rfl
def GF(h:t σ O=.ok [a,b] O1):tL t σ O=.ok (.tup [a,b]) O1:=by show((t σ O).bnd _)=_;rw[h];rfl
def RN(a:Tm l)(b:l.length<=8)(O:Ow):A_ [.tup (l.map .str)] O=.ok (.tup [.int (l.length:Nat),.int (rH l)]) O:=by show fin (Hc [KB (.tup (l.map .str))] O)=_;unfold Hc;refine vZ (GF (qe (tF (pD rfl) ((Kc O _).trans (by rw[ax]))) (pP (pD rfl) (JP a 'd' O))))
def At.set(h:At O)(m:Nat)(s:Int)(b:Bool):At (O.set m [.int s,.bl b]):=λc e d a=>by
 rcases fX e with q|q
 ·exact h c q d a
 ·subst q;simp only[aq,aZ,or_false] at a;rcases a with rfl|rfl<;>rfl
def At.app(h:At O)(s:Int)(b:Bool):At (O++[[.int s,.bl b]]):=λc e d a=>by
 rcases aP.mp e with q|q
 ·exact h c q d a
 ·have:c=[.int s,.bl b]:=by simpa using q
  subst this;simp only[aq,aZ,or_false] at a;rcases a with rfl|rfl<;>rfl
def At.strs(h:At O)(b:oU X):At (O++X):=λc e d a=>by
 rcases aP.mp e with q|q
 ·exact h c q d a
 ·obtain⟨l,rfl⟩:=b c q;obtain⟨x,_,rfl⟩:=aB.mp a;rfl
def Jx(a:c σ O=.ok K7 O1)(b:d σ O1=.ok K7 O2):uG c d σ O=.ok K7 O2:=by show((c σ O).bnd _)=_;rw[a];exact b
def Xm(a:c σ O=.ok KM O1)(e:d σ O1=.ok b O2):tw c d σ O=.ok b O2:=by show((c σ O).bnd _)=_;rw[a];exact e
def X2(h:t σ O=.ok [x,y] O1):Di i j t σ O=.nx ((σ.set i (KB x)).set j (KB y)) O1:=by show((t σ O).bnS _)=_;rw[h];rfl
def We(h:t σ O=.ok (.tup [x,y]) O1):Df (.two i j) t σ O=.nx ((σ.set i (KB x)).set j (KB y)) O1:=by show((t σ O).bnS _)=_;rw[h];rfl
def WG(h:O[k]?=KB (l.map D.str))(a:Tm l):pC pT O (.own k) (.lst (l.map .str))=.ok (.bl K7) O:=by
 have e:=U3 O a a;have:pC pT O (.own k) (.lst (l.map .str))=pC pT O (.lst (l.map .str)) (.lst (l.map .str)):=by
  unfold pC py;rw[YB h]
 rw[this,e];simp
structure UD(n:Nat)(f:List D)(l1 l2:List (List Nat)):Prop where
 fn:Fn n f
 s:BX n f l1
 p:BX n (rh f) l2
 e1:∀(Pt:Nat)(O:Ow),Pl O->xx Pt [.tup f] O=.ok (.tup (l1.map .str)) O
 e2:∀(Pt:Nat)(O:Ow),Pl O->xx Pt [.tup (rh f)] O=.ok (.tup (l2.map .str)) O
def XJ(e:Fn n f):∃g h,UD n f g h:=by obtain⟨g,a,b⟩:=NG e;obtain⟨h,c,d⟩:=NG (zY e);exact⟨g,h,e,a,c,b,d⟩
section
variable{n:Nat}{f:List D}{l1 l2:List (List Nat)}(h:UD n f l1 l2)
include h
theorem JF(Pt:Nat)(a:Pl O):yT Pt [.tup f] O=.ok (.tup (l2.map .str)) O:=by show fin (CQ Pt [KB (.tup f),KB (.tab Pt)] O)=_;unfold CQ;exact vZ (uW rfl (pD (pP (pD rfl) (CL h.fn O))) (h.e2 Pt O a))
theorem zgF(Pt:Nat)(a:Pl O):yT Pt [.tup (rh f)] O=.ok (.tup (l1.map .str)) O:=by show fin (CQ Pt [KB (.tup (rh f)),KB (.tab Pt)] O)=_;unfold CQ;refine vZ (uW rfl (pD (pP (pD rfl) ((CL (zY h.fn) O).trans ?_))) (h.e1 Pt O a));rw[JE h.fn]
theorem Ta:Tm l1:=Jm h.fn h.s.inn
theorem S_:Tm l2:=Jm (zY h.fn) h.p.inn
def wb(l1 l2:List (List Nat)):Bool:=sZ (l2.length:Nat) (rH l2) (l1.length:Nat) (rH l1)
def HE(b:Bool):List Nat:=if b=KM then [112,114,111,100,117,99,116,115] else [115,117,109,115]
theorem Yc(Pt:Nat)(a:Pl O):El Pt [.tup f] O=.ok (.tup [.str (HE (wb l1 l2)),.tup ((if wb l1 l2=KM then l2 else l1).map .str)]) O:=by
 show fin (KY Pt [KB (.tup f),KF,KF,KB (.tab Pt)] O)=_;unfold KY;have d:=RN (Ta h) h.s.few O;have e:=RN (S_ h) h.p.few O;have b:pA (f_ B1 (j_ 1 A_ (b_ (a_ 2) d_)) (j_ 1 A_ (b_ (a_ 1) d_))) [KB (.tup f),KB (.tup (l1.map .str)),KB (.tup (l2.map .str)),KB (.tab Pt)] O=.ok (wb l1 l2) O:=qV (qL (pP (pD rfl) e) (pP (pD rfl) d) rfl);cases c:wb l1 l2 with
 | true=>
  rw[c] at b;exact vB (tx (uW rfl (pD rfl) (h.e1 Pt O a)) (tx (uW rfl (pD rfl) (JF h Pt a)) (Dy b (rL (GF (qe rfl rfl))))))
 | false=>
  rw[c] at b;exact vB (tx (uW rfl (pD rfl) (h.e1 Pt O a)) (tx (uW rfl (pD rfl) (JF h Pt a)) (vw b (rL (GF (qe rfl rfl))))))
end
def I9(Pt:Nat):DS:=(n_ (pY 2 (j_ 2 Ep (b_ (a_ 0) (b_ (a_ 1) d_)))) (n_ (pY 3 (f_ rX (dC (.int 1)) (j_ 2 ux (b_ (a_ 2) (b_ (dC (.int 4)) d_))))) (n_ (pY 4 (j_ 3 CN (b_ (a_ 2) (b_ (a_ 3) (b_ (f_ (pC rq) (j_ 2 ux (b_ (a_ 2) (b_ (dC (.int 2)) d_))) (dC (.int 1))) d_))))) (n_ (pY 5 (j_ 1 xu (b_ (a_ 4) d_))) (n_ (Di 6 7 (b_ (qS Pt 10 1 (xx Pt) (b_ (a_ 4) d_)) (b_ (qS Pt 10 1 (yT Pt) (b_ (a_ 4) d_)) d_))) (n_ (pS (uG (pA (f_ (pC pT) (j_ 1 xu (b_ (a_ 5) d_)) (a_ 4))) (uG (pA (f_ (pC pT) (qS Pt 10 1 (xx Pt) (b_ (a_ 5) d_)) (a_ 7))) (pA (f_ (pC pT) (qS Pt 10 1 (yT Pt) (b_ (a_ 5) d_)) (a_ 6))))) (l_ (dC (.bl K7))) pU) (n_ (pS (uG (pA (f_ zW (j_ 2 Er (b_ (a_ 4) (b_ (a_ 7) d_))) (dC (.bl KM)))) (pA (f_ zW (j_ 2 A8 (b_ (a_ 5) (b_ (a_ 7) d_))) (dC (.bl KM))))) (l_ (dC (.bl K7))) pU) (n_ (pS (qQ (qo (j_ 2 Bc (b_ (a_ 4) (b_ (j_ 2 CS (b_ (a_ 3) (b_ (a_ 6) d_))) d_))))) (l_ (dC (.bl K7))) pU) (n_ (pS (qQ (qo (j_ 2 Bc (b_ (a_ 4) (b_ (j_ 2 Ey (b_ (a_ 3) (b_ (a_ 7) d_))) d_))))) (l_ (dC (.bl K7))) pU) (n_ (Df (.two 8 9) (qS Pt 10 1 (El Pt) (b_ (a_ 4) d_))) (n_ (pS (pA (f_ (pC pT) (a_ 9) (Dr [115,117,109,115] [112,114,111,100,117,99,116,115] (a_ 6) (a_ 7) (a_ 8)))) (l_ (dC (.bl K7))) pU) (n_ (pS (pA (f_ (pC pT) (pB Ce (b_ (tL (b_ (pB qB (b_ (a_ 6) d_)) (b_ (j_ 1 tD (b_ (a_ 6) d_)) d_))) (b_ (tL (b_ (pB qB (b_ (a_ 7) d_)) (b_ (j_ 1 tD (b_ (a_ 7) d_)) d_))) d_))) (tL (b_ (pB qB (b_ (a_ 9) d_)) (b_ (j_ 1 tD (b_ (a_ 9) d_)) d_))))) (l_ (dC (.bl K7))) pU) (pS (tw (pA (f_ vP (dC .non) (a_ 4))) (pA (f_ (pC pT) (j_ 2 CH (b_ (a_ 3) (b_ (a_ 7) d_))) (j_ 1 Ai (b_ (a_ 4) d_))))) (l_ (dC (.bl K7))) pU)))))))))))))
def Ye(a:Fn n f)(c:D.non∉f):x_ n f:=⟨a,λd b=>by
 rcases a.ans d b with e|e|e
 ·exact .inl e
 ·exact .inr e
 ·exact absurd (e▸b) c⟩
def Pw(O:Ow)(i j:Int):pC pT O (.tup [.int i,.int j]) (.tup [.int i,.int j])=.ok (.bl K7) O:=DV O rfl
def zgG{Pt:Nat}{ns:List Int}{k:Nat}{O:Ow}(hO:At O){y2 y3 y4 y5 y6 y7 y8 y9:Option D}:
  ∃z2 z3 z4 z5 z6 z7 z8 z9 O',I9 Pt [KB (.lst (ns.map .int)),KB (.int (k:Int)),y2,y3,y4,y5,y6,y7,y8,y9,KB (.tab Pt)] O=.nx [KB (.lst (ns.map .int)),KB (.int (k:Int)),z2,z3,z4,z5,z6,z7,z8,z9,KB (.tab Pt)] O'/\At O':=by
 let A:Option D:=KB (.lst (ns.map .int));let B:Option D:=KB (.int (k:Int));let u:Option D:=KB (.tab Pt);obtain⟨s,b,s1,s2⟩:=zhl (ns:=ns) (k:=k) O;have I:At (O++[[.int s,.bl b]]):=hO.app s b;generalize hm:O.length=m at *;generalize Ui:O++[[D.int s,D.bl b]]=O1 at *;obtain⟨r,J,r1,r2,r3⟩:=DQ s2 (k:=4) 'u' 'u';have h1:1<=1+r:=by lia
 have h4:1+r<=4:=by lia
 have en:f_ rX (dC (.int 1)) (j_ 2 ux (b_ (a_ 2) (b_ (dC (.int 4)) d_))) [A,B,KB (.own m),y3,y4,y5,y6,y7,y8,y9,u] O1=.ok (.int ((1+r:Nat):Int)) (O1.set m [.int J,.bl b]):=(qL rfl (pP (qe rfl rfl) r2) D6).trans (by congr 2);generalize hn:1+r=n at *;have fl2:=I.set m J b;obtain⟨q,t2,q1,q2,q3⟩:=DQ r3 (k:=2) 'u' 'u';rw[j7] at q2 q3;have K:=I.set m t2 b;obtain⟨f,t3,d,f1,f2⟩:=zaw K.flat q3 h1 h4 ((q:Int)==1);rw[j7] at f1 f2;have E:=I.set m t3 b;generalize hO4:O1.set m [D.int t3,D.bl b]=c at *;have v:=E.pl;obtain⟨j,g,h⟩:=XJ d;have T1:=Ta h;have T2:=S_ h;have p1:=F6 T1 7;have p2:=F6 T2 7;have Mb:j_ 3 CN (b_ (a_ 2) (b_ (a_ 3) (b_ (f_ (pC rq) (j_ 2 ux (b_ (a_ 2) (b_ (dC (.int 2)) d_))) (dC (.int 1))) d_))) [A,B,KB (.own m),KB (.int (n:Nat)),y4,y5,y6,y7,y8,y9,u] (O1.set m [.int J,.bl b])=.ok (.tup f) c:=
  pP (GU rfl (qe rfl (qL (pP (qe rfl rfl) q2) rfl (Ux _ _ _)))) f1
 let S:Option D:=KB (.own m);let N:Option D:=KB (.int (n:Nat));let F:Option D:=KB (.tup f);let G:Option D:=KB (.tup (rh f));let w:Option D:=KB (.tup (j.map .str));let C:Option D:=KB (.tup (g.map .str));let W:Option D:=KB (.str (HE (wb j g)));let X:Option D:=KB (.tup ((if wb j g=KM then g else j).map .str));have L:=h.s.few;have BF:=h.p.few;have g1:∀t∈j,t∈YP n:=λt o=>xt (h.s.inn t o);have g2:∀t∈g,t∈YP n:=λt o=>xt (h.p.inn t o);have M:xu [.tup (rh f)] c=.ok (.tup f) c:=(CL (zY d) c).trans (by rw[JE d]);have LL:=N9 d.n1 d.n4 g1 'd' c h.s.srt;have LR:=zc0 d.n1 d.n4 g2 'd' c h.p.srt;have P:=Rh d (Ji d.n1 d.n4 j) (OW d h.s) c;have Q:=Rh d (zY (Ji d.n1 d.n4 g)) (zgO d h.p) c;have T:∀{l:List (List Nat)}{i:Nat}{σ:Sg},Tm l->l.length<=8->a_ i σ c=.ok (.tup (l.map .str)) c->tL (b_ (pB qB (b_ (a_ i) d_)) (b_ (j_ 1 tD (b_ (a_ i) d_)) d_)) σ c=.ok (.tup [.int (l.length:Nat),.int (rH l)]) c:=λ{l i σ}o hl e=>
  GF (qe (tF (pD e) ((Kc c _).trans (by rw[ax]))) (pP (pD e) (JP o 'd' c)))
 have u9:pA (f_ (pC pT) (pB Ce (b_ (tL (b_ (pB qB (b_ (a_ 6) d_)) (b_ (j_ 1 tD (b_ (a_ 6) d_)) d_))) (b_ (tL (b_ (pB qB (b_ (a_ 7) d_)) (b_ (j_ 1 tD (b_ (a_ 7) d_)) d_))) d_))) (tL (b_ (pB qB (b_ (a_ 9) d_)) (b_ (j_ 1 tD (b_ (a_ 9) d_)) d_)))) [A,B,S,N,F,G,w,C,W,X,u] c=.ok K7 c:=by
  refine qV (qL (tF (qe (T T1 L rfl) (T T2 BF rfl)) rfl) (T (l:=if wb j g=KM then g else j) (by split<;>assumption) (by split<;>assumption) rfl) ?_);show pC pT c (if wb j g=KM then _ else _) _=_;cases wb j g
  ·exact Pw _ _ _
  ·exact Pw _ _ _
 have Ml:pA (f_ (pC pT) (a_ 9) (Dr [115,117,109,115] [112,114,111,100,117,99,116,115] (a_ 6) (a_ 7) (a_ 8))) [A,B,S,N,F,G,w,C,W,X,u] c=.ok K7 c:=by
  refine qV (qL (y:=.tup ((if wb j g=KM then g else j).map .str)) (O2:=c) rfl ?_ (DV c (by split<;>assumption)));show(if HE (wb j g)=[115,117,109,115] then R.ok (D.tup (j.map .str)) c else if HE (wb j g)=[112,114,111,100,117,99,116,115] then R.ok (D.tup (g.map .str)) c else .bad)=_;cases wb j g<;>rfl
 have U:∃H,At H/\pS (tw (pA (f_ vP (dC .non) (a_ 4))) (pA (f_ (pC pT) (j_ 2 CH (b_ (a_ 3) (b_ (a_ 7) d_))) (j_ 1 Ai (b_ (a_ 4) d_))))) (l_ (dC (.bl K7))) pU [A,B,S,N,F,G,w,C,W,X,u] c=.nx [A,B,S,N,F,G,w,C,W,X,u] H:=by
  by_cases V:D.non∈f
  ·have e:=(Gi c (x:=.non) (y:=.tup f) (l:=f) rfl (Jc d) (.inr rfl) (b:=KM) (by simp[V])).2;refine⟨c,E,?_⟩;rw[tZ (b:=K7) (O1:=c) (CD (a:=K7) (b:=K7) (qV (qL rfl rfl e)) (λz=>by cases z))];rfl
  ·have e:=(Gi c (x:=.non) (y:=.tup f) (l:=f) rfl (Jc d) (.inr rfl) (b:=K7) (by simp[V])).2;have hF:=Ye d V;obtain⟨Y,hY,e1⟩:=z7F d.n1 d.n4 g2 h.p.srt 'd' E.flat;have eT:q0 n (rO n g)=gr n f:=by rw[zfy hF h.p.inn h.p.isf,Zd hF]
   rw[eT] at e1;have T9:=Su d (c++Y++[(gr n f).map .str]);rw[Ru d] at T9;have Z:At (c++Y++[(gr n f).map .str]):=by rw[a9];exact E.strs (hY.one _)
   refine⟨_,Z,?_⟩;rw[tZ (b:=K7) (O1:=c++Y++[(gr n f).map .str]) (Xm (qV (qL rfl rfl e)) (qV (qL (pP (qe rfl rfl) e1) (pP (pD rfl) T9) (WG CC (Jm d λt o=>o)))))];rfl
 obtain⟨H,Z,U⟩:=U;refine⟨S,N,F,G,w,C,W,X,H,?_,Z⟩;refine tx (pP (qe rfl rfl) s1) (tx en (tx Mb (tx (pP (pD rfl) (CL d c)) ?_)));refine A0 (X2 (qe (uW rfl (pD rfl) (h.e1 Pt c v)) (uW rfl (pD rfl) (JF h Pt v)))) ?_;refine vw (O1:=c) (Jx (qV (qL (pP (pD rfl) M) rfl (DV c (Jc d)))) (Jx (qV (qL (uW rfl (pD rfl) (h.e2 Pt c v)) rfl (DV c p2))) (qV (qL (uW rfl (pD rfl) (zgF h Pt v)) rfl (DV c p1))))) ?_;refine vw (O1:=c) (Jx (qV (qL (pP (qe rfl rfl) (z7G d h.p c)) rfl rfl)) (qV (qL (pP (qe rfl rfl) (Sa (zY d) h.p c)) rfl rfl))) ?_;refine vw (O1:=c) (uZ (b:=KM) (uY (pP (qe rfl (pP (qe rfl rfl) LL)) P))) ?_;refine vw (O1:=c) (uZ (b:=KM) (uY (pP (qe rfl (pP (qe rfl rfl) LR)) Q))) ?_;refine A0 (We (uW rfl (pD rfl) (Yc h Pt v))) ?_;exact vw (O1:=c) Ml (vw (O1:=c) u9 U)
def pure_law(Pt:Nat)(ns:List Int)(f:ns.length<=63):∃O,F_law Pt [.lst (ns.map .int)] []=.ok (.bl KM) O:=by
 let A:Option D:=KB (.lst (ns.map .int));let b:Option D:=KB (.tab Pt);obtain⟨m,g,h⟩:=zg5 f [A,KF,KF,KF,KF,KF,KF,KF,KF,KF,b] 4 'u' rfl;obtain⟨j,a,l,d,y2,y3,y4,y5,y6,y7,y8,y9,rfl,s⟩:=Jq (i:=1) (body:=I9 Pt) (D2 (pD h) g) (λ_ e a=>∃d y2 y3 y4 y5 y6 y7 y8 y9,e=[A,d,y2,y3,y4,y5,y6,y7,y8,y9,b]/\At a) (λ_ i e a _ n=>by
   obtain⟨d,y2,y3,y4,y5,y6,y7,y8,y9,rfl,o⟩:=n;obtain⟨t,u,v,w,x,y,z,B,C,p,q⟩:=zgG (Pt:=Pt) (ns:=ns) (k:=i) o (y2:=y2) (y3:=y3) (y4:=y4) (y5:=y5) (y6:=y6) (y7:=y7) (y8:=y8) (y9:=y9);exact⟨_,_,p,_,_,_,_,_,_,_,_,_,rfl,q⟩) ⟨KF,KF,KF,KF,KF,KF,KF,KF,KF,rfl,λc r=>by cases r⟩
 refine⟨a,?_⟩;show fin (n_ (vU (vp (b_ (pB AU (b_ (dC (.int 1)) (b_ (pB AN (b_ (pB qB (b_ (a_ 0) d_)) (b_ (dC (.int ((4:Nat):Int))) d_))) d_))) d_)) (.one 1) (I9 Pt)) (l_ (dC (.bl KM))) [A,KF,KF,KF,KF,KF,KF,KF,KF,KF,b] [])=_;rw[sE l];rfl
end K54
open PySem PySem.W PyProof.Rows
set_option maxRecDepth 100000 in
set_option maxHeartbeats 0 in
theorem PySem.Challenge.cw_leastterms_k54_whole_sums_and_products_holds : PySem.Challenge.rw_leastterms_k54_whole_sums_and_products.Holds := by
 w_on;refine mo K54.ws fun K9=>?_;refine PySem.W.holds_openX (q:=K54.Qv) (loose:=K54.Lv) (N:=5200) (Xt:=K54.Xv) (XP:=PySem.W.XL K54.Qv []) (Yf:=(fun s=>(PySem.W.Hook.obs K54.Hk s,decide (0<s.toks)))) (Ya:=(fun w=>(PySem.W.Hook.val K54.Hk w,true))) K54.lw (fun s e=>PySem.W.xl_of s (i0.mp e).1) PySem.W.XL.keeps (by rfl) (by rfl) (by rfl) (fun s e=>PySem.W.recFacts_of (i0.mp e).2) (by rfl) (by first|assumption|decide +kernel) (by decide +kernel) ⟨rfl,rfl,rfl,rfl,rfl,by decide +kernel⟩ ?hw ?hc;(case hw=>w_witness2)
 delta K54.Hk;k_fill
 refine DL.walkU (xd := "covers") (l:=PySem.Challenge.rw_leastterms_k54_whole_sums_and_products) (k:=20) (x := "_law_script") (F:=K54.F_law) rfl rfl ⟨rfl,by decide,by decide⟩ (PySem.W.Hook.of K54.Hk) (PySem.W.Hook.keeps K54.Hk) (fun w h Y=>PySem.W.km_in_of Y) ?R ?F K54.pure_law
 case R=>first|rfl|kernel_rfl
 case F=>
  intro w mg fa h KX G Fi
  refine' K54.all_mk KX G Fi ⟨'0','0','0','0','0','0','0','0','0','0','0','0','0','0','0','0','0','0','0','0','0','0','0','0','0','0','0','0','0','0','0','0','0','0','0','0','0','0','0','0','0','0','0','0','0','0','0','0','0','0','0','0','0',bM KX G ?_,bM KX G ?_,bM KX G ?_,bM KX G ?_,bM KX G ?_,bM KX G ?_,bM KX G ?_,bM KX G ?_,bM KX G ?_,bM KX G ?_,bM KX G ?_,bM KX G ?_,bM KX G ?_,bM KX G ?_,bM KX G ?_,bM KX G ?_,K54.gs_mk KX G ?_,K54.gt_mk KX G ?_ ?_ ?_ ?_,K54.gt_mk KX G ?_ ?_ ?_ ?_,K54.gi_mk KX G ?_⟩ ?Ha ?Hl ?_ ?_ ?Ha2 ?Hl2 ?_ ?_ ?Gh4 ?Gh5 ?_
  (case' Ha|Hl|Ha2|Hl2|Gh4=>k_is)
  (case Gh5=>rfl)
  all_goals first|k_is|kernel_rfl|rfl|skip
end
