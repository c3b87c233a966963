import PyProof.Rows.All
import Wide.All
import OpenK.AllK
import Wide.FinOn
import Lean
import PyProof.EqAt
import PyProof.EqKinds
import PyProof.TupleCall
import PySem.Challenge.RW_leastterms_k12_least_forms
noncomputable section
set_option compiler.extract_closed false
set_option Elab.async false
set_option linter.all false
set_option autoImplicit true
set_option relaxedAutoImplicit true
set_option maxRecDepth 100000
open PySem renaming wpAny_bind->aa,Value->ae,Addr->af,Shared->ag,wpAny_pure->ao,wpAny->ar,Str->au,model->av,starEach->aA,Program->aD,Heap->aL,Expr->aO,World->aR,Around->aU,bootBuiltins->bg,mem_of_lookup->bj,wpAny_field->bD,wpAny_holding->bI,Comprehension->bJ,mainGlobals->bP,Scope->bS,foldedSetIterable->bT,wpAny_mono->bZ,cellsFrom->b9,Paired->cj,compareOp->cm,wpAny_setField_rec->cC,wpAny_call_entry->cF,Stmt->cN,wpAny_callSpecial?_slot->cO,wpAny_truthy_bool->c8,rawInt->di,NameKind->dj,importedModules->dk,FuncData->dB,wpAny_seqItems->dH,wpAny_newObj_type->dL,wpAny_rule->dW,PyData->d6,binaryOp->d9,Arguments->eu,codeAny_mono->eC,wpAny_Call_Name_kw->eT,wpAny_passesOwn->eZ,wpAny_with_toks->e8,wpAny_standAt->fg,wpAny_pyIter_list->fo,IsPair->fq,Builtin->fx,Keyword->fy,wpAny_attempt->fE,wpAny_execs_nil->fG,wpAny_pyIter_tuple->fK,wpAny_letGo->fQ,wpAny_setField->f7,wpAny_tryCatch->ge,wpAny_execs_cons->gg,assignEach->gh,swapsWithSole->gn,swappedStores->gp,wpAny_newList->gu,OsState->gw,Model->gE,IsPart->gP,IsEnum->gW,wpAny_onRaise->iq,BindsTo->iE,Params->iG,wpAny_Name->iJ,wpAny_loadName_local->iK,wpAny_call->iM,pushCells_keeps->iS,wpAny_updateSeq_pair->iU,wpAny_updateSeq->iW,wpAny_loadName_cell->i4,wpAny_newTuple->i9,PassesOwn->ji,concat_meets->jj,wpAny_newFunctionEnv_cells->jr,plainId_quiet->jw,wpAny_assign_Name->jx,IsZip->jF,wpAny_eqBool_str->jI,noFill_tuple_add->jK,wpAny_getItem_of->jN,codeAny_of_tree->jY,codeAny_builtin->j5,sizeLine_eq->j9,wpAny_Call_method_late->ki,wpAny_isTrue_Compare1->kz,codeAny_call_function->kB,exec_Assign_Name_used->kG,intText?->kH,typeIs_str->kU,wpAny_newFunctionEnv->kZ,seq_tuple_add->lj,wpAny_loadName_free->lz,nums_intItems->lF,wpAny_typeOf->lO,pushCells->lS,seqIndex_of->mC,wpAny_of_eq->mD,GenState->mG
open Option renaming some->KF,none->KM
open Bool renaming true->qb,false->qj
abbrev qL:=@if_pos
abbrev q0:=@if_neg
open PyProof.Rows renaming arrOf->q7,pendingOf->q8
open PySem renaming sizeLine->q9
local macro_rules|`(⇑$e)=>`(by simpa using $e)
local macro_rules|`('1')=>`(by walk_at "s")
local macro_rules|`('2')=>`(by walk_at "e")
local macro_rules|`('3')=>`(by walk_at "le")
local macro_rules|`('4')=>`(by walk_at "u")
local macro_rules|`('5')=>`(by walk_at "z")
local macro_rules|`('6')=>`(by walk_at "a")
local macro_rules|`('7')=>`(by walk_at "t")
local macro_rules|`('8')=>`(by walk_at "ss")
set_option hygiene false in
local macro_rules|`('9')=>`(K12.fa_mk KX G ?_ ?_ ?_ ?_)
local macro_rules|`('o')=>`(by lia)
local macro_rules|`('d')=>`(by simp)
local macro_rules|`('s')=>`(by decide)
local macro_rules|`('k')=>`(by kernel_rfl)
open False renaming elim->ah
open PySem.W renaming Frag->ai,kitOne->aV,fnOf->bd,mg_none_of->bC,kla_fn->ci,boot_heap->cw,mg_of->cE,keepIn->cR,codeIn->cS,InstAt->cT,findIn->dG,exmOne->eR,cellsFrom_some->fP,tabIn->gr,nsIn->gU,specialIn->hJ,mroIn->ip,noTabs->jc,FnAt->jP,takesIn->jX,kia_one->jZ,kla_obj->j0,tabObj->kI,kla_codeExpr->k7,ofPys->ll,excIn->lr,callWith_K->lJ,codeRec_of->lL,OpenLaw->lP,ofPy->lQ,SharedT->ma,holds_law->me,kitx_none->ml,kitx_bool->mm,kitx_list->mn,kitx_dict->mo,plainGet->mI,instObj->mT,kitAny->m9,CodeHd->ng,tab_of->nw,clsIn->nF,isFn->nJ
open PySem.Heap renaming get?_push_of_some->aj,lt_size->aI,get?_push_size->aN,get?_update_other->bA,get?_update_self->bX,size_push->cD,SameBut->dP,size_update->fA,get?_none_of_le->iI,ExtBut->mE
open List renaming mem_cons_of_mem->ak,getElem?_eq_some_iff->al,mem_cons_self->am,mem_cons->aq,mem_append_right->aw,length_map->ax,mem_map->ay,length_append->aB,getElem?_eq_getElem->aC,getElem?_append_left->aG,all_eq_true->aH,replicate->aM,size_toArray->aP,mem_append->aS,getElem?_set_ne->aW,mem_of_getElem?->aX,getElem?_set_self->aZ,length_cons->a7,range->a9,getElem?_eq_none_iff->ba,pairwise_cons->bb,append_assoc->bh,length_filter_le->bo,nodup_cons->bq,getElem?_append_right->br,mem_filter->bw,map_cons->bz,getD_eq_getElem?_getD->bE,pairwise_append->bF,not_mem_nil->bG,map_map->bH,length_take->bK,append_nil->bL,mem_append_left->bN,getElem?_map->bO,mem_singleton->bV,drop_eq_getElem_cons->cb,length_drop->cg,mem_range->cq,length_set->cr,contains_iff_mem->cu,length_eq_zero_iff->cx,mem_of_mem_take->cA,take_append_drop->cJ,perm_append_comm->cK,take_sublist->cL,length_range->cM,filter_cons_of_neg->cP,filter_cons_of_pos->cQ,mem_of_mem_drop->cV,take_of_length_le->cY,drop_sublist->c9,map_inj_left->de,map_append->dq,drop_of_length_le->dI,mem_iff_getElem->dU,pairwise_singleton->d7,pairwise_map->ee,getElem_mem->el,any_eq_true->er,drop_drop->ez,find?_cons->eD,set_set->eH,drop_append_of_le_length->eI,getElem?_replicate->eJ,filter_cons->eM,lookup_cons->eQ,length_singleton->e9,pairwise_iff_getElem->fv,getElem?_take_of_lt->fz,getElem_map->fC,any_cons->fD,sum_cons->fF,length_nil->fJ,forIn_cons->fM,foldl_cons->fO,find?_cons_of_neg->fT,nodup_append->fU,flatMap_cons->fV,nodup_nil->f8,take_take->gc,lt_irrefl->gd,mem_reverse->gj,take_length->gk,filterMap_cons->gC,filter_sublist->gD,nil_append->gJ,mem_or_eq_of_mem_set->gL,mem_filterMap->gM,filter_append->g7,not_lt->ik,find?_cons_of_pos->im,lt_trans->iw,zipIdx_cons->iy,all_toArray->iA,mem_flatMap->iD,of_mem_zip->iO,filter_eq_self->i5,take_succ->jb,countP_eq_length_filter->jd,getElem?_take->jk,zip_cons_cons->jn,getElem?_take_eq_none->jv,flatten_cons->jA,foldl_append->jB,any_eq_false->jC,extract_eq_take_drop->jG,getElem_inj->jJ,map_nil->jL,cons_append->jO,le_antisymm->jR,length_erase_of_mem->jS,all_flatMap->jT,all_eq_not_any_not->jW,filter_nil->j7,length->kg,filterMap_toArray->kr,pairwise_lt_range->kw,length_replicate->kA,forIn_nil->kF,drop_zero->kM,cons_lt_cons_iff->kO,mem_erase_of_ne->lf,set_append_left->lg,length_take_le'->lh,all_cons->lu,getElem?_range->lB,map_congr_left->lC,getElem_of_mem->lE,filter_filter->l9,reverse_cons->mh,getElem_take->mw,getElem_drop->mx,reverse_perm->my,drop_length->mO,isEmpty_map->mP,map->mQ,zipIdx_nil->mV,length_zip->mX,drop_take->nj,drop_left->nk,take_left->nq,take_add->nG
open PyProof.Rows renaming wpS_bind->az,wpS_pure->aJ,KeyKind->aQ,envOfC->aT,Keyed->a8,SortSt->bR,slot_tuple_getitem->cy,wpS_forRange->cG,wpS_mono->dD,callWith_type1->eS,wpS_modify->fu,listItems_at->fB,AllBare->f6,wpS_get->gA,listUpdate_at->iu,KeysOf->i6,wpS_lift->ja,seqEpoch_at->jg,SortedToK->jm,KK_mirror_equal->j3,entry_list_sort->j4,subscriptTail_builtinR->kh,wpS_reverse->kn,IntsAre->kC,slot_list_sort->kP,args_list_sort->kQ,Call_->kR,StrsAre->kS,entry_tuple_getitem->lA,recsOf->lG,args_tuple_getitem->lN,plain_sorted->lW,entry_sorted->lX,args_sorted1->lY,kind_sorted->mF
open Nat renaming le_refl->aE,le_trans->aF,lt_of_lt_of_le->aY,ne_of_lt->bu,lt_irrefl->bU,zero_le->ck,succ_pos->cU,pow_le_pow_right->cX,ne_of_gt->dQ,zero_max->dS,add_sub_cancel_left->d8,le_succ->eB,lt_succ_self->eN,le_of_ble_eq_true->fe,min_eq_left->fN,le_add_right->gi,lt_of_le_of_lt->gR,le_of_eq->gY,lt_or_ge->gZ,add_assoc->ir,le_of_lt->iH,add_comm->iQ,zero_add->iY,lt_succ_of_lt->jz,le_antisymm->j6,testBit_lt_two_pow->ku,not_lt->kX,add_zero->lU,sub_self->lV,pow_succ->l7,one_le_two_pow->l8,min_le_right->mJ,one_ne_zero->mY,testBit_and->mZ
open Array renaming length_toList->aK,toList_append->bM,size_push->cf,perm_iff_toList_perm->dF,getElem?_eq_getElem->dN,getElem?_eq_some_iff->ef,getElem_toList->eG,size_append->fX,toList_push->fY,map->gf,getElem?_setIfInBounds_self->ij,toList_inj->iB,getElem?_toList->iF,toList_setIfInBounds->ju,size_setIfInBounds->jQ,size_map->kN,mk->kT,toList_extract->k8,toList_reverse->k9,append_assoc->lH,toList->lI,toList_map->mM,mapM->mW,size_zip->nu
open PySem.PyData renaming eqv->be,eqvAll->fk,list->fw,tuple->gT,canLay0->i7,depth->lT,canLayAll0->mj,depthAll->mU
open Bool renaming and_eq_true->bi,false_ne_true->cB,false_eq_true->dR,eq_iff_iff->eF,not_eq_true'->fW,or_eq_true->gH,and_eq_true_iff->i3,eq_false_iff->jy,and_false->kK,false_or->lp,and_true->lv,false_and->m7,and_comm->nH
open PySem.Obj renaming mapSeq->bt,data_mapFields->dr,isFreed_of_fields->dO,mapFields->fh,cls_mapFields->mq
open Ne renaming symm->bB
open PySem.Builtin.Str renaming occurrences->bQ
open Option.some renaming inj->cn
open PySem.Builtin.SmallTypes renaming nextOf->cz,ownedTupleIsFree->dZ,ownedTupleHandOut->eV
open PySem.Value renaming none->cH,type->cI,ref->cZ,builtin->gq,isInt->h9,bool->mS,int->ny,str->nB,isStrOf->nE
open PySem.NameKind renaming free->dg,cell->dE
open Sum renaming inr->dh,inl->gz
open PySem.F renaming plain_min_loop->dJ,slot_enumerate_next->fc,slot_tuple_iterator_next->fj,slot_dict_getitem->gG,args_tuple_add_2->gO,entry_tuple_add->g9,slot_tuple_add->ic,plainAttrs_str->ig,entry_min_loop->il,slot_zip_next->iV,args_tuple_iterator_next_1->i8,entry_tuple_iterator_next->jl,excBase_ValueError->jt,slot_dict_delitem->jD,plainAttrs_list->jU,args_enumerate_next_1->jV,entry_enumerate_next->km,slot_list_append->kE,slot_enumerate_iter->kJ,slot_list_extend->kL,attr_ValueError->mi,args_zip_next_1->ms,entry_zip_next->mL
open List.Pairwise renaming nil->dM,imp_of_mem->gX,imp->mz
open List.Perm renaming refl->d0,append_left->f9,cons_inv->jo,swap->nv
open True renaming intro->eE
open PySem.Heap.SameBut renaming update->eL
open And renaming intro->eU
open PySem.Builtin.Slice renaming slicePlaces->ft,sliceAdjust->gF
open PySem.Calls renaming spliced_cons->fH,call_function_entry->gK,spliced_nil->hU,evalArgs_plain->ie,Constant_str->jh,Name_function_global->jq,callWith_builtin->kl
open ForInStep renaming yield->fL
open PySem.Builtin.List renaming listItems->fR,listTooLong->gQ
open PyProof.Rows.KeyOrd renaming kle_of_klt->fZ,kle_trans->iz
open PySem.Str renaming ofString->gm
open Option renaming isSome_iff_exists->gN,map_eq_some_iff->hV,none->jf,isSome_some->lR,getD_none->mK,map->mR
open PySem.Builtin renaming bitAnd->g8,bitOr->io
open PySem.SeqAt renaming EqAt->iC,shaped->nK
open PySem.Around renaming frames_deeper->iP,under_plainId->iZ
open Array.Perm renaming refl->iX
open Sum.inr renaming inj->je
open PySem.Builtin.Builtins renaming bindParams->jp
open PySem.Builtin.Tuple renaming tupleItemsOf->js
open PySem.Builtin.ObjectAttr renaming bindTo->jE
open Classical renaming byContradiction->jH
open Prod renaming fst->jM,snd->kW,ext->mH
open PySem.PassesOwn renaming never->j8
open PySem.Walks renaming list->kY
open PyProof.Rows.SortSt renaming mk'->lc
open PySem.Paired renaming length->li
open PySem.Code renaming compLoop->lq,compStart->m8
open PySem.EntryCells renaming newEntry->lD
open Nat.succ renaming inj->lZ
open Int renaming toNat_natCast->mr
open List.Sublist renaming refl->mB
open PySem.W.WData renaming int->nD
open PySem.Flow renaming ret->nM
open PySem.CmpOp renaming Lt->nN
open PySem.W.OpenRow renaming toRowW->nO
open Prod.mk renaming inj->nQ
open PySem.SeqAt.EqAt renaming same->nR
open PySem.Heap.IsSliceOf renaming new->nU
namespace K12
open PySem PySem.W
noncomputable def ty(i:Nat):cN:=PySem.Challenge.pw_leastterms_k12_least_forms.main.body.getD i (.Pass ⟨0,0,0,0⟩)
def Qv:aD:={ PySem.Challenge.pw_leastterms_k12_least_forms with main:={ PySem.Challenge.pw_leastterms_k12_least_forms.main with body:=[ty 1,ty 2,ty 3,ty 4,ty 5,ty 6,ty 7,ty 8,ty 9,ty 10,ty 12,ty 13,ty 15,ty 16,ty 17,ty 18,ty 19,ty 20,ty 22,ty 23,ty 24,ty 25,ty 26,ty 27,ty 29,ty 30,ty 31,ty 32,ty 33,ty 34,ty 36,ty 37,ty 38,ty 39,ty 40,ty 41,ty 42,ty 43,ty 45,ty 46,ty 47,ty 48,ty 49,ty 50,ty 51,ty 52,ty 53,ty 54,ty 55,ty 56,ty 57,ty 58,ty 59,ty 60,ty 61] } }
def Lv:List au:=[gm "SWITCHES_BY_POINTS"]
def Xv:ag → Bool:=λs=>PySem.W.xlAt Qv [] s&&PySem.W.recOk (PySem.W.RowW.records (nO PySem.Challenge.rw_leastterms_k12_least_forms.row)) s
def bY{α β a:Type}{x:Option α}{f:α → β}{g:α → a}{b:β}{c:a}(d:x.map f=KF b)(e:x.map g=KF c):x.map (λs=>(f s,g s))=KF (b,c):=by
  cases x with
  |none=>cases d
  | some s=>
    have h:f s=b:=cn d;have i:g s=c:=cn e;show KF (f s,g s)=_;rw[h,i]
end K12
section
open PySem PySem.W PyProof.Rows
set_option maxRecDepth 100000 in
def K12.ws:PySem.Challenge.rw_leastterms_k12_least_forms.wellSaid=qb:=by kernel_rfl
local macro_rules|`(tactic| o_head $H)=>`(tactic| skip)
set_option maxRecDepth 100000 in
set_option maxHeartbeats 0 in
def K12.hp:False → PySem.Challenge.rw_leastterms_k12_least_forms.Holds:=by
  intro a
  w_on;refine me K12.ws λb=>?_;k_head
  all_goals exact a.elim
end

namespace DLT
open PySem PySem.W
noncomputable def oM(tb:String → Option fx)(p:aD)(w:aR)(m:Nat)(an:Option ae):Nat → ma → Thread → Option ma
  |0,_,_=>KM
  | k+1,a,th=>match through th with
    |true=>KF a
    | false=>match stepOk m an th with
      |false=>KM
      | true=>match stepT (denote tb) p w a th with
        |some (b,Uu)=>oM tb p w m an k b Uu
        |none=>KM
theorem oV{d:String → Option fx}{p:aD}{w:aR}{m:Nat}{e:Option ae}:∀{k:Nat}{a z:ma}{c:Thread},oM d p w m e k a c=KF z → topRun d p w m e k a.abs c=KF z.abs
  |0,_,_,_,H=>by cases H
  | k+1,a,z,c,H=>by
    unfold oM at H;unfold topRun;cases g:through c with
    |true=>rw[g] at H;cases H;rfl
    | false=>
      rw[g] at H;cases h:stepOk m e c with
      |false=>rw[h] at H;cases H
      | true=>
        rw[h] at H;cases f:stepT (denote d) p w a c with
        |none=>rw[f] at H;cases H
        |some q=>obtain⟨b,i⟩:=q;rw[f] at H;rw[stepT_spec f];exact oV H
def oW:Nat → BT → List Obj → BT
  |_,T,[]=>T
  |i,T,o::os=>oW (i+1) (T.ins i o) os
noncomputable def oN(P:iG):BT:=oW 0 .nil (cw P).objs.toList
def boot_abs:∀P:iG,absHeap (oN P) (cw P).objs.size (cw P).life=cw P:=λP=>by kernel_rfl
noncomputable def Il(P:iG)(os:gw):ma:=⟨oN P,(cw P).objs.size,(cw P).life,kT [],boot_drawn,boot_toks,os⟩
noncomputable def s0(P:iG)(os:gw):ag:=⟨cw P,kT [],boot_drawn,boot_toks,os⟩
def oZ(P:iG)(a:gw):(Il P a).abs=s0 P a:=by unfold Il s0 SharedT.abs;rw[boot_abs P]
def oU:∀P:iG,((cw P).isNs bP&&(kT []:Array mG).size==0,(cw P).objs.size,(cw P).nsMap bP "__annotations__")=(qb,11,KF (.ref 6)):=λP=>by kernel_rfl
def chk(p:aD)(h:aL)(s:ag):Bool:=staticsOk (dk p.main.body) h s.heap&&namesBound p s.heap&&gensDone s&&laidKept h s.heap
def oP{p:aD}{w:aR}{P:iG}{b:gw}{N:Nat}{α:Type}{f:ag → α}{a:α}(h:(oM treeTable p w 11 (KF (.ref 6)) N (Il P b) (topStub p)).map (λs=>(chk p (cw P) s.abs,f s.abs))=KF (qb,a)):(topFrom treeTable p w N (s0 P b)).map f=KF a:=by
  obtain⟨s,e,d⟩:=hV.mp h;have r:=oV e;rw[oZ] at r;obtain⟨g,i,j⟩:_ ∧ _ ∧ _:=by simpa only[Prod.mk.injEq] using oU P
  obtain⟨k,l⟩:=nQ d;unfold topFrom;show mR f (match (cw P).isNs bP&&(kT []:Array mG).size==0 with
    | true=>(topRun treeTable p w (cw P).objs.size ((cw P).nsMap bP "__annotations__") N (s0 P b) (topStub p)).bind λc=>match chk p (cw P) c with
      |true=>KF c
      |false=>KM
    |false=>KM)=KF a
  rw[g,i,j,r];show mR f (match chk p (cw P) s.abs with
      |true=>KF s.abs
      |false=>KM)=KF a
  rw[k];exact congrArg KF l
def o3{α β a e:Type}{x:Option α}{f:α → β×a}{g:α → e}{b:β}{c:a}{d:e}(h:x.map (λs=>((f s).1,g s))=KF (b,d))(i:x.map (λs=>(f s).2)=KF c):x.map (λs=>(f s,g s))=KF ((b,c),d):=by
  cases x with
  |none=>cases h
  | some s=>
    obtain⟨j,k⟩:=nQ (cn h);have l:(f s).2=c:=cn i;exact congrArg KF (mH (mH j l) k)
noncomputable abbrev R(p:aD)(N:Nat)(w:aR)(P:iG)(os:gw):Option ma:=oM treeTable p w 11 (KF (.ref 6)) N (Il P os) (topStub p)
def left_of{p q:aD}{loose:List au}{Xt:ag → Bool}{α:Type}{Yf:ag → α}{Ya:aR → α}{N:Nat}{b:Bool}(a:String)(e:opening p=plainProg p.main.scope.names)(i:Nat.ble 600 N=qb)(j:∀s,fenceModules? p s=KF s)
    (l:∀(v:Bool)(w:aR)(c:gw),(R p N (w.withFollow a v) w.params c).map (λs=>(chk p (cw w.params) s.abs,((openSeen q loose (dk p.main.body) Xt b s.abs).1,Yf s.abs)))=KF (qb,(openGood q loose).1,Ya (w.withFollow a v)))
    (m:∀(v:Bool)(w:aR)(c:gw),(R p N (w.withFollow a v) w.params c).map (λs=>(chk p (cw w.params) s.abs,(openSeen q loose (dk p.main.body) Xt b s.abs).2))=KF (qb,(openGood q loose).2)):
    LeftO p q loose Xt Yf Ya N b:=LeftO.of_split a λw=>by
  obtain⟨⟨h,n,d,k,c⟩,x,y⟩:=hV.mp (boot_open e i j w);obtain⟨rfl,rfl,rfl,rfl⟩:h=cw w.params ∧ n=kT [] ∧ d=boot_drawn ∧ k=boot_toks:=⇑y
  rw[x];have go (v:Bool):(topFrom treeTable p (w.withFollow a v) N (s0 w.params c)).map (λs=>(openSeen q loose (dk p.main.body) Xt b s,Yf s))=KF (openGood q loose,Ya (w.withFollow a v)):=
    o3 (f:=λs=>openSeen q loose (dk p.main.body) Xt b s) (g:=Yf) (oP (f:=λs=>((openSeen q loose (dk p.main.body) Xt b s).1,Yf s)) (l v w c)) (oP (f:=λs=>(openSeen q loose (dk p.main.body) Xt b s).2) (m v w c))
  exact congrArg KF (mH (go qj) (go qb))
end DLT

namespace K12
open PySem PySem.W
abbrev As:List af:=[2,3,15,22,23,24,25,28,35,36,37,40,47,48,49,52,59,60,61,64,71,72,73,76,83,84,85,88,95,96,97,100,107,108,109,112,119,120,121,124,131,132,133,136,138,139,141,142,143,145,146,148,149,150,151,153,154,156,157,158,161,162,163,165,166,168,169,170,172,173,175,176,177,180,181,182,185,186,187,189,190,192,193,194,197,198,199,201,202,204,205,206,208,209,211,212,213,216,217,218,221,222,223,226,227,228,230,231,233,234,235,238,239,240,243,244,245,248,249,250,253,254,255,258,259,260,263,264,265,268,269,270,272,273,275,276,277,279,280,282,283,284,286,287,289,290,291,293,294,296,297,298,300,301,303,304,305,307,308,310,311,312,315,316,317,319,320,322,323,324,327,328,329,332,333,334,337,338,339,342,343,344,346,347,349,350,351,354,355,356,359,360,361,364,365,366,369,370,371,374,375,376,379,380,381,383,384,386,387]
noncomputable def Hk:PySem.W.Hook:=PySem.W.kmHook K12.hp.heap_1 K12.As (λ_=>by kernel_rfl) [256,382]
abbrev Pg:aD:=PySem.Challenge.rw_leastterms_k12_least_forms.row.prog
set_option maxRecDepth 100000 in
def la1:∀(w:aR)(a:gw),(DLT.R Pg 6986 (w.withFollow "special-get-raises" qj) w.params a).map (λs=>(DLT.chk Pg (cw w.params) s.abs,((openSeen Qv Lv (dk Pg.main.body) Xv qb s.abs).1,(Hk.obs s.abs,decide (0<s.abs.toks)))))=KF (qb,((openGood Qv Lv).1,(Hk.val (w.withFollow "special-get-raises" qj),qb))):=λw a=>by kernel_rfl
set_option maxRecDepth 100000 in
def Iv:∀(w:aR)(a:gw),(DLT.R Pg 6986 (w.withFollow "special-get-raises" qj) w.params a).map (λs=>(DLT.chk Pg (cw w.params) s.abs,(openSeen Qv Lv (dk Pg.main.body) Xv qb s.abs).2))=KF (qb,(openGood Qv Lv).2):=λw a=>by kernel_rfl
set_option maxRecDepth 100000 in
def lb1:∀(w:aR)(a:gw),(DLT.R Pg 6986 (w.withFollow "special-get-raises" qb) w.params a).map (λs=>(DLT.chk Pg (cw w.params) s.abs,((openSeen Qv Lv (dk Pg.main.body) Xv qb s.abs).1,(Hk.obs s.abs,decide (0<s.abs.toks)))))=KF (qb,((openGood Qv Lv).1,(Hk.val (w.withFollow "special-get-raises" qb),qb))):=λw a=>by kernel_rfl
set_option maxRecDepth 100000 in
def lb2:∀(w:aR)(a:gw),(DLT.R Pg 6986 (w.withFollow "special-get-raises" qb) w.params a).map (λs=>(DLT.chk Pg (cw w.params) s.abs,(openSeen Qv Lv (dk Pg.main.body) Xv qb s.abs).2))=KF (qb,(openGood Qv Lv).2):=λw a=>by kernel_rfl
def lw:PySem.W.LeftO Pg Qv Lv Xv (λs=>(Hk.obs s,decide (0<s.toks))) (λw=>(Hk.val w,qb)) 6986:=DLT.left_of "special-get-raises" rfl rfl (λ_=>rfl) (λv=>match v with|false=>la1|true=>lb1) (λv=>match v with|false=>Iv|true=>lb2)
end K12

abbrev l_:=List Nat
abbrev j_:=List l_
-- Nw: your UA module here, as yO last of Ut rows
namespace L2
open PySem PySem.Spec PyProof.Rows
abbrev Key:=Sum Int au
def Cw:Key->ae->Bool
 |.inl k,v=>h9 k v
 |.inr x,v=>nE x v
noncomputable def VZ(w:aR):Key->Int
 |.inl k=>hashInt k
 |.inr x=>hashStr w x
def yL:∀{k:Key}{v:ae},Cw k v=qb->(∃i t,k=gz i/\v=ny i t)\/(∃x t,k=dh x/\v=nB x t)
 | .inl i,v,h=>by
  obtain⟨t,e⟩:=Value.isInt_shape h;exact .inl ⟨i,t,rfl,e⟩
 | .inr x,v,h=>by
  obtain⟨t,e⟩:=Value.isStrOf_shape h;exact .inr ⟨x,t,rfl,e⟩
def zba(i:Int)(t:Tok):Cw (.inl i) (.int i t)=qb:=by simp[Cw,h9]
def zcn(x:au)(t:Tok):Cw (.inr x) (.str x t)=qb:=by simp[Cw,nE]
def WS(a b:Int):decide ((gz a:Key)=gz b)=(a==b):=by
 by_cases e:a=b
 ·subst e;simp
 ·have h:¬ (gz a:Key)=gz b:=λq=>e (Sum.inl.inj q);rw[decide_eq_false h];exact(beq_eq_false_iff_ne.mpr e).symm
def Yb(a b:au):decide ((dh a:Key)=dh b)=decide (a=b):=by
 by_cases e:a=b
 ·subst e;simp
 ·have h:¬ (dh a:Key)=dh b:=λq=>e (je q);rw[decide_eq_false h,decide_eq_false e]
def Xz(a:Int)(b:au):decide ((gz a:Key)=dh b)=qj:=decide_eq_false (λq=>nomatch q)
def WZ(a:au)(b:Int):decide ((dh a:Key)=gz b)=qj:=decide_eq_false (λq=>nomatch q)
def uk(prog:aD)(w:aR):PySem.KeyKind prog w Key where
 is:=Cw
 hash:=VZ w
 inj:=λv a b ha hb=>by
  rcases yL ha with⟨i,t,rfl,rfl⟩|⟨x,t,rfl,rfl⟩
  ·rcases yL hb with⟨j,u,rfl,e⟩|⟨y,u,rfl,e⟩
   ·injection e with e1 _;rw[e1]
   ·exact nomatch e
  ·rcases yL hb with⟨j,u,rfl,e⟩|⟨y,u,rfl,e⟩
   ·exact nomatch e
   ·injection e with e1 _;rw[e1]
 byValue:=λk v h=>by
  rcases yL h with⟨i,t,rfl,rfl⟩|⟨x,t,rfl,rfl⟩<;>rfl
 pyHash:=λhv h=>by
  rcases yL hv with⟨i,t,rfl,rfl⟩|⟨x,t,rfl,rfl⟩
  ·exact wpAny_pyHash_int h
  ·exact wpAny_pyHash_str h
 eqBool:=λhu hv h=>by
  rcases yL hu with⟨i,t,rfl,rfl⟩|⟨x,t,rfl,rfl⟩
  ·rcases yL hv with⟨j,u,rfl,rfl⟩|⟨y,u,rfl,rfl⟩
   ·rw[WS] at h;exact wpAny_eqBool_int h
   ·rw[Xz] at h;exact SeqAt.EqAt.int_str i t y u _ _ _ _ h
  ·rcases yL hv with⟨j,u,rfl,rfl⟩|⟨y,u,rfl,rfl⟩
   ·rw[WZ] at h;exact SeqAt.EqAt.str_int x t j u _ _ _ _ h
   ·rw[Yb] at h;exact jI h
 «strs»:=λk x t v h=>by
  rcases yL h with⟨i,u,rfl,e⟩|⟨y,u,rfl,e⟩
  ·exact nomatch e
  ·injection e with e1 _;subst e1;cases v<;>rfl
def z7T(prog:aD)(w:aR)(i:Int)(t:Tok):(uk prog w).is (.inl i) (.int i t)=qb:=zba i t
def z8g(prog:aD)(w:aR)(x:au)(t:Tok):(uk prog w).is (.inr x) (.str x t)=qb:=zcn x t
inductive V where
 |non|bl (b:Bool)|int (i:Int)|str (x:au)|byt (b:Array UInt8)|flt (b:UInt64)|ref (a:af)|ty (n:String)
 deriving DecidableEq
def RelV:V->ae->Prop
 |.non,u=>u=cH
 |.bl b,u=>u=mS b
 |.int i,u=>∃t,u=ny i t
 |.str x,u=>∃t,u=nB x t
 |.byt b,u=>∃t,u=Value.bytes b t
 |.flt b,u=>∃t,u=Value.float b t
 |.ref a,u=>u=cZ a
 |.ty n,u=>u=cI n
abbrev nY:List V->List ae->Prop:=cj RelV
def nY.length{xs:List V}{a:List ae}(r:nY xs a):xs.length=a.length:=li r
theorem nY.get:∀{xs:List V}{a:List ae}{i:Nat}{x:V},nY xs a->xs[i]?=KF x->∃u,a[i]?=KF u/\RelV x u
 |_,_,_,_,.nil,e=>by simp at e
 |_,_,0,_,.cons r _,e=>by simp at e;subst e;exact⟨_,rfl,r⟩
 | _,_,i+1,x,.cons _ t,e=>by
  obtain⟨u,b,c⟩:=nY.get t ⇑e;exact⟨u,by simpa using b,c⟩
theorem nY.set{x:V}{u:ae}(r:RelV x u):∀{xs:List V}{a:List ae}(i:Nat),nY xs a->nY (xs.set i x) (a.set i u)
 |_,_,_,.nil=>.nil
 |_,_,0,.cons _ t=>.cons r t
 |_,_,i+1,.cons q t=>.cons q (nY.set r i t)
theorem nY.append:∀{xs a:List V}{b c:List ae},nY xs b->nY a c->nY (xs++a) (b++c)
 |_,_,_,_,.nil,s=>s
 |_,_,_,_,.cons r t,s=>.cons r (nY.append t s)
theorem nY.take:∀{xs:List V}{a:List ae}(n:Nat),nY xs a->nY (xs.take n) (a.take n)
 |_,_,0,_=>.nil
 |_,_,_+1,.nil=>.nil
 |_,_,n+1,.cons r t=>.cons r (nY.take n t)
theorem nY.drop:∀{xs:List V}{a:List ae}(n:Nat),nY xs a->nY (xs.drop n) (a.drop n)
 |_,_,0,r=>r
 |_,_,_+1,.nil=>.nil
 |_,_,n+1,.cons _ t=>nY.drop n t
def oA:Option V->Option ae->Prop
 |some v,KF u=>RelV v u
 |none,KM=>True
 |_,_=>False
def KV{κ:Type}:List (κ×V)->List (κ×ae)->Prop:=cj λ(p:κ×V)(q:κ×ae)=>p.1=q.1/\RelV p.2 q.2
def kV:Key->V
 |.inl i=>.int i
 |.inr x=>.str x
inductive HO where
 |lst (xs:List V)
 |tup (xs:List V)
 |dK (i_:List (Key×V))|dT (i_:List (List Key×V))
 |set (S:Int->Bool) (n:Nat)
 |ins (C dx:af) (fs:List (au×V))
 |own (x:af)
 |xd (fs:List (au×V))
 |met (f x:af)
 |rng (lo hi:Int)
 |frz (o:Obj) (u:HO)
 |tbl (ps:Array ae)
 |ext (φ:aL->Prop)
abbrev Hp:=af->Option HO
noncomputable def upd(H:Hp)(a:af)(o:HO):Hp:=λb=>if b=a then KF o else H b
def qS{H:Hp}{a:af}{o:HO}:upd H a o a=KF o:=by unfold upd;rw[qL rfl]
def pj{H:Hp}{a b:af}{o:HO}(h:b≠a):upd H a o b=H b:=by unfold upd;rw[q0 h]
def Y9:upd (upd H a o) a u=upd H a u:=by funext b;unfold upd;split<;>rfl
def Wn{H:Hp}{a b:af}{o u:HO}(h:H a=KF o)(h':H b=KF u)(d:o≠u):a≠b:=by intro e;subst e;rw[h] at h';exact d (cn h')
def rD{H:Hp}{a b:af}{o:HO}(h:H a=KF o)(h':H b=KM):a≠b:=by intro e;subst e;rw[h] at h';cases h'
def oy(h:aL)(a:af)(items:Array ae):Prop:=∃o,h.get? a=KF o/\o.cls=.type "tuple"/\(∃n,o.data=.seq items n)/\o.dict=KM
def oy.tup{h:aL}{a:af}{b:Array ae}(x:oy h a b):IsTup h a b:=let ⟨o,e,c,d,_⟩:=x;⟨o,e,c,d⟩
def oy.new(h:aL)(a:Array ae):oy (h.push { cls:=.type "tuple",data:=.seq a }) h.objs.size a:=⟨_,aN _ rfl,rfl,⟨_,rfl⟩,rfl⟩
section
variable(P:aD)(w:aR)
def on(H:Hp)(h:aL)(a:af):HO->Prop
 |.lst xs=>xs.length<=q9/\∃(d_:List ae)(n:Nat),nY xs d_/\h.get? a=KF { cls:=.type "list",data:=.seq d_.toArray n }
 |.tup xs=>xs.length<=q9/\∃d_:List ae,nY xs d_/\oy h a d_.toArray
 |.dK i_=>i_.length<=q9/\(a==sysModules)=qj/\∃vs,KV i_ vs/\h.DictOf (uk P w) a vs
 | .dT i_=>i_.length<=q9/\(a==sysModules)=qj/\∃xs:List (List Key×af×ae),
   cj (λ(p:List Key×V)(q:List Key×af×ae)=>p.1=q.1/\H q.2.1=KF (.tup (p.1.map kV))/\RelV p.2 q.2.2) i_ xs/\
   ∃o es ep,h.get? a=KF o/\o.ExactDict/\o.data=.dict es ep/\es.toList=xs.map (entryOfKey (tupleKind (uk P w)))/\(xs.map (·.1)).Nodup
 |.set S n=>h.SetOf (intKind P w) a S n
 | .ins C dx fs=>H dx=KF (.own a)/\fs.length<=1000/\dx≠a/\h.get? a=KF (mT C dx)/\
   ∃mA,h.Ns1 dx mA/\(∀f,oA (fs.lookup f) (mA f))/\PySem.Within mA (fs.map (·.1))
 |.own _=>∃o,h.get? a=KF o
 |.xd fs=>∃mA,h.Ns1 a mA/\∀f,oA (fs.lookup f) (mA f)
 |.rng lo hi=>∃t u v,h.get? a=KF { cls:=.type "range",data:=.fields #[.int lo t,.int hi u,.int 1 v] }
 |.frz o u=>h.get? a=KF o/\on H h a u
 |.tbl ps=>h.get? a=KF { cls:=.none,data:=.fields ps }
 |.met f x=>h.get? a=KF (PySem.W.methodObj (.ref f) (.ref x))
 |.ext φ=>φ h/\(∃o,h.get? a=KF o)/\∀h1 h2:aL,φ h1->(∀o,h1.get? a=KF o->h2.get? a=KF o)->φ h2
def HOk(H:Hp)(h:aL):Prop:=∀a o,H a=KF o->on P w H h a o
end
section
variable{P:aD}{w:aR}{H H':Hp}{h h':aL}{a:af}{o:HO}
def on.lt(x:on P w H h a o):a<h.objs.size:=by
 cases o with
 |lst xs=>obtain⟨_,_,_,_,e⟩:=x;exact aI e
 |tup xs=>obtain⟨_,_,_,p⟩:=x;exact(oy.tup p).lt
 |dK i_=>obtain⟨_,_,_,_,o,_,_,e,_⟩:=x;exact aI e
 |dT i_=>obtain⟨_,_,_,_,o,_,_,e,_⟩:=x;exact aI e
 |set S n=>obtain⟨o,_,_,_,e,_⟩:=x;exact aI e
 |ins C dx fs=>obtain⟨_,_,_,e,_⟩:=x;exact aI e
 |own y=>obtain⟨_,e⟩:=x;exact aI e
 |xd fs=>obtain⟨_,⟨_,_,_,e,_⟩,_⟩:=x;exact aI e
 |rng lo hi=>obtain⟨_,_,_,e⟩:=x;exact aI e
 |frz ob u=>obtain⟨e,_⟩:=x;exact aI e
 |tbl ps=>exact aI (x)
 |met f y=>exact aI (x)
 |ext φ=>obtain⟨_,⟨_,e⟩,_⟩:=x;exact aI e
theorem Paired.mapP{α β:Type}{F G:α->β->Prop}:∀{c:List α}{d:List β},cj F c d->(∀a b,F a b->G a b)->cj G c d
 |_,_,.nil,_=>.nil
 |_,_,.cons r t,f=>.cons (f _ _ r) (Paired.mapP t f)
def on.stay(x:on P w H h a o)(k:∀b u,(b=a\/H b=KF (.own a))->h.get? b=KF u->h'.get? b=KF u)
  (B:∀b,H b=KF (.own a)->H' b=KF (.own a)) (D:∀b xs,H b=KF (.tup xs)->H' b=KF (.tup xs)):on P w H' h' a o:=by
 induction o with
 |lst xs=>obtain⟨z,l,n,r,e⟩:=x;exact⟨z,l,n,r,k _ _ (.inl rfl) e⟩
 |tup xs=>obtain⟨z,l,r,g,e,c⟩:=x;exact⟨z,l,r,g,k _ _ (.inl rfl) e,c⟩
 |dK i_=>obtain⟨z,y,E,r,g,i,j,e,c⟩:=x;exact⟨z,y,E,r,g,i,j,k _ _ (.inl rfl) e,c⟩
 | dT i_=>
  obtain⟨z,y,xs,r,g,i,j,e,c⟩:=x;exact⟨z,y,xs,Paired.mapP r λp q z=>⟨z.1,D _ _ z.2.1,z.2.2⟩,g,i,j,k _ _ (.inl rfl) e,c⟩
 |set S n=>obtain⟨g,i,j,t,e,c⟩:=x;exact⟨g,i,j,t,k _ _ (.inl rfl) e,c⟩
 | ins C dx fs=>
  obtain⟨d,z,F,e,m,⟨s,i,j,G,c⟩,r⟩:=x;exact⟨B _ d,z,F,k _ _ (.inl rfl) e,m,⟨s,i,j,k _ _ (.inr d) G,c⟩,r⟩
 |own y=>obtain⟨g,e⟩:=x;exact⟨g,k _ _ (.inl rfl) e⟩
 |xd fs=>obtain⟨m,⟨s,i,j,e,c⟩,r⟩:=x;exact⟨m,⟨s,i,j,k _ _ (.inl rfl) e,c⟩,r⟩
 |rng lo hi=>obtain⟨t,u,v,e⟩:=x;exact⟨t,u,v,k _ _ (.inl rfl) e⟩
 |frz g u ih=>obtain⟨e,q⟩:=x;exact⟨k _ _ (.inl rfl) e,ih q⟩
 | tbl ps=>
  have e:=x;exact k a _ (.inl rfl) e
 | met f y=>
  have e:=x;exact k a _ (.inl rfl) e
 |ext φ=>obtain⟨p,⟨o,e⟩,A⟩:=x;exact⟨A _ _ p λo q=>k _ _ (.inl rfl) q,⟨o,k _ _ (.inl rfl) e⟩,A⟩
def HOk.lt(x:HOk P w H h)(e:H a=KF o):a<h.objs.size:=(x a o e).lt
def HOk.fresh(x:HOk P w H h)(e:h.objs.size<=a):H a=KM:=by
 cases q:H a with
 |none=>rfl
 |some u=>exact absurd (aY (x.lt q) e) (bU _)
def HOk.kept(x:HOk P w H h)(k:∀b u,h.get? b=KF u->h'.get? b=KF u):HOk P w H h':=λa o e=>
 (x a o e).stay (λb u _ q=>k b u q) (λ_ q=>q) λ_ _ q=>q
def HOk.laid(x:HOk P w H h)(k:∀b u,h.get? b=KF u->h'.get? b=KF u)(i:h.objs.size<=a)(d:on P w (upd H a o) h' a o):HOk P w (upd H a o) h':=λb u e=>by
 have f:=x.fresh i;by_cases g:b=a
 ·subst g;rw[qS] at e;cases e;exact d
 ·rw[pj g] at e;exact(x b u e).stay (λc v _ q=>k c v q) (λc q=>by rw[pj (rD q f)];exact q) λc j q=>by rw[pj (rD q f)];exact q
end
def Rd(H:Hp)(a:af)(u:HO):Prop:=H a=KF u \/ ∃o,H a=KF (.frz o u)
def Rd.of(h:H a=KF u):Rd H a u:=.inl h
def Rd.ok(r:Rd H a u)(x:HOk P w H h):on P w H h a u:=by
 rcases r with r|⟨o,r⟩
 ·exact x a u r
 ·obtain⟨_,q⟩:=x a _ r;exact q
def F_:Option HO->Prop
 |some (.lst _)=>True
 |some (.dK _)=>True
 |some (.dT _)=>True
 |some (.set _ _)=>True
 |some (.ins _ _ _)=>True
 |some (.ext _)=>True
 |_=>False
section
variable{P:aD}{w:aR}{H:Hp}{h h':aL}{x e:af}{o':HO}
def HOk.write(ok:HOk P w H h)(a:F_ (H x))(j:e=x\/H e=KF (.own x))(k:∀b u,b≠e->h.get? b=KF u->h'.get? b=KF u)(n:∃u,h'.get? e=KF u)
  (i:on P w (upd H x o') h' x o'):HOk P w (upd H x o') h':=λb u q=>by
 have l:∀c y,H c=KF (.own y)->c≠x:=λc y r z=>by subst z;rw[r] at a;exact a
 have o:∀c d,H c=KF (.tup d)->c≠x:=λc d r z=>by subst z;rw[r] at a;exact a
 by_cases f:b=x
 ·subst f;rw[qS] at q;cases q;exact i
 ·rw[pj f] at q;by_cases g:b=e
  ·have m:H b=KF (.own x):=by
    rcases j with z|z
    ·exact absurd (g.trans z) f
    ·rw[g];exact z
   rw[q] at m;cases m;obtain⟨v,p⟩:=n;exact⟨v,by rw[g];exact p⟩
  ·refine(ok b u q).stay (λc v hc r=>k c v ?_ r) (λc r=>by rw[pj (l c b r)];exact r) λc d r=>by rw[pj (o c d r)];exact r
   rcases hc with rfl|hc
   ·exact g
   ·rintro rfl;rcases j with z|z
    ·exact l c b hc z
    ·rw[hc] at z;cases z;exact f rfl
end
structure Un(fs ex:List af)(H H':Hp)(h h':aL):Prop where
 keep:∀b o,h.get? b=KF o->H b=KM->b∉fs->b∉ex->h'.get? b=KF o
 slot:∀b o,h.get? b=KF o->H b=KM->b∈fs->b∉ex->∃sl,h'.get? b=KF { o with slots:=sl }
 free:∀b o,h.get? b=KF o->H b=KM->b∉ex->H' b=KM
 there:∀b o,h.get? b=KF o->b∉ex->∃o',h'.get? b=KF o'
 tups:∀b xs,H b=KF (.tup xs)->H' b=KF (.tup xs)
 frzs:∀b o u,H b=KF (.frz o u)->H' b=KF (.frz o u)
 tbls:∀b ps,H b=KF (.tbl ps)->∃more,H' b=KF (.tbl (ps++more))
section
variable{fs Vo ex Vu:List af}{H H1 H2:Hp}{h h1 h2 h':aL}{a x e:af}{o:HO}
def Un.any(u:Un fs ex H H1 h h1){b:af}{c:Obj}(q:h.get? b=KF c)(n:H b=KM)(d:b∉ex):∃sl,h1.get? b=KF { c with slots:=sl }:=by
 by_cases f:b∈fs
 ·exact u.slot b c q n f d
 ·exact⟨c.slots,u.keep b c q n f d⟩
def Un.trans(a:Un fs ex H H1 h h1)(b:Un fs ex H1 H2 h1 h2):Un fs ex H H2 h h2 where
 keep:=λc d q n i f=>b.keep c d (a.keep c d q n i f) (a.free c d q n f) i f
 slot:=λc d q n i f=>by
  obtain⟨t,g⟩:=a.slot c d q n i f;obtain⟨m,k⟩:=b.slot c _ g (a.free c d q n f) i f;exact⟨m,k⟩
 free:=λc d q n f=>by
  obtain⟨l,g⟩:=a.there c d q f;exact b.free c l g (a.free c d q n f) f
 there:=λc d q f=>by
  obtain⟨l,g⟩:=a.there c d q f;exact b.there c l g f
 tups:=λc j q=>b.tups c j (a.tups c j q)
 frzs:=λc d j q=>b.frzs c d j (a.frzs c d j q)
 tbls:=λc p q=>by
  obtain⟨r,g⟩:=a.tbls c p q;obtain⟨s,k⟩:=b.tbls c _ g;exact⟨r++s,by rw[k,lH]⟩
def Un.kept(k:∀b u,h.get? b=KF u->h'.get? b=KF u):Un fs ex H H h h':=
 ⟨λb c q _ _ _=>k b c q,λb c q _ _ _=>⟨c.slots,k b c q⟩,λ_ _ _ n _=>n,λb c q _=>⟨c,k b c q⟩,λ_ _ q=>q,λ_ _ _ q=>q,λ_ d q=>⟨#[],by rw[q];simp⟩⟩
def Un.refl:Un fs ex H H h h:=Un.kept λ_ _ q=>q
def Un.laid(k:∀b u,h.get? b=KF u->h'.get? b=KF u)(d:h.objs.size<=a)(c:H a=KM):Un fs ex H (upd H a o) h h' where
 keep:=λb u q _ _ _=>k b u q
 slot:=λb u q _ _ _=>⟨u.slots,k b u q⟩
 free:=λb u q n _=>by rw[pj (bu (aY (aI q) d))];exact n
 there:=λb u q _=>⟨u,k b u q⟩
 tups:=λb f q=>by rw[pj (rD q c)];exact q
 frzs:=λb u f q=>by rw[pj (rD q c)];exact q
 tbls:=λb g q=>⟨#[],by rw[pj (rD q c),q];simp⟩
def Un.write(c:F_ (H x))(j:e=x\/H e=KF (.own x))(k:∀b u,b≠e->h.get? b=KF u->h'.get? b=KF u)(l:∃u,h'.get? e=KF u):Un fs ex H (upd H x o) h h':=by
 have f:∀b,H b=KM->b≠x:=λb n z=>by subst z;rw[n] at c;exact c
 have g:∀b,H b=KM->b≠e:=λb n z=>by
  subst z;rcases j with r|r
  ·exact f b n r
  ·rw[n] at r;cases r
 have d:∀b u,H b=KF u->¬ F_ (KF u)->b≠x:=λb u q m z=>by subst z;rw[q] at c;exact m c
 refine⟨λb u q n _ _=>k b u (g b n) q,λb u q n _ _=>⟨u.slots,k b u (g b n) q⟩,λb u q n _=>by rw[pj (f b n)];exact n,λb u q _=>?_,
  λb p q=>by rw[pj (d b _ q λz=>z)];exact q,λb u p q=>by rw[pj (d b _ q λz=>z)];exact q,λb s q=>⟨#[],by rw[pj (d b _ q λz=>z),q];simp⟩⟩
 by_cases i:b=e
 ·subst i;exact l
 ·exact⟨u,k b u i q⟩
def Un.mono(u:Un fs ex H H1 h h1)(g:∀b∈fs,b∈Vo)(f:∀b∈ex,b∈Vu):Un Vo Vu H H1 h h1:=
 ⟨λb d q n i c=>u.keep b d q n (λz=>i (g b z)) λz=>c (f b z),λ_ _ q n _ c=>u.any q n λz=>c (f _ z),λb d q n c=>u.free b d q n λz=>c (f b z),λb d q c=>u.there b d q λz=>c (f b z),u.tups,u.frzs,u.tbls⟩
end
def Ic(h:aL)(H:Hp):List af:=(a9 h.objs.size).filter λa=>(H a).isSome
def yu(h:aL)(H:Hp):aL:=PySem.W.hideAll h (Ic h H)
def zca(h:aL)(H:Hp):(yu h H).objs.size=h.objs.size:=PySem.W.hideAll_size _ _
def zdg(e:h.get? b=KF o)(n:H b=KM):(yu h H).get? b=KF o:=
 PySem.W.hideAll_get _ e λa=>by
  have q:=(bw.mp a).2;rw[n] at q;simp at q
def Zj(e:(yu h H).get? b=KF o):h.get? b=KF o/\H b=KM:=by
 have a:=PySem.W.of_hideAll (Ic h H) e;refine⟨a,?_⟩;cases q:H b with
 |none=>rfl
 | some x=>
  have c:b∈Ic h H:=bw.mpr ⟨cq.mpr (aI a),by simp[q]⟩;have z:(yu h H).get? b=KM:=PySem.W.hideAll_none (Ic h H) c;rw[z] at e;cases e
noncomputable def YO(g h:aL)(L:af):List (af×Obj):=(a9 h.objs.size).filterMap λa=>if a=L\/(g.get? a).isSome=qb then KM else (h.get? a).map λo=>(a,o)
def rest(g h:aL)(L d:af):List (af×Obj):=(YO g h L).filter λp=>decide (p.1≠d)
structure Mod(K:ai)(mg:au->Option ae)(base:aL):Prop where
 kin:K.In base
 glob:base.Ns bP mg
 blt:∃mb,base.Ns builtinsNs mb/\∀x:au,x ≠ "__name__"->mb x=bg x
 nolimit:base.NoLimit
structure Cx where
 prog:aD
 w:aR
 K:ai
 mg:au->Option ae
 base:aL
 A:aU
 N:List au
 s₀:ag
 H₀:Hp
 env:Env
 outer:List Env
 stack:List Env
 ex:List af
 fn:au->Bool
 calm:Bool
 pn:List (af×Obj)
 xe:ae->ag->Prop
def qN(l:List Env):List af:=l.filterMap (·.frame)
abbrev Cx.fs(X:Cx):List af:=qN X.outer
def rG(sc:bS)(x:au):Prop:=sc.names.lookup x=KF .local\/sc.names.lookup x=KF .cell\/sc.names.lookup x=KF .free
def Loc(sc:bS)(x:au):Prop:=sc.names.lookup x=KF .local\/sc.names.lookup x=KF .cell
def VW(env:Env)(h:aL)(m:au->Option ae)(x:au)(u:ae):Prop:=
 (env.kindOf x=KF .local/\m x=KF u)\/((env.kindOf x=KF .cell\/env.kindOf x=KF .free)/\∃c,env.cells.lookup x=KF c/\h.IsCell c (KF u))
structure Cx.Ok(X:Cx):Prop where
 mod:Mod X.K X.mg X.base
 kind:X.env.scope.kind=.function
 glob:X.env.globals=bP
 blt:X.env.builtins=builtinsNs
 above:X.s₀.heap.objs.size<=X.env.locals
 inj:∀x y c,X.env.cells.lookup x=KF c->X.env.cells.lookup y=KF c->x=y
 has:∀x,(X.env.kindOf x=KF .cell\/X.env.kindOf x=KF .free)->∃c,X.env.cells.lookup x=KF c
 cab:∀x c,X.fn x=qb->X.env.cells.lookup x=KF c->X.s₀.heap.objs.size<=c
 hd:X.calm=qb->X.A.handled=KM
 frames:X.A.frames=KF X.stack
 stk:X.stack=X.outer\/(X.stack=X.env::X.outer/\X.env.frame=KF X.env.locals)
 exf:∀b∈X.ex,b≠X.env.locals/\∀x c,X.env.cells.lookup x=KF c->c≠b
 bs:∀b o,X.base.get? b=KF o->X.s₀.heap.get? b=KF o/\X.H₀ b=KM
 bsz:X.base.objs.size<=X.s₀.heap.objs.size
 noex:∀b o,X.base.get? b=KF o->b∉X.ex
 exfs:∀b∈X.ex,b∉X.fs
 funs:X.s₀.heap.FunFrames X.base X.outer
 frf:∀b∈X.fs,X.H₀ b=KM
structure Inv(X:Cx)(Y1:List (af×Obj))(σ:List (Option V))(H:Hp)(s:ag):Prop where
 ok:X.Ok
 os:s.os=X.s₀.os
 bare:f6 s.gens
 base:Un X.fs X.ex X.H₀ H X.s₀.heap s.heap
 loc:∃m,s.heap.Ns X.env.locals m/\∀(i:Nat)(x:au)(v:V),X.N[i]?=KF x->σ[i]?=KF (KF v)->rG X.env.scope x->∃u,RelV v u/\VW X.env s.heap m x u
 cell:∀x c,X.env.cells.lookup x=KF c->∃v,s.heap.IsCell c v
 free:H X.env.locals=KM
 freeC:∀x c,X.env.cells.lookup x=KF c->H c=KM
 pin:∀p∈X.pn++Y1,s.heap.get? p.1=KF p.2/\H p.1=KM/\p.1≠X.env.locals/\p.1∉X.fs/\∀v,p.2.data ≠ .cell v
 hok:HOk X.prog X.w H s.heap
 len:σ.length=X.N.length
 tk:0<s.toks
section
variable{X:Cx}{Y1:List (af×Obj)}{σ:List (Option V)}{H H':Hp}{s:ag}{h':aL}
def Cx.Ok.nofr(ok:X.Ok)(e:X.base.get? b=KF o):b∉X.fs:=λa=>by
 have:=(ok.funs.mem a).1;rw[e] at this;cases this
def Inv.bs(I:Inv X Y1 σ H s):∀b o,X.base.get? b=KF o->s.heap.get? b=KF o/\H b=KM:=λb o e=>
 ⟨I.base.keep b o (I.ok.bs b o e).1 (I.ok.bs b o e).2 (I.ok.nofr e) (I.ok.noex b o e),I.base.free b o (I.ok.bs b o e).1 (I.ok.bs b o e).2 (I.ok.noex b o e)⟩
def Inv.bk(I:Inv X Y1 σ H s):∀b o,X.base.get? b=KF o->s.heap.get? b=KF o:=λb o e=>(I.bs b o e).1
def Inv.mod(I:Inv X Y1 σ H s):Mod X.K X.mg X.base:=I.ok.mod
def Inv.kIn(I:Inv X Y1 σ H s):X.K.In s.heap:=I.ok.mod.kin.keeps I.bk
def Inv.nolimit(I:Inv X Y1 σ H s):s.heap.NoLimit:=I.ok.mod.nolimit.keeps I.bk
def Inv.fr(I:Inv X Y1 σ H s):∃m,Fr X.base X.env.locals s.heap m:=
 let ⟨m,hn,_⟩:=I.loc
 ⟨m,hn,I.bk,aF I.ok.bsz I.ok.above⟩
def Inv.lt(I:Inv X Y1 σ H s):X.env.locals<s.heap.objs.size:=let ⟨_,hn,_⟩:=I.loc;hn.lt
def Inv.sz(I:Inv X Y1 σ H s):X.s₀.heap.objs.size<=s.heap.objs.size:=aF I.ok.above (iH I.lt)
def Inv.nofs(I:Inv X Y1 σ H s)(h:s.heap.objs.size<=a):a∉X.fs:=λb=>by
 obtain⟨_,o,c,_⟩:=I.ok.funs.mem b;exact absurd (aY (aI c) (aF I.sz h)) (bU _)
def Inv.cne(I:Inv X Y1 σ H s):∀x c,X.env.cells.lookup x=KF c->c≠X.env.locals:=λx c e z=>by
 obtain⟨v,o,a,b⟩:=I.cell x c e;obtain⟨m,⟨g,h,i,d,f,_⟩,_⟩:=I.loc;rw[z,d] at a;cases a;rw[f] at b;cases b
def Inv.funs(I:Inv X Y1 σ H s):s.heap.FunFrames X.base X.outer:=by
 have a:∀(l:List Env),(∀b∈qN l,b∈X.fs)->X.s₀.heap.FunFrames X.base l->s.heap.FunFrames X.base l:=by
  intro l
  induction l with
  |nil=>intro _ _;trivial
  | cons env r ih=>
   intro g h;obtain⟨i,⟨L,o,c,j,k,m⟩,n⟩:=h;have d:=g L (by unfold qN;rw[gC,c];exact am);obtain⟨p,e⟩:=I.base.slot L o k (I.ok.frf L d) d λz=>I.ok.exfs L z d;exact⟨i,⟨L,_,c,j,e,m⟩,ih (λb f=>g b (by unfold qN;rw[gC,c];exact ak _ f)) n⟩
 exact a X.outer (λ_ f=>f) I.ok.funs
def Inv.stack(I:Inv X Y1 σ H s):s.heap.FunFrames X.base X.stack:=by
 rcases I.ok.stk with e|⟨e,a⟩
 ·rw[e];exact I.funs
 ·rw[e];obtain⟨m,b,_⟩:=I.loc;refine .cons (by rw[I.ok.kind];decide) a b ?_ I.funs;exact iI (aF I.ok.bsz I.ok.above)
def Inv.stkSub(I:Inv X Y1 σ H s):∀b∈qN X.stack,b∈X.env.locals::X.fs:=λb a=>by
 rcases I.ok.stk with e|⟨e,c⟩
 ·rw[e] at a;exact ak _ a
 ·rw[e] at a;unfold qN at a;rw[gC,c] at a;exact a
def Inv.stkFree(I:Inv X Y1 σ H s):∀b∈qN X.stack,H b=KM:=λb hb=>by
 rcases aq.mp (I.stkSub b hb) with e|hb
 ·rw[e];exact I.free
 ·obtain⟨_,o,a,_⟩:=I.ok.funs.mem hb;exact I.base.free b o a (I.ok.frf b hb) λz=>I.ok.exfs b z hb
def Inv.step{Q:Array mG}{t':Nat}{d':Drawn}{ch:List af}(I:Inv X Y1 σ H s)
  (C:∀b∈ch,(b∈X.ex\/X.s₀.heap.objs.size<=b)/\b≠X.env.locals/\(∀x c,X.env.cells.lookup x=KF c->c≠b)/\∀p∈X.pn++Y1,p.1≠b)
  (g:∀b o,b≠X.env.locals->b∉X.fs->b∉ch->s.heap.get? b=KF o->H b=KM->h'.get? b=KF o)
  (t:∀b o,b≠X.env.locals->b∈X.fs->b∉ch->s.heap.get? b=KF o->H b=KM->∃sl,h'.get? b=KF { o with slots:=sl }) (f:∀b o,b∉ch->s.heap.get? b=KF o->H b=KM->H' b=KM)
  (y:∀b o,b∉ch->s.heap.get? b=KF o->∃D,h'.get? b=KF D)
  (E:∀b xs,H b=KF (.tup xs)->H' b=KF (.tup xs)) (F:∀b o u,H b=KF (.frz o u)->H' b=KF (.frz o u)) (G:∀b M,H b=KF (.tbl M)->∃J,H' b=KF (.tbl (M++J)))
  (ns:∀m,s.heap.Ns X.env.locals m->h'.Ns X.env.locals m) (O:HOk X.prog X.w H' h') (Y:f6 Q) (Z:0<t'):
  Inv X Y1 σ H' { s with heap:=h',gens:=Q,drawn:=d',toks:=t' }:=by
 have R:∀b o,X.s₀.heap.get? b=KF o->b≠X.env.locals:=λb o e=>bu (aY (aI e) I.ok.above);have N:∀b o,X.s₀.heap.get? b=KF o->b∉X.ex->b∉ch:=λb o e a A=>by
  rcases (C b A).1 with z|z
  ·exact a z
  ·exact absurd (aY (aI e) z) (bU _)
 have h:∀x c,X.env.cells.lookup x=KF c->∀v,s.heap.IsCell c v->h'.IsCell c v:=λx c e v ⟨o,B,P⟩=>by
  have K:c∉ch:=λz=>(C c z).2.2.1 x c e rfl;by_cases S:c∈X.fs
  ·obtain⟨sl,q⟩:=t c o (I.cne x c e) S K B (I.freeC x c e);exact⟨_,q,P⟩
  ·exact⟨o,g c o (I.cne x c e) S K B (I.freeC x c e),P⟩
 refine⟨I.ok,I.os,Y,⟨λb o e n A a=>?_,λb o e n A a=>?_,λb o e n a=>?_,λb o e a=>?_,λb xs e=>E b xs (I.base.tups b xs e),λb o xs e=>F b o xs (I.base.frzs b o xs e),λb M e=>?_⟩,?_,λx c e=>?_,?_,λx c e=>?_,λp T=>?_,O,I.len,Z⟩
 ·exact g b o (R b o e) A (N b o e a) (I.base.keep b o e n A a) (I.base.free b o e n a)
 ·obtain⟨sl,j⟩:=I.base.slot b o e n A a;obtain⟨xg,L⟩:=t b _ (R b o e) A (N b o e a) j (I.base.free b o e n a);exact⟨xg,L⟩
 ·obtain⟨D,j⟩:=I.base.there b o e a;exact f b D (N b o e a) j (I.base.free b o e n a)
 ·obtain⟨D,j⟩:=I.base.there b o e a;exact y b D (N b o e a) j
 ·obtain⟨m1,j⟩:=I.base.tbls b M e;obtain⟨m2,L⟩:=G b _ j;exact⟨m1++m2,by rw[L,lH]⟩
 ·obtain⟨m,hn,hl⟩:=I.loc;refine⟨m,ns m hn,λi x v j L e3=>?_⟩;obtain⟨u,r,l⟩:=hl i x v j L e3;refine⟨u,r,?_⟩;rcases l with l|⟨k,c,e,z⟩
  ·exact .inl l
  ·exact .inr ⟨k,c,e,h x c e _ z⟩
 ·obtain⟨v,z⟩:=I.cell x c e;exact⟨v,h x c e v z⟩
 ·obtain⟨m,⟨o,_,_,B,_⟩,_⟩:=I.loc;exact f _ o (λz=>(C _ z).2.1 rfl) B I.free
 ·obtain⟨v,o,B,P⟩:=I.cell x c e;exact f c o (λz=>(C c z).2.2.1 x c e rfl) B (I.freeC x c e)
 ·obtain⟨e,n,U,W,d⟩:=I.pin p T;have K:p.1∉ch:=λz=>(C p.1 z).2.2.2 p T rfl;exact⟨g p.1 p.2 U W K e n,f p.1 p.2 K e n,U,W,d⟩
def Inv.un{t':Nat}(I:Inv X Y1 σ H s)(u:Un X.fs [] H H' s.heap h')(a:HOk X.prog X.w H' h')(g:0<t':=by first|exact cU _|exact Inv.tk ‹_›|assumption|lia):Inv X Y1 σ H' { s with heap:=h',toks:=t' }:=by
 obtain⟨m,⟨o,p,q,d,r⟩,_⟩:=id I.loc;obtain⟨t,h⟩:=u.any d I.free 'd';exact I.step (ch:=[]) (λ_ z=>nomatch z) (λb o _ c _ e n=>u.keep b o e n c 'd') (λb o _ c _ e n=>u.slot b o e n c 'd') (λb o _ e n=>u.free b o e n 'd') (λb o _ e=>u.there b o e 'd') u.tups u.frzs u.tbls (λv i=>by
  obtain⟨x,j,k,f,l⟩:=i;rw[d] at f;cases f;exact⟨_,j,k,h,l⟩) a I.bare g
def Inv.call{g:Array mG}{t':Nat}{d':Drawn}{ch:List af}(I:Inv X Y1 σ H s)(u:Un (qN X.stack) ch H H' s.heap h')(d:HOk X.prog X.w H' h')(k:f6 g)
  (h:∀b∈ch,(b∈X.ex\/X.s₀.heap.objs.size<=b)/\b≠X.env.locals/\(∀x c,X.env.cells.lookup x=KF c->c≠b)/\∀p∈X.pn++Y1,p.1≠b) (l:0<t':=by first|exact cU _|exact Inv.tk ‹_›|assumption|lia):
  Inv X Y1 σ H' { s with heap:=h',gens:=g,drawn:=d',toks:=t' }:=by
 obtain⟨m,⟨o,B,C,i,r⟩,_⟩:=id I.loc;obtain⟨D,f⟩:=u.any i I.free λz=>(h _ z).2.1 rfl;exact I.step h (λb o f q a e n=>u.keep b o e n (λz=>(aq.mp (I.stkSub b z)).elim f q) a) (λb o _ _ a e n=>u.any e n a) (λb o a e n=>u.free b o e n a) (λb o a e=>u.there b o e a) u.tups u.frzs u.tbls (λE t=>by
  obtain⟨F,v,y,j,A⟩:=t;rw[i] at j;cases j;exact⟨_,v,y,f,A⟩) d k l
def Inv.turned{t':Nat}{it:af}(I:Inv X Y1 σ H s)(k:∀b o,b≠it->s.heap.get? b=KF o->h'.get? b=KF o)(g:H it=KM)(d:it≠X.env.locals)
  (h:it∈X.ex\/X.s₀.heap.objs.size<=it) (i:∀x c,X.env.cells.lookup x=KF c->c≠it) (j:∀p∈X.pn++Y1,p.1≠it) (l:0<t':=by first|exact cU _|exact Inv.tk ‹_›|assumption|lia):Inv X Y1 σ H { s with heap:=h',toks:=t' }:=by
 have f:∀b u,H b=KF u->b≠it:=λb u e z=>by rw[z,g] at e;cases e
 refine I.step (ch:=[it]) (λb t=>?_) (λb o _ _ a e _=>k b o (λz=>a (by simp[z])) e) (λb o _ _ a e _=>⟨o.slots,k b o (λz=>a (by simp[z])) e⟩) (λ_ _ _ _ n=>n)
  (λb o a e=>⟨o,k b o (λz=>a (by simp[z])) e⟩) (λ_ _ e=>e) (λ_ _ _ e=>e) (λb C e=>⟨#[],by rw[e];simp⟩) (λm w=>?_) (λb u e=>?_) I.bare l
 ·have e:b=it:=⇑t
  subst e;exact⟨h,d,i,j⟩
 ·obtain⟨o,y,A,B,r⟩:=w;exact⟨o,y,A,k _ o (bB d) B,r⟩
 ·refine(I.hok b u e).stay (λc v a q=>k c v ?_ q) (λ_ q=>q) λ_ _ q=>q;rcases a with z|z
  ·rw[z];exact f b u e
  ·exact f c _ z
def Inv.tok(I:Inv X Y1 σ H s)(t:Nat)(a:0<t:=by first|exact cU _|exact Inv.tk ‹_›|assumption|lia):Inv X Y1 σ H { s with toks:=t }:=I.un Un.refl I.hok
def Inv.kept(I:Inv X Y1 σ H s)(k:∀b u,s.heap.get? b=KF u->h'.get? b=KF u)(a:0<t':=by first|exact cU _|exact Inv.tk ‹_›|assumption|lia):Inv X Y1 σ H { s with heap:=h',toks:=t' }:=I.un (Un.kept k) (I.hok.kept k)
def Inv.laid{a:af}{o:HO}{t':Nat}(I:Inv X Y1 σ H s)(k:∀b u,s.heap.get? b=KF u->h'.get? b=KF u)(c:s.heap.objs.size<=a)(d:on X.prog X.w (upd H a o) h' a o)(e:0<t':=by first|exact cU _|exact Inv.tk ‹_›|assumption|lia):
  Inv X Y1 σ (upd H a o) { s with heap:=h',toks:=t' }:=I.un (Un.laid k c (I.hok.fresh c)) (I.hok.laid k c d)
def Inv.write(I:Inv X Y1 σ H s)(c:F_ (H x))(d:e=x\/H e=KF (.own x))(k:∀b u,b≠e->s.heap.get? b=KF u->h'.get? b=KF u)(f:∃u,h'.get? e=KF u)
  (a:on X.prog X.w (upd H x o) h' x o) (g:0<t':=by first|exact cU _|exact Inv.tk ‹_›|assumption|lia):Inv X Y1 σ (upd H x o) { s with heap:=h',toks:=t' }:=I.un (Un.write c d k f) (I.hok.write c d k f a)
def Inv.weak(I:Inv X Y1 σ H s)(a:σ'.length=σ.length)(w:∀(i:Nat)v,σ'[i]?=KF (KF v)->σ[i]?=KF (KF v)):Inv X Y1 σ' H s:=
 ⟨I.ok,I.os,I.bare,I.base,let ⟨m,hn,sF⟩:=I.loc;⟨m,hn,λi x v b c d=>sF i x v b (w i v c) d⟩,I.cell,I.free,I.freeC,I.pin,I.hok,a.trans I.len,I.tk⟩
def Inv.pins_of(I:Inv X Y1 σ H s)(h:∀p∈EO,s.heap.get? p.1=KF p.2/\H p.1=KM/\p.1≠X.env.locals/\p.1∉X.fs/\∀v,p.2.data ≠ .cell v):Inv X EO σ H s:=
 ⟨I.ok,I.os,I.bare,I.base,I.loc,I.cell,I.free,I.freeC,λp a=>(aS.mp a).elim (λz=>I.pin p (bN _ z)) (h p),I.hok,I.len,I.tk⟩
def KQ{N:List au}(c:N.Nodup){i j:Nat}{x:au}(a:N[i]?=KF x)(b:N[j]?=KF x):i=j:=by obtain⟨f,d⟩:=al.mp a;obtain⟨g,e⟩:=al.mp b;exact(jJ c).mp (d.trans e.symm)
def KW{M:gE}{A:aU}{E:ae->ag->Prop}{i:Nat}{x:au}{v:V}{u:ae}{Q:Unit->ag->Prop}(I:Inv X Y1 σ H s)(hN:X.N.Nodup)(G:X.N[i]?=KF x)(t:Loc X.env.scope x)(r:RelV v u)
  (h:∀s',Inv X Y1 (σ.set i (KF v)) H s'->(∃a,dP a s.heap s'.heap/\(a=X.env.locals\/X.env.cells.lookup x=KF a))->Q () s') (hf:X.fn x=qb\/X.env.scope.names.lookup x=KF .local:=by first|exact .inl rfl|exact .inr rfl|assumption):ar M A (storeName X.env x u) Q E s:=by
 obtain⟨m,O,hl⟩:=id I.loc;have yn:(X.env.scope.kind == .class||(X.env.scope.kind == .module&&X.env.locals !=X.env.globals))=qj:=by rw[I.ok.kind];rfl
 have FC:i<σ.length:=by rw[I.len];exact(al.mp G).1
 have C:=I.cne;have g:∀{a:af}{h':aL},(∃o,s.heap.get? a=KF o/\H a=KM)->dP a s.heap h'->HOk X.prog X.w H h':=λ{a h'}ha f b ob e=>by
  obtain⟨_,_,pI⟩:=ha;refine(I.hok b ob e).stay (λc J hc q=>(f.2 c ?_).trans q) (λ_ q=>q) λ_ _ q=>q;rintro rfl;rcases hc with rfl|hc
  ·rw[pI] at e;cases e
  ·rw[pI] at hc;cases hc
 rcases t with hk|hk
 ·refine wpAny_storeName_local hk O (λh' zR f=>?_) yn;obtain⟨oL,_,_,P,_⟩:=id O;refine h _ ⟨I.ok,I.os,I.bare,⟨λb o e n D t=>?_,λb o e n D t=>?_,I.base.free,λb o e t=>?_,I.base.tups,I.base.frzs,I.base.tbls⟩,⟨_,zR,λj y R l B S=>?_⟩,λy c e=>?_,I.free,I.freeC,λp T=>?_,g ⟨oL,P,I.free⟩ f,by simpa using I.len,cU _⟩ ⟨_,f,.inl rfl⟩
  ·exact(f.2 b (bu (aY (aI e) I.ok.above))).trans (I.base.keep b o e n D t)
  ·obtain⟨U,l⟩:=I.base.slot b o e n D t;exact⟨U,(f.2 b (bu (aY (aI e) I.ok.above))).trans l⟩
  ·obtain⟨W,l⟩:=I.base.there b o e t;exact⟨W,(f.2 b (bu (aY (aI e) I.ok.above))).trans l⟩
  ·by_cases F:j=i
   ·subst F;rw[G] at l;cases l;rw[aZ FC] at B;cases B;exact⟨u,r,.inl ⟨hk,by simp⟩⟩
   ·rw[aW (bB F)] at B;obtain⟨Y,Z,q⟩:=hl j y R l B S;refine⟨Y,Z,?_⟩;rcases q with⟨k,e⟩|⟨k,c,e,z⟩
    ·refine .inl ⟨k,?_⟩;have:y≠x:=λe=>F (KQ hN l (e▸G));simp[this,e]
    ·exact .inr ⟨k,c,e,z.sameBut f (C y c e)⟩
  ·obtain⟨J,z⟩:=I.cell y c e;exact⟨J,z.sameBut f (C y c e)⟩
  ·obtain⟨e,n,K,nf,d⟩:=I.pin p T;exact⟨(f.2 p.1 K).trans e,n,K,nf,d⟩
 ·have Dr:X.fn x=qb:=by
   rcases hf with z|z
   ·exact z
   ·rw[z] at hk;cases hk
  obtain⟨c,hc⟩:=I.ok.has x (.inl hk);obtain⟨J,z⟩:=I.cell x c hc;refine wpAny_storeName_cell I.ok.kind hk hc z (λh' xm f=>?_);obtain⟨oc,AB,MC⟩:=id z;refine h { s with heap:=h' } ⟨I.ok,I.os,I.bare,⟨λb o e n D t=>?_,λb o e n D t=>?_,I.base.free,λb o e t=>?_,I.base.tups,I.base.frzs,I.base.tbls⟩,⟨m,O.sameBut f (bB (C x c hc)),λj y R l B S=>?_⟩,λy L e=>?_,I.free,I.freeC,λp T=>?_,g ⟨oc,AB,I.freeC x c hc⟩ f,by simpa using I.len,I.tk⟩ ⟨c,f,.inr hc⟩
  ·exact(f.2 b (bu (aY (aI e) (I.ok.cab x c Dr hc)))).trans (I.base.keep b o e n D t)
  ·obtain⟨U,l⟩:=I.base.slot b o e n D t;exact⟨U,(f.2 b (bu (aY (aI e) (I.ok.cab x c Dr hc)))).trans l⟩
  ·obtain⟨W,l⟩:=I.base.there b o e t;exact⟨W,(f.2 b (bu (aY (aI e) (I.ok.cab x c Dr hc)))).trans l⟩
  ·by_cases F:j=i
   ·subst F;rw[G] at l;cases l;rw[aZ FC] at B;cases B;exact⟨u,r,.inr ⟨.inl hk,c,hc,xm⟩⟩
   ·rw[aW (bB F)] at B;obtain⟨Y,Z,q⟩:=hl j y R l B S;refine⟨Y,Z,?_⟩;rcases q with q|⟨k,L,e,z'⟩
    ·exact .inl q
    ·refine .inr ⟨k,L,e,z'.sameBut f ?_⟩;rintro rfl;exact F (KQ hN l (I.ok.inj _ _ _ e hc▸G))
  ·by_cases tU:L=c
   ·subst tU;exact⟨_,xm⟩
   ·obtain⟨w2,z2⟩:=I.cell y L e;exact⟨w2,z2.sameBut f tU⟩
  ·obtain⟨e,n,K,nf,d⟩:=I.pin p T;refine⟨(f.2 p.1 ?_).trans e,n,K,nf,d⟩;intro q;rw[q,AB] at e;have q':=cn e;exact d J (by rw[<- q'];exact MC)
def En(I:Inv X Y1 σ H s)(a:X.N.Nodup)(b:X.N[i]?=KF x)(c:Loc X.env.scope x)(r:RelV v u)
  (h:∀s',Inv X Y1 (σ.set i (KF v)) H s'->Q () s') (d:X.fn x=qb\/X.env.scope.names.lookup x=KF .local:=by first|exact .inl rfl|exact .inr rfl|assumption):ar M A (storeName X.env x u) Q E s:=
 KW I a b c r (λs' e _=>h s' e) d
def Inv.call'(I:Inv X Y1 σ H s)(d:s'.os=s.os)(u:Un (qN X.stack) ch H H' s.heap s'.heap)(a:HOk X.prog X.w H' s'.heap)(f:f6 s'.gens)
  (g:∀b∈ch,(b∈X.ex\/X.s₀.heap.objs.size<=b)/\b≠X.env.locals/\(∀x c,X.env.cells.lookup x=KF c->c≠b)/\∀p∈X.pn++Y1,p.1≠b) (h:0<s'.toks:=by first|exact cU _|exact Inv.tk ‹_›|assumption|lia):Inv X Y1 σ H' s':=by obtain⟨h',i,j,k,l⟩:=s';have e:=d;subst e;exact I.call u a f g
end
abbrev XK:=ae->Option af->Hp->Prop
abbrev St:=List (Option V)
abbrev VK:=V->Hp->Prop
abbrev TE:=St->Hp->VK->Prop
abbrev TT:=St->Hp->(Bool->Hp->Prop)->Prop
abbrev TA:=St->Hp->(List V->Hp->Prop)->Prop
structure xO where
 nx:St->Hp->Prop
 rt:VK
 bk:St->Hp->Prop:=λ_ _=>False
 ct:St->Hp->Prop:=λ_ _=>False
abbrev TS:=xO->St->Hp->Prop
def EP(X:Cx)(Y1:List (af×Obj))(σ:St)(Q:VK)(u:ae)(s':ag):Prop:=∃v H',Inv X Y1 σ H' s'/\RelV v u/\Q v H'
def TP(X:Cx)(Y1:List (af×Obj))(σ:St)(Q:Bool->Hp->Prop)(b:Bool)(s':ag):Prop:=∃H',Inv X Y1 σ H' s'/\Q b H'
def AP(X:Cx)(Y1:List (af×Obj))(σ:St)(Q:List V->Hp->Prop)(us:List ae)(s':ag):Prop:=∃vs H',Inv X Y1 σ H' s'/\nY vs us/\Q vs H'
def SP(X:Cx)(Y1:List (af×Obj))(D:xO)(f:Flow)(s':ag):Prop:=
 match f with
 |.next=>∃σ' H',Inv X Y1 σ' H' s'/\D.nx σ' H'
 |.brk=>∃σ' H',Inv X Y1 σ' H' s'/\D.bk σ' H'
 |.cont=>∃σ' H',Inv X Y1 σ' H' s'/\D.ct σ' H'
 |.ret u=>∃v σ' H',Inv X Y1 σ' H' s'/\RelV v u/\D.rt v H'
def PE(X:Cx)(e:aO)(t:TE):Prop:=
 ∀(Y1:List (af×Obj))(s:ag)(σ:St)(H:Hp)(Q:VK),Inv X Y1 σ H s->t σ H Q->ar (av X.prog X.w) X.A (eval e X.env) (EP X Y1 σ Q) X.xe s
def PT(X:Cx)(e:aO)(t:TT):Prop:=
 ∀(Y1:List (af×Obj))(s:ag)(σ:St)(H:Hp)(Q:Bool->Hp->Prop),Inv X Y1 σ H s->t σ H Q->ar (av X.prog X.w) X.A (isTrue e X.env (eval e X.env)) (TP X Y1 σ Q) X.xe s
def PW(X:Cx)(e:aO)(t:TT):Prop:=
 ∀(whole:Sem ae)(Y1:List (af×Obj))(s:ag)(σ:St)(H:Hp)(Q:Bool->Hp->Prop),Inv X Y1 σ H s->t σ H Q->ar (av X.prog X.w) X.A (isTrue e X.env whole) (TP X Y1 σ Q) X.xe s
def PW.pt(h:PW X e t):PT X e t:=h _
def PA(X:Cx)(es:List aO)(t:TA):Prop:=
 ∀(pos:Pos)(Y1:List (af×Obj))(s:ag)(σ:St)(H:Hp)(Q:List V->Hp->Prop),Inv X Y1 σ H s->t σ H Q->ar (av X.prog X.w) X.A (spliced (backTo pos (aA es X.env))) (AP X Y1 σ Q) X.xe s
def PS(X:Cx)(st:cN)(t:TS):Prop:=
 ∀(Y1:List (af×Obj))(s:ag)(σ:St)(H:Hp)(D:xO),Inv X Y1 σ H s->t D σ H->ar (av X.prog X.w) X.A (exec st X.env) (SP X Y1 D) X.xe s
def rL(X:Cx)(st:List cN)(t:TS):Prop:=
 ∀(Y1:List (af×Obj))(s:ag)(σ:St)(H:Hp)(D:xO),Inv X Y1 σ H s->t D σ H->ar (av X.prog X.w) X.A (execs st X.env) (SP X Y1 D) X.xe s
def o_{α:Type}{t:Sem α}{Q b:α->ag->Prop}{M:gE}{A:aU}{E:ae->ag->Prop}{s:ag}(h:ar M A t Q E s)(c:∀a s,Q a s->b a s):ar M A t b E s:=bZ h c λ_ _ x=>x
section
variable{X:Cx}
def bin{a b:aO}{i j:TE}(k:PE X a i)(l:PE X b j){c:List (af×Obj)}{s:ag}{σ:St}{H:Hp}{R:V->V->Hp->Prop}(I:Inv X c σ H s)(h:i σ H λx g=>j σ g λy d=>R x y d)
  {α:Type} {Q:α->ag->Prop} {f:ae->ae->Sem α}
  (m:∀v u e x y d,Inv X c σ d e->RelV x v->RelV y u->R x y d->ar (av X.prog X.w) X.A (f v u) Q X.xe e):
  ar (av X.prog X.w) X.A (eval a X.env) (λv n=>ar (av X.prog X.w) X.A (eval b X.env) (λu o=>ar (av X.prog X.w) X.A (f v u) Q X.xe o) X.xe n) X.xe s:=by refine o_ (k c s σ H _ I h) λv p ⟨x,g,q,r,t⟩=>?_;refine o_ (l c p σ g _ q t) λu e ⟨y,d,z,B,C⟩=>?_;exact m v u e x y d z r B C
def Jy(i:Nat):TE:=λσ H Q=>∃v,σ[i]?=KF (KF v)/\Q v H
def tC(v:V):TE:=λ_ H Q=>Q v H
abbrev qP(x:au):Prop:=(x==("__debug__":au))=qj
def GO(j:X.N[i]?=KF x)(k:rG X.env.scope x)(d:qP x:=by decide)(n:(x==("__classdict__":au))=qj:=by decide):PE X (.Name x pos) (Jy i):=by
 intro b s o H Q I h;obtain⟨v,e,h⟩:=h;obtain⟨m,p,q⟩:=I.loc;obtain⟨u,r,l⟩:=q i x v j e k;have a:EP X b o Q u s:=⟨v,H,I,r,h⟩;rcases l with⟨hk,t⟩|⟨hk,c,f,g⟩
 ·exact iJ (iK I.ok.kind hk p t a) d
 ·rcases hk with hk|hk
  ·exact iJ (i4 I.ok.kind hk f g a) d
  ·exact iJ (lz I.ok.kind hk f g a n) d
def OM:PE X (.Constant (.int i) j pos) (tC (.int i)):=λ_ _ _ H _ I h=>wpAny_Constant_int ⟨.int i,H,I.tok _,⟨_,rfl⟩,h⟩
def WO:PE X (.Constant (.bool b) j pos) (tC (.bl b)):=λ_ _ _ H _ I h=>Constant_bool ⟨.bl b,H,I,rfl,h⟩
def JX:PE X (.Constant .none j pos) (tC .non):=λ_ _ _ H _ I h=>Constant_none ⟨.non,H,I,rfl,h⟩
def PL:PE X (.Constant (.str x) j pos) (tC (.str x)):=λ_ _ _ H _ I h=>jh ⟨.str x,H,I.tok _,⟨_,rfl⟩,h⟩
def Gl(X:Cx)(x:au):Prop:=X.env.kindOf x=KF .globalImplicit
def Ed(I:Inv X Y1 σ H s)(a:Gl X x)(b:X.mg x=KF u)(h:Q u s)
  (c:qP x:=by decide):ar (av X.prog X.w) X.A (eval (.Name x pos) X.env) Q E s:=
 jq I.ok.kind a (Calls.loadGlobal_global (by rw[I.ok.glob];exact I.mod.glob.keeps I.bk) b h) c
def Be(I:Inv X Y1 σ H s)(a:Gl X x)(b:X.mg x=KM)(c:bg x=KF u)(h:Q u s)
  (d:x ≠ "__name__":=by decide) (e:qP x:=by decide):ar (av X.prog X.w) X.A (eval (.Name x pos) X.env) Q E s:=by obtain⟨i,f,g⟩:=I.mod.blt;exact jq I.ok.kind a (Calls.loadGlobal_builtin (by rw[I.ok.glob];exact I.mod.glob.keeps I.bk) b (by rw[I.ok.blt];exact f.keeps I.bk) ((g x d).trans c) h) e
def Hf(a:Gl X x)(b:X.mg x=KF u)(r:RelV v u)(c:qP x:=by decide):PE X (.Name x pos) (tC v):=
 λ_ _ _ H _ I h=>Ed I a b ⟨v,H,I,r,h⟩ c
def G3(a:Gl X x)(b:X.mg x=KM)(c:bg x=KF u)(r:RelV v u)(d:x ≠ "__name__":=by decide)(e:qP x:=by decide):PE X (.Name x pos) (tC v):=
 λ_ _ _ H _ I h=>Be I a b c ⟨v,H,I,r,h⟩ d e
variable{a b:aO}{ta tb:TE}{pos:Pos}
def PC(X:Cx)(op:CmpOp)(a b:aO)(t:TE):Prop:=
 ∀(Y1:List (af×Obj))(s:ag)(σ:St)(H:Hp)(Q:VK),Inv X Y1 σ H s->t σ H Q->
  ar (av X.prog X.w) X.A (eval a X.env) (λv n_=>ar (av X.prog X.w) X.A (eval b X.env) (λu sC=>ar (av X.prog X.w) X.A (cm op v u) (EP X Y1 σ Q) X.xe sC) X.xe n_) X.xe s
def Sn(b:aO)(h:op ≠ .In)(c:op ≠ .NotIn):behindInMarks op b=qj:=by
 have d:(op==CmpOp.In)=qj:=by cases op<;>first|rfl|exact absurd rfl h
 have e:(op==CmpOp.NotIn)=qj:=by cases op<;>first|rfl|exact absurd rfl c
 cases b<;>simp[behindInMarks,d,e]
def tB(t:TE):TT:=λσ H Q=>t σ H λx H1=>∃c,x=.bl c/\Q c H1
def XN(h:PC X op a b t)(d:behindInMarks op b=qj:=by first|exact Sn _ 's' 's'|rfl):PE X (.Compare a [op] [b] pos) t:=λc s e H Q I f=>wpAny_Compare1 (h c s e H Q I f) d
def XJ{op:CmpOp}{t:TE}(h:PC X op a b t)(f:behindInMarks op b=qj:=by first|exact Sn _ 's' 's'|rfl):PT X (.Compare a [op] [b] pos) (tB t):=by intro e s g H Q I i;refine kz (o_ (h e s g H _ I i) λv o f=>o_ f λu p j=>o_ j λc r ⟨x,k,l,m,n⟩=>?_) f;obtain⟨d,rfl,q⟩:=n;cases m;exact c8 ⟨k,l,q⟩
variable{tA Ih:TT}{rest:List aO}
def VS(t u:TT):TT:=λσ H Q=>t σ H λc H1=>if c=qb then u σ H1 Q else Q qj H1
def tOr(t u:TT):TT:=λσ H Q=>t σ H λc H1=>if c=qb then Q qb H1 else u σ H1 Q
def VN(t:TT):TT:=λσ H Q=>t σ H λc H1=>Q (!c) H1
def YY(f:PT X a tA):PW X (.BoolOp .And [a] pos) tA:=by
 intro i d s g H Q I h;refine isTrue_and (o_ (f d s g H Q I h) λc j e=>?_);cases c with
 |true=>exact isTrue_and_nil e
 |false=>exact e
def W0(f:PT X a tA):PW X (.BoolOp .Or [a] pos) tA:=by
 intro i d s g H Q I h;refine isTrue_or (o_ (f d s g H Q I h) λc j e=>?_);cases c with
 |false=>exact isTrue_or_nil e
 |true=>exact e
def X5(j:PT X a tA)(k:PW X (.BoolOp .And (b::rest) pos) Ih):PW X (.BoolOp .And (a::b::rest) pos) (VS tA Ih):=by
 intro l d s e H Q I h;refine isTrue_and (o_ (j d s e H _ I h) λc m ⟨f,g,i⟩=>?_);cases c with
 |true=>exact k l d m e f Q g i
 |false=>exact⟨f,g,i⟩
def Ww(j:PT X a tA)(k:PW X (.BoolOp .Or (b::rest) pos) Ih):PW X (.BoolOp .Or (a::b::rest) pos) (tOr tA Ih):=by
 intro l d s e H Q I h;refine isTrue_or (o_ (j d s e H _ I h) λc m ⟨f,g,i⟩=>?_);cases c with
 |true=>exact⟨f,g,i⟩
 |false=>exact k l d m e f Q g i
def XG(e:PT X a tA):PT X (.UnaryOp .Not a pos) (VN tA):=by intro d s f H Q I h;exact isTrue_not (e d s f H (λc g=>Q (!c) g) I h)
def W9(ta tb:TE):TE:=λσ H Q=>ta σ H λx H1=>∃c,x=.bl c/\if c=qb then tb σ H1 Q else Q (.bl qj) H1
def Wi(ta tb:TE):TE:=λσ H Q=>ta σ H λx H1=>∃c,x=.bl c/\if c=qb then Q (.bl qb) H1 else tb σ H1 Q
def Wr(ta:TE):TE:=λσ H Q=>ta σ H λx H1=>∃c,x=.bl c/\Q (.bl (!c)) H1
def W5(h:PE X a t):PE X (.BoolOp op [a] pos) t:=λc s d H Q I e=>BoolOp_one (h c s d H Q I e)
def XT(j:PE X a ta)(k:PE X (.BoolOp .And (b::rest) pos) tb):PE X (.BoolOp .And (a::b::rest) pos) (W9 ta tb):=by
 intro d s f H Q I h;refine BoolOp_and (o_ (j d s f H _ I h) λv l ⟨x,g,i,m,e⟩=>?_);obtain⟨c,rfl,e⟩:=e;cases m;refine c8 ?_;cases c with
 |true=>exact k d l f g Q i e
 |false=>exact⟨.bl qj,g,i,rfl,e⟩
def WK(j:PE X a ta)(k:PE X (.BoolOp .Or (b::rest) pos) tb):PE X (.BoolOp .Or (a::b::rest) pos) (Wi ta tb):=by
 intro d s f H Q I h;refine BoolOp_or (o_ (j d s f H _ I h) λv l ⟨x,g,i,m,e⟩=>?_);obtain⟨c,rfl,e⟩:=e;cases m;refine c8 ?_;cases c with
 |false=>exact k d l f g Q i e
 |true=>exact⟨.bl qb,g,i,rfl,e⟩
def Yy(f:PE X a ta):PE X (.UnaryOp .Not a pos) (Wr ta):=by intro d s g H Q I h;refine UnaryOp_ (o_ (f d s g H _ I h) λv l ⟨x,i,j,k,e⟩=>?_);obtain⟨c,rfl,e⟩:=e;cases k;exact not_of (c8 ⟨.bl (!c),i,j,rfl,e⟩)
end
def qr(K:ai)(H:Hp)(a:af)(xs:List V):Prop:=
 Rd H a (.lst xs) \/
  ∃(o:Obj)(d_:Array ae)(n:Nat),K.lookup a=KF o/\o.cls=.type "list"/\o.dict=KM/\o.data=.seq d_ n/\d_.size<=q9/\nY xs d_.toList
def rH(K:ai)(H:Hp)(a:af)(xs:List V):Prop:=
 Rd H a (.tup xs) \/
  ∃(o:Obj)(d_:Array ae)(n:Nat),K.lookup a=KF o/\o.cls=.type "tuple"/\o.data=.seq d_ n/\d_.size<=q9/\nY xs d_.toList
def VR:ae->Option V
 |.none=>KF .non
 |.bool b=>KF (.bl b)
 |.int i _=>KF (.int i)
 |.str x _=>KF (.str x)
 |.bytes b _=>KF (.byt b)
 |.float b _=>KF (.flt b)
 |.ref a=>KF (.ref a)
 |.type n=>KF (.ty n)
 |_=>KM
def RelV.abs(r:RelV x u):VR u=KF x:=by
 cases x with
 |non=>cases r;rfl
 |bl _=>cases r;rfl
 |int _=>obtain⟨t,rfl⟩:=r;rfl
 |str _=>obtain⟨t,rfl⟩:=r;rfl
 |byt _=>obtain⟨t,rfl⟩:=r;rfl
 |flt _=>obtain⟨t,rfl⟩:=r;rfl
 |ref _=>cases r;rfl
 |ty _=>cases r;rfl
def RelV.inj(r:RelV x u)(q:RelV y u):x=y:=cn (r.abs.symm.trans q.abs)
theorem nY.inj:∀{xs a:List V}{b:List ae},nY xs b->nY a b->xs=a
 |_,_,_,.nil,.nil=>rfl
 |_,_,_,.cons r t,.cons r' t'=>by rw[r.inj r',nY.inj t t']
section
variable{X:Cx}{Y1:List (af×Obj)}{σ:St}{H:Hp}{s:ag}{a:af}{xs ys:List V}
def qr.of{K:ai}(h:H a=KF (.lst xs)):qr K H a xs:=.inl (.inl h)
def rH.of{K:ai}(h:H a=KF (.tup xs)):rH K H a xs:=.inl (.inl h)
def Inv.list(I:Inv X Y1 σ H s)(h:qr X.K H a xs):∃b:List ae,nY xs b/\PlainL s.heap a b.toArray/\xs.length<=q9:=by
 rcases h with h|⟨o,b,n,c,d,f,g,i,r⟩
 ·obtain⟨z,b,n,r,e⟩:=h.ok I.hok;exact⟨b,r,⟨_,n,e,rfl,rfl,rfl⟩,z⟩
 ·refine⟨b.toList,r,⟨o,n,I.kIn a o c,d,f,by simpa using g⟩,?_⟩;have e:=r.length;simp at e;lia
def Inv.tuple(I:Inv X Y1 σ H s)(h:rH X.K H a xs):∃b:List ae,nY xs b/\IsTup s.heap a b.toArray/\xs.length<=q9:=by
 rcases h with h|⟨o,b,n,c,d,f,g,r⟩
 ·obtain⟨z,b,r,p⟩:=h.ok I.hok;exact⟨b,r,p.tup,z⟩
 ·refine⟨b.toList,r,⟨o,I.kIn a o c,d,n,by simpa using f⟩,?_⟩;have e:=r.length;simp at e;lia
def Inv.list_inj(I:Inv X Y1 σ H s)(h:qr X.K H a xs)(h':qr X.K H a ys):xs=ys:=by
 obtain⟨f,r,⟨o,n,e,_,_,d⟩,_⟩:=I.list h;obtain⟨g,i,⟨j,k,b,_,_,c⟩,_⟩:=I.list h';rw[e] at b;cases b;rw[d] at c;injection c with d1 _;have:f=g:=by simpa using congrArg lI d1
 subst this;exact r.inj i
def Inv.tuple_inj(I:Inv X Y1 σ H s)(h:rH X.K H a xs)(h':rH X.K H a ys):xs=ys:=by
 obtain⟨f,r,⟨o,e,_,n,d⟩,_⟩:=I.tuple h;obtain⟨g,i,⟨j,b,_,k,c⟩,_⟩:=I.tuple h';rw[e] at b;cases b;rw[d] at c;injection c with d1 _;have:f=g:=by simpa using congrArg lI d1
 subst this;exact r.inj i
end
abbrev Cx.wish(X:Cx)(E:ae->ag->Prop):Cx:={ X with xe:=E }
abbrev Cx.nox(X:Cx):Cx:=X.wish λ_ _=>False
def Cx.Ok.wish{X:Cx}(ok:X.Ok)(E:ae->ag->Prop):(X.wish E).Ok:=
 ⟨ok.mod,ok.kind,ok.glob,ok.blt,ok.above,ok.inj,ok.has,ok.cab,ok.hd,ok.frames,ok.stk,ok.exf,ok.bs,ok.bsz,ok.noex,ok.exfs,ok.funs,ok.frf⟩
def Cx.Ok.unwish{X:Cx}{E:ae->ag->Prop}(ok:(X.wish E).Ok):X.Ok:=
 ⟨ok.mod,ok.kind,ok.glob,ok.blt,ok.above,ok.inj,ok.has,ok.cab,ok.hd,ok.frames,ok.stk,ok.exf,ok.bs,ok.bsz,ok.noex,ok.exfs,ok.funs,ok.frf⟩
section
variable{X:Cx}{Y1:List (af×Obj)}{σ:St}{H:Hp}{s:ag}{E:ae->ag->Prop}
def Inv.wish(I:Inv X Y1 σ H s)(E:ae->ag->Prop):Inv (X.wish E) Y1 σ H s:=⟨I.ok.wish E,I.os,I.bare,I.base,I.loc,I.cell,I.free,I.freeC,I.pin,I.hok,I.len,I.tk⟩
def Inv.unwish(I:Inv (X.wish E) Y1 σ H s):Inv X Y1 σ H s:=⟨I.ok.unwish,I.os,I.bare,I.base,I.loc,I.cell,I.free,I.freeC,I.pin,I.hok,I.len,I.tk⟩
def SP.unwish{D:xO}{f:Flow}{s':ag}(h:SP (X.wish E) Y1 D f s'):SP X Y1 D f s':=by
 cases f with
 |next=>obtain⟨a,b,I,q⟩:=h;exact⟨a,b,I.unwish,q⟩
 |brk=>obtain⟨a,b,I,q⟩:=h;exact⟨a,b,I.unwish,q⟩
 |cont=>obtain⟨a,b,I,q⟩:=h;exact⟨a,b,I.unwish,q⟩
 |ret u=>obtain⟨v,a,b,I,r,q⟩:=h;exact⟨v,a,b,I.unwish,r,q⟩
def PE.nox(h:PE X.nox e t):PE X e t:=λY1 s σ H Q I a=>
 bZ (h Y1 s σ H Q (I.wish _) a) (λ_ _ ⟨v,b,c,r,q⟩=>⟨v,b,c.unwish,r,q⟩) λ_ _ z=>ah z
def PT.nox(h:PT X.nox e t):PT X e t:=λY1 s σ H Q I a=>
 bZ (h Y1 s σ H Q (I.wish _) a) (λ_ _ ⟨b,c,q⟩=>⟨b,c.unwish,q⟩) λ_ _ z=>ah z
def rL.nox{a:List cN}{t:TS}(h:rL X.nox a t):rL X a t:=λY1 s σ H D I b=>
 bZ (h Y1 s σ H D (I.wish _) b) (λ_ _ q=>q.unwish) λ_ _ z=>ah z
end
section
variable{X:Cx}{st:cN}{rest:List cN}{t u:TS}{e:aO}{te:TE}{pos:Pos}
def OJ:TS:=λD σ H=>D.nx σ H
def V_(t u:TS):TS:=λD σ H=>t { D with nx:=u D } σ H
def QY:rL X [] OJ:=λ_ _ a H _ I h=>fG ⟨a,H,I,h⟩
def CU(c:PS X st t)(d:rL X rest u):rL X (st::rest) (V_ t u):=by
 intro a s g H D I h;refine gg (o_ (c a s g H { D with nx:=u D } I h) λf i q=>?_);cases f with
 | next=>
  obtain⟨b,j,k,q⟩:=q;exact d a i b j D k q
 |ret v=>exact q
 |brk=>exact q
 |cont=>exact q
def QS(b:PS X st t):rL X [st] t:=by
 intro a s c H D I h;refine gg (o_ (b a s c H D I h) λf d q=>?_);cases f with
 |next=>exact fG q
 |ret v=>exact q
 |brk=>exact q
 |cont=>exact q
def Zk:PS X (.Pass pos) OJ:=λ_ _ a H _ I h=>wpAny_Pass ⟨a,H,I,h⟩
def Inv.quiet{a:List (af×Obj)}{σ:St}{H:Hp}{s:ag}(I:Inv X a σ H s):interactive X.env=qj:=by simp[interactive,I.ok.kind]
def Xa(te:TE):TS:=λD σ H=>te σ H λ_ H1=>D.nx σ H1
def Q_(c:PE X e te)(d:swapsWith e KM pos.line X.env=pure qj:=by rfl):PS X (.Expr e pos) (Xa te):=by intro a s b H D I h;exact wpAny_Expr_any (o_ (c a s b H _ I h) λv j ⟨x,f,g,k,i⟩=>⟨b,f,g,i⟩) I.quiet d
def V4(te:TE):TS:=λD σ H=>te σ H D.rt
def Yj(c:PE X e te):PS X (.Return (KF e) pos) (V4 te):=by intro a s b H D I h;exact wpAny_Return_some (o_ (c a s b H _ I h) λv j ⟨x,d,f,g,i⟩=>⟨x,b,d,f,g,i⟩)
def V9(c:TT)(t u:TS):TS:=λD σ H=>c σ H λb H1=>if b=qb then t D σ H1 else u D σ H1
def Wv{c:aO}{a b:List cN}{i:TT}(n:PT X c i)(o:rL X a t)(p:rL X b u):PS X (.If c a b pos) (V9 i t u):=by
 intro f s g H D I h;refine wpAny_If (o_ (n f s g H _ I h) λd j ⟨k,l,m⟩=>?_);cases d with
 |true=>exact o f j g k D l m
 |false=>exact p f j g k D l m
def Yv:TS:=λ_ _ _=>False
def zbh:rL X sts Yv:=λ_ _ _ _ _ _ h=>h.elim
end
abbrev TG:=V->St->Hp->(St->Hp->Prop)->Prop
abbrev Dx:=List V->St->Hp->(St->Hp->Prop)->Prop
def PG(X:Cx)(target:aO)(t:TG):Prop:=
 ∀(Y1:List (af×Obj))(s:ag)(σ:St)(H:Hp)(v:V)(u:ae)(Q:St->Hp->Prop),Inv X Y1 σ H s->RelV v u->t v σ H Q->
  ar (av X.prog X.w) X.A (assign target X.env u) (λ_ s'=>∃σ' H',Inv X Y1 σ' H' s'/\Q σ' H') X.xe s
def Ja(X:Cx)(ts:List aO)(t:Dx):Prop:=
 ∀(Y1:List (af×Obj))(s:ag)(σ:St)(H:Hp)(vs:List V)(us:List ae)(Q:St->Hp->Prop),Inv X Y1 σ H s->nY vs us->t vs σ H Q->
  ar (av X.prog X.w) X.A (assignInOrder ((gh ts X.env).map (·.2)) us) (λ_ s'=>∃σ' H',Inv X Y1 σ' H' s'/\Q σ' H') X.xe s
abbrev Jj:=V->V->V->Hp->(Hp->Prop)->Prop
def NP(X:Cx)(t:Jj):Prop:=
 ∀(Y1:List (af×Obj))(s:ag)(σ:St)(H:Hp)(o i v:V)(ov iv u:ae)(Q:Hp->Prop),Inv X Y1 σ H s->RelV o ov->RelV i iv->RelV v u->t o i v H Q->
  ar (av X.prog X.w) X.A (setItem ov iv u) (λ_ s'=>∃H',Inv X Y1 σ H' s'/\Q H') X.xe s
abbrev I_:=V->V->Hp->VK->Prop
def VB(X:Cx)(op:Operator)(t:I_):Prop:=
 ∀(Y1:List (af×Obj))(s:ag)(σ:St)(H:Hp)(x y:V)(v u:ae)(Q:VK),Inv X Y1 σ H s->RelV x v->RelV y u->t x y H Q->
  ar (av X.prog X.w) X.A (inplaceOp op v u) (EP X Y1 σ Q) X.xe s
section
variable{X:Cx}{pos:Pos}
def zh(i:Nat):TG:=λv σ H Q=>Q (σ.set i (KF v)) H
def Hd(b:X.N.Nodup)(c:X.N[i]?=KF x)(d:Loc X.env.scope x)(e:X.fn x=qb\/X.env.scope.names.lookup x=KF .local:=by first|exact .inl rfl|exact .inr rfl|assumption):PG X (.Name x pos) (zh i):=by intro a s g H v u Q I r h;exact jx (En I b c d r (λj f=>⟨_,H,f,h⟩) e)
def NA:Dx:=λvs σ H Q=>vs=[]/\Q σ H
def JJ(t:TG)(u:Dx):Dx:=λvs σ H Q=>∃v r,vs=v::r/\t v σ H λσ' H'=>u r σ' H' Q
def zg0:Ja X [] NA:=by intro a s b H c d Q I r h;obtain⟨e,h⟩:=h;subst e;exact assignInOrder_nil ⟨b,H,I,h⟩
def Sh{e:aO}{b:List aO}{t:TG}{u:Dx}(c:PG X e t)(d:Ja X b u)
  (f:(gh (e::b) X.env).map (·.2)=assign e X.env::(gh b X.env).map (·.2):=by rfl):Ja X (e::b) (JJ t u):=by
 intro a s g H o p Q I r h;obtain⟨v,q,i,h⟩:=h;subst i;cases r with
 | cons r rr=>
  rw[f];exact assignInOrder_cons (o_ (c a s g H _ _ _ I r h) λ_ j ⟨k,l,m,n⟩=>(d a j k l _ _ Q m rr n))
noncomputable def NO(K:ai)(n:Nat)(t:Dx):TG:=λv σ H Q=>∃a xs,v=.ref a/\rH K H a xs/\xs.length=n/\t xs σ H Q
def Yc(g:X.calm=qb)(h:Ja X es t)
  (i:(gh es X.env).length=n:=by rfl) (j:(gh es X.env).findIdx? (·.1)=KM:=by rfl):PG X (.Tuple es k pos) (NO X.K n t):=by intro c s l H v u Q I r d;obtain⟨a,m,p,q,w,d⟩:=d;subst p;cases r;obtain⟨A,f,x,B⟩:=I.tuple q;refine assign_Tuple_tuple (I.ok.hd g) x (by simp[i,<- w,f.length]) j λC y=>?_;have z:=I.kept λb o e=>y b o (bu (aI e)) e;exact h c _ l H m _ Q z ⇑f d
def z7(to ti:TE)(t:Jj):TG:=λv σ H Q=>to σ H λo H1=>ti σ H1 λi H2=>t o i v H2 λH3=>Q σ H3
def X3{o i:aO}{e f:TE}{t:Jj}(g:PE X o e)(j:PE X i f)(k:NP X t)
  (G:∀v,assign (.Subscript o i pos) X.env v=(do
   let b <- holding [v] (eval o X.env);let c <- holding [v,b] (eval i X.env)
   standAt pos
   holding [v,b,c] (setItem b c v)
   release [v,b,c] []):=by intro _;rfl):PG X (.Subscript o i pos) (z7 e f t):=by intro a s d H v u Q I r h;refine aa (bI (o_ (g a s d H _ I h) λb l ⟨x,m,n,p,q⟩=>?_));refine aa (bI (o_ (j a l d m _ n q) λc w ⟨y,z,A,B,C⟩=>?_));refine aa (fg (aa (bI (o_ (k a w d z x y v b c u _ A p B r C) λ_ J ⟨D,E,F⟩=>?_))));exact wpAny_release ⟨d,D,E,F⟩
def Co(te:TE)(g:TG):TS:=λD σ H=>te σ H λx H1=>g x σ H1 D.nx
def JZ{b e:aO}{te:TE}{g:TG}(d:PE X e te)(f:PG X b g)(i:gn [b] e pos.line X.env=pure qj:=by rfl)(j:gp [b] e X.env=pure KM:=by rfl)
  (k:(gh [b] X.env).map (·.2)=[assign b X.env]:=by rfl):PS X (.Assign [b] e pos) (Co te g):=by intro a s c H D I h;refine wpAny_Assign_stores (o_ (d a s c H _ I h) λv l ⟨x,m,n,o,p⟩=>?_) i j;rw[k];exact o_ (f a l c m x v _ n o p) λ_ r q=>q
def JU{i:Nat}{x:au}{e:aO}{te:TE}{pos':Pos}(b:X.N.Nodup)(c:X.N[i]?=KF x)(d:Loc X.env.scope x)(f:PE X e te)(g:swapsWith e (KF (.Name x pos')) pos.line X.env=pure qj:=by rfl)(j:X.fn x=qb\/X.env.scope.names.lookup x=KF .local:=by first|exact .inl rfl|exact .inr rfl|assumption):
  PS X (.Assign [.Name x pos'] e pos) (Co te (zh i)):=by intro a s k H D I h;refine wpAny_Assign_Name (o_ (f a s k H _ I h) λv q ⟨y,l,m,n,o⟩=>?_) g;exact En m b c d n (λr p=>⟨_,l,p,o⟩) j
def Wk(i:Nat)(te:TE)(ti:I_):TS:=λD σ H=>∃x,σ[i]?=KF (KF x)/\te σ H λy H1=>ti x y H1 λz H2=>D.nx (σ.set i (KF z)) H2
def XS{i:Nat}{x:au}{e:aO}{te:TE}{op:Operator}{f:I_}{pos':Pos}(o:X.N.Nodup)(g:X.N[i]?=KF x)(b:Loc X.env.scope x)(p:PE X e te)(q:VB X op f)(t:X.fn x=qb\/X.env.scope.names.lookup x=KF .local:=by first|exact .inl rfl|exact .inr rfl|assumption):
  PS X (.AugAssign (.Name x pos') op e pos) (Wk i te f):=by
 intro a s j H D I h;obtain⟨v,B,h⟩:=h;obtain⟨m,C,E⟩:=I.loc;have d:rG X.env.scope x:=by rcases b with k|k;exact .inl k;exact .inr (.inl k)
 obtain⟨u,r,l⟩:=E i x v g B d;refine wpAny_AugAssign_Name ?_;have n:ar (av X.prog X.w) X.A (eval e X.env) (λw F=>ar (av X.prog X.w) X.A (inplaceOp op u w) (λr G=>ar (av X.prog X.w) X.A (storeName X.env x r) (λ_=>SP X a D .next) X.xe G) X.xe F) X.xe s:=by
  refine o_ (p a s j H _ I h) λw J ⟨y,K,L,M,O⟩=>?_;exact o_ (q a J j K v y u w _ L r M O) λz Y ⟨Z,P,Q,R,S⟩=>(En Q o g b R (λs3 T=>⟨_,P,T,S⟩) t)
 rcases l with⟨hk,U⟩|⟨hk,c,V,W⟩
 ·exact iK I.ok.kind hk C U n
 ·rcases hk with hk|hk
  ·exact i4 I.ok.kind hk V W n
  ·rcases b with k|k
   ·have:X.env.scope.names.lookup x=KF .free:=hk;rw[k] at this;cases this
   ·have:X.env.scope.names.lookup x=KF .free:=hk;rw[k] at this;cases this
def ipI(f:Int->Int->Int):I_:=λx y H Q=>∃i j,x=.int i/\y=.int j/\Q (.int (f i j)) H
def Xy:VB X .Add (ipI λi j=>i+j):=by intro a s f H x y v u Q I b c h;obtain⟨i,j,d,e,q⟩:=h;subst d;subst e;obtain⟨t,rfl⟩:=b;obtain⟨g,rfl⟩:=c;exact iadd_int ⟨.int _,H,I.tok _,⟨_,rfl⟩,q⟩
end
section
variable{X:Cx}{pos:Pos}
noncomputable def Ye(c:TT)(tb:TS):TS:=λD σ H=>∃W:Nat->St->Hp->Prop,(∃m,W m σ H)/\∀m σ H,W m σ H->
 c σ H λb H1=>if b=qb then ∃N:St->Hp->Prop,(∀σ' H',N σ' H'->∃m',m'<m/\W m' σ' H')/\tb { D with nx:=N,ct:=N,bk:=D.nx } σ H1 else D.nx σ H1
def ze7{c:aO}{body:List cN}{t:TT}{u:TS}(x:ji (av X.prog X.w) X.A X.env X.xe)(F:PT X c t)(G:rL X body u):PS X (.While c body [] pos) (Ye t u):=by
 intro a s J H D I h;obtain⟨W,⟨K,L⟩,d⟩:=h;refine wpAny_While (codeAny_whileLoop (λn M=>∃e y,Inv X a e y M/\W n e y) ?_ K ⟨J,H,I,L⟩);rintro n O ⟨j,z,P,Q⟩;refine eZ x (o_ (F a O j z _ P (d n j z Q)) λb R ⟨B,C,k⟩=>?_);cases b with
 | true=>
  obtain⟨N,E,k⟩:=k;refine eZ x (o_ (G a R j B _ C k) λf S l=>?_);cases f with
  | next=>
   obtain⟨g,i,m,o⟩:=l;obtain⟨p,q,r⟩:=E g i o;exact⟨p,q,g,i,m,r⟩
  | cont=>
   obtain⟨g,i,m,o⟩:=l;obtain⟨p,q,r⟩:=E g i o;exact⟨p,q,g,i,m,r⟩
  |brk=>exact l
  |ret v=>exact l
 | false=>
  exact fG ⟨j,B,C,k⟩
end
structure It where
 go:Nat->Hp->Prop
 yld:Nat->Hp->V->Hp->Prop
 stop:Nat->Hp->Prop
def rS(X:Cx)(Y1:List (af×Obj))(H:Hp)(b:af):Prop:=
 H b=KM/\b≠X.env.locals/\b∉X.fs/\(b∈X.ex\/X.s₀.heap.objs.size<=b)/\(∀x c,X.env.cells.lookup x=KF c->c≠b)/\∀p∈X.pn++Y1,p.1≠b
def Inv.fpOk(I:Inv X Y1 σ H s)(a:s.heap.objs.size<=b)(d:H' b=KM):rS X Y1 H' b:=by
 refine⟨d,dQ (aY I.lt a),I.nofs a,.inr (aF I.sz a),λx c e z=>?_,λp f z=>?_⟩
 ·obtain⟨v,q⟩:=I.cell x c e;exact absurd (aY q.lt (by rw[z];exact a)) (bU _)
 ·exact absurd (aY (aI (I.pin p f).1) (by rw[z];exact a)) (bU _)
structure xt(P:aD)(w:aR)(K:ai)(tg:aO)(J:It)(fp:List af)(it:af)(tn:Nat->aL->Prop):Prop where
 mem:it∈fp
 obj:∀i h,tn i h->∀b∈fp,∃o,h.get? b=KF o/\∀v,o.data ≠ .cell v
 keep:∀i h h',tn i h->(∀b∈fp,∀o,h.get? b=KF o->h'.get? b=KF o)->tn i h'
 item:∀(X:Cx),X.prog=P->X.w=w->X.K=K->X.calm=qb->∀(i:Nat)(Y1:List (af×Obj))(s:ag)(σ:St)(H:Hp)(E:ae->ag->Prop),Inv X Y1 σ H s->(∀b∈fp,rS X Y1 H b)->tn i s.heap->J.go i H->
  ar (av P w) X.A (pyNext (.ref it)) (λr s1=>∃u,r=KF u/\
   ar (av P w) X.A (letOwnedTupleGo tg (.ref it) u) (λ_ s2=>∃x H',Inv X Y1 σ H' s2/\RelV x u/\J.yld i H x H'/\tn (i+1) s2.heap/\∀b∈fp,H' b=KM) E s1) E s
 done:∀(X:Cx),X.prog=P->X.w=w->X.K=K->X.calm=qb->∀(i:Nat)(Y1:List (af×Obj))(s:ag)(σ:St)(H:Hp)(E:ae->ag->Prop),Inv X Y1 σ H s->(∀b∈fp,rS X Y1 H b)->tn i s.heap->J.stop i H->
  ar (av P w) X.A (pyNext (.ref it)) (λr s1=>r=KM/\Inv X Y1 σ H s1) E s
 self:∀(A:aU)(i:Nat)(s:ag)(Q:ae->ag->Prop)(E:ae->ag->Prop),tn i s.heap->Q (.ref it) s->ar (av P w) A (pyIter (.ref it)) Q E s
abbrev TI:=St->Hp->(It->Hp->Prop)->Prop
def VC(X:Cx)(Y1:List (af×Obj))(σ:St)(tg:aO)(R:It->Hp->Prop)(Fb:ae)(s2:ag):Prop:=
 ∃(it:af)(fp:List af)(tn:Nat->aL->Prop)(J:It)(H':Hp),Fb=.ref it/\Inv X Y1 σ H' s2/\xt X.prog X.w X.K tg J fp it tn/\tn 0 s2.heap/\(∀b∈fp,rS X Y1 H' b)/\R J H'
def PI(X:Cx)(tg iter:aO)(wi:TI):Prop:=
 ∀(Y1:List (af×Obj))(s:ag)(σ:St)(H:Hp)(R:It->Hp->Prop),Inv X Y1 σ H s->wi σ H R->
  ar (av X.prog X.w) X.A (eval iter X.env) (λv s1=>ar (av X.prog X.w) X.A (pyIter v) (VC X Y1 σ tg R) X.xe s1) X.xe s
def DN(b:s.heap.get? it=KF o)(c:o.cls=.type n)(d:o.data=.fields vs)
  (e:["enumerate", "zip", "dict_itemiterator", "dict_reverseitemiterator", "odict_iterator", "itertools.zip_longest", "itertools.pairwise"].contains n=qj) (a:Q () s):ar M A (letOwnedTupleGo tg (.ref it) u) Q E s:=by
 cases tg<;>first
  |exact ao a
  | (cases u<;>first
    |exact ao a
    | (refine aa (wpAny_load b ?_)
       rw[c,d];show ar M A (if (["enumerate", "zip", "dict_itemiterator", "dict_reverseitemiterator", "odict_iterator", "itertools.zip_longest", "itertools.pairwise"].contains n&&vs[0]?==KF (di _))=qb then _ else _) Q E s;rw[q0 (by intro h;rw[e,m7] at h;cases h)];exact ao a))
noncomputable def Nr(K:ai)(a:af):It:=
 ⟨λi H=>∃xs x,qr K H a xs/\xs[i]?=KF x,λi H x H'=>H'=H/\∀xs,qr K H a xs->xs[i]?=KF x,λi H=>∃xs,qr K H a xs/\xs.length<=i⟩
noncomputable def Np(K:ai)(a:af):It:=
 ⟨λi H=>∃xs x,rH K H a xs/\xs[i]?=KF x,λi H x H'=>H'=H/\∀xs,rH K H a xs->xs[i]?=KF x,λi H=>∃xs,rH K H a xs/\xs.length<=i⟩
noncomputable def Jd(lo:Int)(n:Nat):It:=⟨λi _=>i<n,λi H x H'=>H'=H/\x=.int (lo+i),λi _=>n<=i⟩
def SJ{P:aD}{w:aR}{K:ai}{N:aO}(a it:af):xt P w K N (Nr K a) [it] it (λi h=>h.IsListIter it a i) where
 mem:=by simp
 obj:=λi h f b g=>by
  have e:b=it:=⇑g
  subst e;obtain⟨o,e,c,d⟩:=f;exact⟨o,e,λv z=>by rw[d] at z;cases z⟩
 keep:=λi h J f k=>f.at λo e=>k it 'd' o e
 item:=by
  intro X n q r L i j s O H E I l f t;subst n q r;obtain⟨Q,x,m,y⟩:=t;obtain⟨R,A,p,S⟩:=I.list m;obtain⟨u,T,U⟩:=A.get y;obtain⟨B,C,V,D,F,G⟩:=l it 'd';refine wpAny_pyNext_list_item f p.isList ⇑T λJ M W=>?_;have Y:=I.turned (λb o g e=>(W.2 b g).trans e) B C D F G;obtain⟨o,e,c,d⟩:=id M;exact⟨u,rfl,DN e c d 's' ⟨x,H,Y,U,⟨rfl,λys Z=>by rw[I.list_inj Z m];exact y⟩,M,λb g=>(l b g).1⟩⟩
 done:=by
  intro X n q r L i j s O H E I l f t;subst n q r;obtain⟨Q,m,y⟩:=t;obtain⟨R,A,p,S⟩:=I.list m;obtain⟨B,C,V,D,F,G⟩:=l it 'd';have hl:=A.length;exact wpAny_pyNext_list_end (I.ok.hd L) f p.isList (by simp;lia) λJ eb=>⟨rfl,I.turned (λb o g e=>eb b o g e) B C D F G⟩
 self:=λ_ _ _ _ _ f h=>wpAny_pyIter_listiter f h
def zas{P:aD}{w:aR}{K:ai}{N:aO}(a it:af):xt P w K N (Np K a) [it] it (λi h=>h.IsTupleIter it a i) where
 mem:=by simp
 obj:=λi h f b g=>by
  have e:b=it:=⇑g
  subst e;obtain⟨o,e,c,d⟩:=f;exact⟨o,e,λv z=>by rw[d] at z;cases z⟩
 keep:=λi h J f k=>f.at λo e=>k it 'd' o e
 item:=by
  intro X n q r L i j s O H E I l f t;subst n q r;obtain⟨Q,x,m,y⟩:=t;obtain⟨R,A,p,S⟩:=I.tuple m;obtain⟨u,T,U⟩:=A.get y;obtain⟨B,C,V,D,F,G⟩:=l it 'd';refine wpAny_pyNext_tuple_item f (p) ⇑T λJ M W=>?_;have Y:=I.turned (λb o g e=>(W.2 b g).trans e) B C D F G;obtain⟨o,e,c,d⟩:=id M;exact⟨u,rfl,DN e c d 's' ⟨x,H,Y,U,⟨rfl,λys Z=>by rw[I.tuple_inj Z m];exact y⟩,M,λb g=>(l b g).1⟩⟩
 done:=by
  intro X n q r L i j s O H E I l f t;subst n q r;obtain⟨Q,m,y⟩:=t;obtain⟨R,A,p,S⟩:=I.tuple m;obtain⟨B,C,V,D,F,G⟩:=l it 'd';have hl:=A.length;exact wpAny_pyNext_tuple_end (I.ok.hd L) f (p) (by simp;lia) λJ eb=>⟨rfl,I.turned (λb o g e=>eb b o g e) B C D F G⟩
 self:=λ_ _ _ _ _ f h=>wpAny_pyIter_tupleiter f h
def zad{P:aD}{w:aR}{K:ai}{D:aO}(it:af)(lo:Int)(n:Nat):xt P w K D (Jd lo n) [it] it (λi h=>IsRangeIter h it (lo+(i:Nat)*1) ((n:Int)-(i:Nat)) 1) where
 mem:=by simp
 obj:=λi h a b d=>by
  have e:b=it:=⇑d
  subst e;exact⟨_,a,λv z=>by
   have F:=z;cases F⟩
 keep:=λi h g a k=>k it 'd' _ a
 item:=by
  intro X x y A j i c s B H E I f a l;subst x y A;obtain⟨m,p,G,q,r,u⟩:=f it 'd';have W:=Walks.range (prog:=X.prog) (w:=X.w) (I.ok.hd j) it lo 1 n;refine e8 I.tk (W.item i s _ _ l a λv g J L C M Q=>?_);obtain⟨t,rfl⟩:=L;have N:Inv X c B H { s with heap:=g,toks:=J }:=I.turned (λb o d e=>M b o ⇑d e) m p q r u;refine⟨_,rfl,DN C rfl rfl 's' ⟨.int (lo+i),H,N,⟨t,?_⟩,⟨rfl,rfl⟩,C,λb d=>(f b d).1⟩⟩;rw[Int.mul_one]
 done:=by
  intro X x y A j i c s B H E I f a l;obtain⟨m,p,G,q,r,u⟩:=f it 'd';exact wpAny_pyNext_range_end (I.ok.hd j) a (by have:n<=i:=l;lia) λg O=>⟨rfl,I.turned (λb o d e=>O b o d e) m p q r u⟩
 self:=λ_ _ _ _ _ a h=>wpAny_pyIter_rangeiter a h
section
variable{X:Cx}{tg:aO}
def zek{a:List (af×Obj)}{σ:St}{H:Hp}{s:ag}{R:It->Hp->Prop}{E:ae->ag->Prop}{lo c:Int}{t u v:Tok}{tk:Nat}(I:Inv X a σ H s)(f:-(2 ^ 62)<=lo)(g:lo<2 ^ 62)(h:-(2 ^ 62)<=c)(i:c<2 ^ 62)
  (q:R (Jd lo (c-lo).toNat) H) (m:0<tk):ar (av X.prog X.w) X.A (pyIter (.ref s.heap.objs.size)) (VC X a σ tg R) E { s with heap:=s.heap.push { cls:=.type "range",data:=.fields #[.int lo t,.int c u,.int 1 v] },toks:=tk }:=by
 refine wpAny_pyIter_range (IsRange.new ..) (small_one f g h i) ?_;have d:Inv X a σ H { s with heap:=s.heap.push { cls:=.type "range",data:=.fields #[.int lo t,.int c u,.int 1 v] },toks:=tk }:=I.kept λb o e=>aj _ e;refine⟨(s.heap.push { cls:=.type "range",data:=.fields #[.int lo t,.int c u,.int 1 v] }).objs.size,[(s.heap.push { cls:=.type "range",data:=.fields #[.int lo t,.int c u,.int 1 v] }).objs.size],_,_,H,rfl,
  d.kept λb o e=>aj _ e,zad _ lo (c-lo).toNat,?_,λb j=>?_,q⟩
 ·have k:lo+((0:Nat):Int)*1=lo:=by simp
  have l:(((c-lo).toNat:Nat):Int)-((0:Nat):Int)=Builtin.Range.rangeSize lo c 1:=by rw[rangeSize_one];split<;>lia
  rw[k,l];exact aN _ rfl
 ·have e:b=(s.heap.push { cls:=.type "range",data:=.fields #[.int lo t,.int c u,.int 1 v] }).objs.size:=⇑j
  subst e;exact d.fpOk (aE _) (d.hok.fresh (aE _))
def WG(ta:TA):TI:=λσ H R=>ta σ H λvs H1=>∃j:Int,vs=[.int j]/\-(2 ^ 62)<=j/\j<2 ^ 62/\R (Jd 0 j.toNat) H1
def zaA{a:aO}{d:TA}{p pos:Pos}(g:Gl X "range")(i:X.mg "range" = KM)(k:PA X [a] d)(l:aA [a] X.env=[(qj,eval a X.env)]:=by rfl):PI X tg (.Call (.Name "range" p) [a] [] pos) (WG d):=by
 intro b s m H R I h;refine kR (Be I g i boot_range (eS (o_ (k pos b s m H _ I h) λu v ⟨w,x,f,n,c⟩=>?_) l rfl));obtain⟨j,e,c,o,q⟩:=c;subst e;cases n with
 | cons r rr=>
  cases rr;obtain⟨t,rfl⟩:=r;exact call_range_1 (zek f 'o' 'o' c o ⇑q (by first|exact cU _|exact f.tk))
noncomputable def VP(wi:TI)(g:TG)(tb:TS):TS:=λD σ H=>wi σ H λJ H1=>∃W:Nat->Nat->St->Hp->Prop,(∃m,W 0 m σ H1)/\∀i m σ H,W i m σ H->
 (J.stop i H/\D.nx σ H)\/(J.go i H/\∃N:St->Hp->Prop,(∀σ' H',N σ' H'->∃m',m'<m/\W (i+1) m' σ' H')/\∀x H',J.yld i H x H'->g x σ H' λrR H2=>tb { D with nx:=N,ct:=N,bk:=D.nx } rR H2)
def D2(fp:List af)(h:aL):List (af×Obj):=fp.filterMap λb=>(h.get? b).map λo=>(b,o)
def HM(a:b∈fp)(e:h.get? b=KF o):(b,o)∈D2 fp h:=gM.mpr ⟨b,a,by rw[e];rfl⟩
def zb4(a:p∈D2 fp h):p.1∈fp/\h.get? p.1=KF p.2:=by
 obtain⟨b,c,e⟩:=gM.mp a;cases q:h.get? b with
 |none=>rw[q] at e;cases e
 | some o=>
  rw[q] at e;have d:=cn e;subst d;exact⟨c,q⟩
def Inv.pinned(I:Inv X Y1 σ H s)(f:∀b∈fp,rS X Y1 H b)(g:∀b∈fp,∃o,s.heap.get? b=KF o/\∀v,o.data ≠ .cell v):Inv X (Y1++D2 fp s.heap) σ H s:=
 I.pins_of λp h=>(aS.mp h).elim (λz=>I.pin p (aw _ z)) λz=>by
  obtain⟨a,e⟩:=zb4 z;obtain⟨i,j,k,_⟩:=f p.1 a;obtain⟨o,c,d⟩:=g p.1 a;rw[e] at c;cases c;exact⟨e,i,j,k,d⟩
def Inv.unpinned(I:Inv X (Y1++pl) σ H s):Inv X Y1 σ H s:=I.pins_of λp a=>I.pin p (aw _ (bN _ a))
def PK(z:ji (av X.prog X.w) X.A X.env X.xe)(U:X.calm=qb)(hi:PI X tg iter wi)(hg:PG X tg g)(c:rL X body tb)
  (hs:∀x,bT iter X.env x=pure x:=by intro _;rfl):PS X (.For tg iter body [] pos) (VP wi g tb):=by
 intro a s V H D I h;refine wpAny_For (o_ (hi a s V H _ I h) λv s1 h1=>o_ h1 λFb s2 h2=>?_) hs;obtain⟨it,B,Y,J,H2,e,I2,T,pO,Z,W,⟨m0,w0⟩,C⟩:=h2;subst e
 -- what stays qb of yO BA objects through yO loop
 have M:∀{t:Hp},(∀b∈B,t b=KM)->∀b∈B,rS X a t b:=λhn b c=>⟨hn b c,(Z b c).2⟩;refine codeAny_forLoop_any (λn s'=>∃i j t,Inv X a j t s'/\Y i s'.heap/\(∀b∈B,t b=KM)/\W i n j t) ?_ m0 ⟨0,V,H2,I2,pO,λb c=>(Z b c).1,w0⟩;rintro n s3 ⟨i,E,L,I3,pH,IW,w3⟩;rcases C i n E L w3 with⟨F,qn⟩|⟨go,N,hN,G⟩
 ·refine eZ z (o_ (T.done X rfl rfl rfl U i a s3 E L X.xe I3 (M IW) pH F) λr s4 ⟨O,I4⟩=>?_);subst O;exact fG ⟨E,L,I4,qn⟩
 ·refine eZ z (o_ (T.item X rfl rfl rfl U i a s3 E L X.xe I3 (M IW) pH go) λr s4 ⟨u,O,h4⟩=>?_);subst O;refine eZ z (o_ h4 λ_ s5 ⟨x,H5,I5,r5,y5,P,Q⟩=>?_);have R:=I5.pinned (M Q) (T.obj _ _ P);refine eZ z (o_ (hg _ s5 E H5 x u _ R r5 (G x H5 y5)) λ_ s6 ⟨Ny,H6,I6,q6⟩=>(eZ z (o_ (c _ s6 Ny H6 _ I6 q6) λf S y=>?_)));have k:∀{l:St}{p:Hp},Inv X (a++D2 B s5.heap) l p S->N l p->∃m,m<n/\∃i j t,Inv X a j t S/\Y i S.heap/\(∀b∈B,t b=KM)/\W i m j t:=λ{l p}q K=>by
   obtain⟨m',hm,w7⟩:=hN l p K;refine⟨m',hm,i+1,l,p,q.unpinned,T.keep _ _ _ P λb c o e=>(q.pin (b,o) (aw _ (aw _ (HM c e)))).1,λb c=>?_,w7⟩;obtain⟨o,e,d⟩:=T.obj _ _ P b c;exact(q.pin (b,o) (aw _ (aw _ (HM c e)))).2.1
  cases f with
  |next=>obtain⟨l,p,q,K⟩:=y;exact k q K
  |cont=>obtain⟨l,p,q,K⟩:=y;exact k q K
  |brk=>obtain⟨l,p,q,y⟩:=y;exact⟨l,p,q.unpinned,y⟩
  |ret v=>obtain⟨x7,l,p,q,r7,y⟩:=y;exact⟨x7,l,p,q.unpinned,r7,y⟩
end
abbrev R2:=V->V->Hp->VK->Prop
def qm(X:Cx)(f:ae->ae->Sem ae)(r:R2):Prop:=
 ∀(Y1:List (af×Obj))(s:ag)(σ:St)(H:Hp)(x y:V)(v u:ae)(Q:VK),Inv X Y1 σ H s->RelV x v->RelV y u->r x y H Q->
  ar (av X.prog X.w) X.A (f v u) (EP X Y1 σ Q) X.xe s
def oh(X:Cx)(f:ae)(r:List V->Hp->VK->Prop):Prop:=
 ∀(Y1:List (af×Obj))(s:ag)(σ:St)(H:Hp)(xs:List V)(us:List ae)(Q:VK),Inv X Y1 σ H s->nY xs us->r xs H Q->
  ar (av X.prog X.w) X.A (call f us) (EP X Y1 σ Q) X.xe s
def VQ(X:Cx)(r:V->Hp->(Bool->Hp->Prop)->Prop):Prop:=
 ∀(Y1:List (af×Obj))(s:ag)(σ:St)(H:Hp)(x:V)(v:ae)(Q:Bool->Hp->Prop),Inv X Y1 σ H s->RelV x v->r x H Q->
  ar (av X.prog X.w) X.A (truthy v) (TP X Y1 σ Q) X.xe s
def EN(r:R2)(ta tb:TE):TE:=λσ H Q=>ta σ H λx H1=>tb σ H1 λy H2=>r x y H2 Q
def rI(C:Int->Int->Prop)(g:Int->Int->V):R2:=λx y H Q=>∃i j,x=.int i/\y=.int j/\C i j/\Q (g i j) H
def uP(g:Int->Int->V):R2:=λx y H Q=>∃i j,x=.int i/\y=.int j/\Q (g i j) H
section
variable{X:Cx}{a b:aO}{ta tb:TE}{pos:Pos}
def Jr(i:PE X a ta)(j:PE X b tb){c:List (af×Obj)}{s:ag}{σ:St}{H:Hp}{R:V->V->Hp->Prop}(I:Inv X c σ H s)
  (h:ta σ H λx g=>tb σ g λy d=>R x y d) {Q:ae->ag->Prop} {f:ae->ae->Sem ae}
  (k:∀v u e x y d,Inv X c σ d e->RelV x v->RelV y u->R x y d->ar (av X.prog X.w) X.A (f v u) Q X.xe e):
  ar (av X.prog X.w) X.A (eval a X.env) (λv l=>ar (av X.prog X.w) X.A (eval b X.env) (λu m=>ar (av X.prog X.w) X.A (f v u) Q X.xe m) X.xe l) X.xe s:=by refine o_ (i c s σ H _ I h) λv n ⟨x,g,o,p,q⟩=>?_;exact o_ (j c n σ g _ o q) λu e ⟨y,d,r,t,z⟩=>(k v u e x y d r p t z)
def WQ{op:Operator}{r:R2}(d:qm X (d9 op) r)(e:PE X a ta)(f:PE X b tb):PE X (.BinOp a op b pos) (EN r ta tb):=by intro c s g H Q I h;exact wpAny_BinOp (Jr e f I h λv u i x y j k l m q=>d c i g j x y v u Q k l m q)
def ER{f:ae->ae->Sem ae}{C:Int->Int->Prop}{g:Int->Int->Int}
  (c:∀(i j:Int)(t u:Tok)(s:ag)(Q:ae->ag->Prop)(E:ae->ag->Prop),C i j->Q (.int (g i j) s.toks) { s with toks:=s.toks+1 }->ar (av X.prog X.w) X.A (f (.int i t) (.int j u)) Q E s):
  qm X f (rI C λi j=>.int (g i j)):=by intro d s n H x y v u Q I e k h;obtain⟨i,j,rfl,rfl,l,q⟩:=h;obtain⟨t,rfl⟩:=e;obtain⟨m,rfl⟩:=k;exact c i j t m s _ _ l ⟨.int (g i j),H,I.tok _,⟨_,rfl⟩,q⟩
def Gn{f:ae->ae->Sem ae}{g:Int->Int->Int}
  (c:∀(i j:Int)(t u:Tok)(s:ag)(Q:ae->ag->Prop)(E:ae->ag->Prop),Q (.int (g i j) s.toks) { s with toks:=s.toks+1 }->ar (av X.prog X.w) X.A (f (.int i t) (.int j u)) Q E s):
  qm X f (uP λi j=>.int (g i j)):=by intro d s m H x y v u Q I e k h;obtain⟨i,j,rfl,rfl,q⟩:=h;obtain⟨t,rfl⟩:=e;obtain⟨l,rfl⟩:=k;exact c i j t l s _ _ ⟨.int (g i j),H,I.tok _,⟨_,rfl⟩,q⟩
def Ji{f:ae->ae->Sem ae}{g:Int->Int->Bool}
  (c:∀(i j:Int)(t u:Tok)(s:ag)(Q:ae->ag->Prop)(E:ae->ag->Prop),Q (.bool (g i j)) s->ar (av X.prog X.w) X.A (f (.int i t) (.int j u)) Q E s):
  qm X f (uP λi j=>.bl (g i j)):=by intro d s m H x y v u Q I e k h;obtain⟨i,j,rfl,rfl,q⟩:=h;obtain⟨t,rfl⟩:=e;obtain⟨l,rfl⟩:=k;exact c i j t l s _ _ ⟨.bl (g i j),H,I,rfl,q⟩
def NK(i j:Int):Prop:=0<j/\j<1073741824
def Gm(i j:Int):Prop:=0<=j/\j<=1000000/\i.natAbs<2 ^ 64
def oR(i j:Int):Prop:=(-(2 ^ 64)<i/\i<2 ^ 64)\/(-(2 ^ 64)<j/\j<2 ^ 64)
def oR.ok(h:oR i j):IntMulOk i j:=by
 rcases h with⟨c,d⟩|⟨c,d⟩
 ·exact .of_left (intBits_le_64 c d)
 ·exact .of_right (intBits_le_64 c d)
def Xh:qm X (d9 .Add) (uP λi j=>.int (i+j)):=Gn λ_ _ _ _ _ _ _ q=>add_int q
def Ym:qm X (d9 .Sub) (uP λi j=>.int (i-j)):=Gn λ_ _ _ _ _ _ _ q=>sub_int q
def Yx:qm X (d9 .Mult) (rI oR λi j=>.int (i*j)):=ER λ_ _ _ _ _ _ _ c q=>mul_int q c.ok
def ZI:qm X (d9 .FloorDiv) (rI NK λi j=>.int (i/j)):=ER λi j _ _ _ _ _ c q=>by
 have d:=c.1;have e:=c.2;exact floordiv_int 'o' (by rw[Int.fdiv_eq_ediv_of_nonneg i 'o'];exact q) (.inl (PyProof.noPylong_small 'o'))
def Ys:qm X (d9 .Mod) (rI (λ_ j=>0<j) λi j=>.int (i%j)):=ER λi j _ _ _ _ _ c q=>by
 exact mod_int' 'o' (by rw[Int.fmod_eq_emod_of_nonneg i 'o'];exact q)
def X7:qm X (d9 .Pow) (rI Gm λi j=>.int (i ^ j.toNat)):=ER λ_ _ _ _ _ _ _ c q=>pow_int_small c.1 c.2.1 c.2.2 q
def W1:qm X (d9 .LShift) (rI Gm λi j=>.int (i*2 ^ j.toNat)):=ER λ_ _ _ _ _ _ _ c q=>lshift_int_small c.1 c.2.1 c.2.2 q
def Xq:qm X (d9 .BitAnd) (uP λi j=>.int (g8 i j)):=Gn λ_ _ _ _ _ _ _ q=>and_int q
def Wx:qm X (d9 .BitOr) (uP λi j=>.int (io i j)):=Gn λ_ _ _ _ _ _ _ q=>or_int q
end
section
variable{X:Cx}{a b c:aO}{ta tb tc:TE}{pos:Pos}
def J0(I:Inv X Y1 σ H s)(q:Q (.bl k) H)(e:k=k'):EP X Y1 σ Q (.bool k') s:=by subst e;exact⟨.bl k,H,I,rfl,q⟩
def OD:qm X (cm .Lt) (uP λi j=>.bl (decide (i<j))):=Ji λ_ _ _ _ _ _ _ q=>lt_int q
def Of:qm X (cm .LtE) (uP λi j=>.bl (decide (i<=j))):=Ji λ_ _ _ _ _ _ _ q=>le_int q
def Od:qm X (cm .GtE) (uP λi j=>.bl (decide (j<=i))):=Ji λ_ _ _ _ _ _ _ q=>ge_int q
def zbT:qm X (cm .In) (λx y H Q=>∃i j,x=.str i/\y=.str j/\Q (.bl (!(bQ j i 0 j.length 1).isEmpty)) H):=by intro d s g H x y v u Q I e f h;obtain⟨i,j,rfl,rfl,q⟩:=h;obtain⟨t,rfl⟩:=e;obtain⟨k,rfl⟩:=f;exact in_str (J0 I q rfl)
def XA:qm X (cm .Is) (λx y H Q=>y=.non/\Q (.bl (decide (x=.non))) H):=by
 intro d s g H x y v u Q I e f h;obtain⟨rfl,q⟩:=h;cases f;refine is_none_gen (J0 I q ?_);cases x<;>first
  |(cases e;rfl)
  |(obtain⟨t,rfl⟩:=e;rfl)
def z6U:qm X (cm .NotIn) (λx y H Q=>∃i j,x=.str i/\y=.str j/\Q (.bl (!(!(bQ j i 0 j.length 1).isEmpty))) H):=by intro d s g H x y v u Q I e f h;obtain⟨i,j,rfl,rfl,q⟩:=h;obtain⟨t,rfl⟩:=e;obtain⟨k,rfl⟩:=f;exact notIn_str (J0 I q rfl)
def qm.or(h:qm X f r)(h':qm X f r'):qm X f (λx y H Q=>r x y H Q\/r' x y H Q):=by
 intro d s e H x y v u Q I g i q;rcases q with q|q
 ·exact h d s e H x y v u Q I g i q
 ·exact h' d s e H x y v u Q I g i q
def CJ(b:aO)(h:op ≠ .In:=by decide)(d:op ≠ .NotIn:=by decide):behindInMarks op b=qj:=by
 have e:(op==CmpOp.In)=qj:=by cases op<;>first|rfl|exact absurd rfl h
 have f:(op==CmpOp.NotIn)=qj:=by cases op<;>first|rfl|exact absurd rfl d
 cases b<;>simp[behindInMarks,e,f]
def YS{op:CmpOp}{r:R2}(e:qm X (cm op) r)(f:PE X a ta)(g:PE X b tb)(i:behindInMarks op b=qj):PE X (.Compare a [op] [b] pos) (EN r ta tb):=by intro d s j H Q I h;exact wpAny_Compare1 (Jr f g I h λv u k x y l m n o q=>e d k j l x y v u Q m n o q) i
def NZ(t:TE):TT:=λσ H Q=>t σ H λx H'=>∃k,x=.bl k/\Q k H'
def ZG(g:qm X (cm op) r)(i:PE X a ta)(j:PE X b tb)(l:behindInMarks op b=qj):PT X (.Compare a [op] [b] pos) (NZ (EN r ta tb)):=by
 intro d s f H Q I h;refine kz (o_ (i d s f H _ I h) λv m ⟨x,n,o,p,q⟩=>o_ (j d m f n _ o q) λu t ⟨y,w,A,B,C⟩=>
  o_ (g d t f w x y v u _ A p B C) λc J ⟨z,D,E,F,k,e,G⟩=>?_) l
 subst e;cases F;exact c8 ⟨D,E,G⟩
noncomputable def Yr(r r':R2)(ta tb tc:TE):TE:=λσ H Q=>ta σ H λx H1=>tb σ H1 λy H2=>r x y H2 λz H3=>∃k,z=.bl k/\
 (if k=qb then tc σ H3 λw' H4=>r' y w' H4 Q else Q (.bl qj) H3)
def ze8(n:qm X (cm op) r)(o:qm X (cm C_) r')(p:PE X a ta)(q:PE X b tb)(t:PE X c tc)
  (w:lastMarks [op,C_] [b,c]=qj:=by with_unfolding_all rfl):PE X (.Compare a [op,C_] [b,c] pos) (Yr r r' ta tb tc):=by
 intro f s g H Q I h;refine Compare_chain (o_ (p f s g H _ I h) λv A ⟨x,B,C,D,E⟩=>chain_link (o_ (q f A g B _ C E) λu F ⟨y,G,J,i,K⟩=>
  o_ (n f F g G x y v u _ J D i K) λd L ⟨z,j,l,M,k,e,m⟩=>?_)) w
 subst e;cases M;refine c8 ?_;cases k with
 |false=>exact ite_ff ⟨.bl qj,j,l,rfl,m⟩
 |true=>exact ite_tt (chain_last (o_ (t f L g j _ l m) λN O ⟨P,R,S,T,U⟩=>o f O g R y P u N Q S i T U))
def Nz(K:ai)(x:V)(H:Hp)(k:Bool):Prop:=
 match x with
 |.non=>k=qj
 |.bl b=>k=b
 |.int i=>k=(i !=0)
 |.str y=>y.length<=q9/\k=((y.length:Int) !=0)
 |.byt y=>y.size<=q9/\k=((y.size:Int) !=0)
 |.ref p=>(∃xs,qr K H p xs/\k = !xs.isEmpty)\/(∃xs,rH K H p xs/\k = !xs.isEmpty) \/ ∃i_,H p=KF (.dK i_)/\k = !i_.isEmpty
 |_=>False
def z9X{κ:Type}{d:List (κ×V)}{vs:List (κ×ae)}(r:KV d vs):(!vs.isEmpty) = !d.isEmpty:=by cases r<;>rfl
def Tu{xs:List V}{d:List ae}(r:nY xs d):(!d.toArray.isEmpty) = !xs.isEmpty:=by cases r<;>simp
def GX:(q9:Nat)<2 ^ 63:=by rw[j9];decide
def Yg:VQ X (λx H Q=>∃k,Nz X.K x H k/\Q k H):=by
 intro o s E H x v Q I g h;obtain⟨k,e,q⟩:=h;have F:=j9;cases x with
 | non=>
  cases g;have d:=e;subst d;exact truthy_none ⟨H,I,q⟩
 | bl b=>
  cases g;have d:=e;subst d;exact c8 ⟨H,I,q⟩
 | int i=>
  obtain⟨t,rfl⟩:=g;have d:=e;subst d;exact PySem.P.truthy_int ⟨H,I,q⟩
 | str y=>
  obtain⟨t,rfl⟩:=g;obtain⟨A,d⟩:y.length<=q9/\k=((y.length:Int) !=0):=e;subst d;exact PySem.P.truthy_str 'o' ⟨H,I.tok _,q⟩
 | byt y=>
  obtain⟨t,rfl⟩:=g;obtain⟨A,d⟩:y.size<=q9/\k=((y.size:Int) !=0):=e;subst d;exact PySem.W.truthy_bytes 'o' ⟨H,I.tok _,q⟩
 | ref p=>
  cases g;have d:=e;rcases d with⟨B,j,d⟩|⟨B,j,d⟩|⟨u,j,d⟩
  ·subst d;obtain⟨C,r,l,z⟩:=I.list j;have f:=r.length;exact wpAny_truthy_list l.isList (by simp;lia) ⟨H,I.tok _,by rw[Tu r];exact q⟩
  ·subst d;obtain⟨C,r,l,z⟩:=I.tuple j;have f:=r.length;exact truthy_tuple l (by simp;lia) ⟨H,I.tok _,by rw[Tu r];exact q⟩
  ·subst d;obtain⟨z,D,n,r,m⟩:u.length<=q9/\(p==sysModules)=qj/\∃n,KV u n/\s.heap.DictOf (uk X.prog X.w) p n:=I.hok p _ j;have f:=li r;exact wpAny_truthy_dict D m 'o' ⟨H,I.tok _,by rw[z9X r];exact q⟩
 |_=>exact(e).elim
def zdd(f:PE X a ta)(g:∀d,isTrue a X.env d=(do let v <- d;standAt a.pos;holding [v] (truthy v))):
  PT X a (λσ H Q=>ta σ H λx H'=>∃k,Nz X.K x H' k/\Q k H'):=by intro e s σ H Q I h;exact isTrue_plain (o_ (f e s σ H _ I h) λv i ⟨x,j,l,m,n⟩=>Yg e i σ j x v Q l m n) (g _)
def zal:qm X (d9 .Add) (λx y H Q=>∃i j,x=.str i/\y=.str j/\i.length+j.length<=q9/\Q (.str (i++j)) H):=by intro d s m H x y v u Q I e f h;obtain⟨i,j,rfl,rfl,g,q⟩:=h;obtain⟨t,rfl⟩:=e;obtain⟨k,rfl⟩:=f;exact e8 I.tk (add_str (λk n l=>⟨.str (i++j),H,I.tok _ l,⟨_,rfl⟩,q⟩) g)
def uy(r:nY [x] us):∃u,us=[u]/\RelV x u:=by
 cases r with
 |cons r1 r2=>cases r2;exact⟨_,rfl,r1⟩
def A8(r:nY [x,y] us):∃u d,us=[u,d]/\RelV x u/\RelV y d:=by
 cases r with
 | cons r1 r2=>
  cases r2 with
  |cons r3 r4=>cases r4;exact⟨_,_,rfl,r1,r3⟩
def zaV(f:X.calm=qb):oh X (.builtin "max") (λxs H Q=>∃i j,xs=[.int i,.int j]/\Q (.int (if j>i then j else i)) H):=by
 intro e s l H xs m Q I r h;obtain⟨i,j,rfl,q⟩:=h;obtain⟨u,n,rfl,⟨t,rfl⟩,⟨o,rfl⟩⟩:=A8 r;refine e8 I.tk (max_two_ints (I.ok.hd f) λp v k g=>⟨_,H,I.kept k g,?_,q⟩);by_cases d:j>i
 ·rw[qL d,qL d];exact⟨_,rfl⟩
 ·rw[q0 d,q0 d];exact⟨_,rfl⟩
def zcP(f:X.calm=qb):oh X (.builtin "min") (λxs H Q=>∃i j,xs=[.int i,.int j]/\Q (.int (if j<i then j else i)) H):=by
 intro e s l H xs m Q I r h;obtain⟨i,j,rfl,q⟩:=h;obtain⟨u,n,rfl,⟨t,rfl⟩,⟨o,rfl⟩⟩:=A8 r;refine e8 I.tk (min_two_ints (I.ok.hd f) λp v k g=>⟨_,H,I.kept k g,?_,q⟩);by_cases d:j<i
 ·rw[qL d,qL d];exact⟨_,rfl⟩
 ·rw[q0 d,q0 d];exact⟨_,rfl⟩
def zcO:oh X (.type "int") (λxs H Q=>(∃i,xs=[.int i]/\Q (.int i) H) \/ ∃k,xs=[.bl k]/\Q (.int (if k then 1 else 0)) H):=by
 intro d s f H xs g Q I r h;rcases h with⟨i,rfl,q⟩|⟨k,rfl,q⟩
 ·obtain⟨u,rfl,t,rfl⟩:=uy r;exact call_int_int ⟨.int i,H,I,⟨_,rfl⟩,q⟩
 ·obtain⟨u,rfl,e⟩:=uy r;cases e;exact call_int_bool ⟨.int (if k then 1 else 0),H,I.tok _,⟨_,rfl⟩,q⟩
def z73:oh X (.type "str") (λxs H Q=>∃i,xs=[.int i]/\i.natAbs.log2<1920/\Q (.str (toString i)) H):=by intro d s f H xs g Q I r h;obtain⟨i,rfl,e,q⟩:=h;obtain⟨u,rfl,t,rfl⟩:=uy r;exact PySem.P.str_of_int e ⟨.str _,H,I.tok _,⟨_,rfl⟩,q⟩
def NB(K:ai)(x:V)(H:Hp)(n:Nat):Prop:=
 match x with
 |.str y=>y.length<=q9/\n=y.length
 |.byt y=>y.size<=q9/\n=y.size
 |.ref p=>(∃xs,qr K H p xs/\n=xs.length) \/ ∃xs,rH K H p xs/\n=xs.length
 |_=>False
def Sm:oh X (.builtin "len") (λxs H Q=>∃x n,xs=[x]/\NB X.K x H n/\Q (.int n) H):=by
 intro l s w H xs z Q I r h;obtain⟨x,n,rfl,e,q⟩:=h;obtain⟨u,rfl,g⟩:=uy r;have A:=j9;cases x with
 | str y=>
  obtain⟨t,rfl⟩:=g;obtain⟨m,f⟩:y.length<=q9/\n=y.length:=e;subst f;exact len_str 'o' ⟨.int _,H,I.tok _,⟨_,rfl⟩,q⟩
 | byt y=>
  obtain⟨t,rfl⟩:=g;obtain⟨m,f⟩:y.size<=q9/\n=y.size:=e;subst f;exact PySem.W.len_bytes 'o' ⟨.int _,H,I.tok _,⟨_,rfl⟩,q⟩
 | ref p=>
  cases g;have f:=e;rcases f with⟨xs,i,f⟩|⟨xs,i,f⟩
  ·subst f;obtain⟨o,j,k,v⟩:=I.list i;have d:=j.length;exact Calls.call_len_list k.isList (by simp;lia) ⟨.int xs.length,H,I.tok _,⟨_,by simp only[aP];rw[d]⟩,q⟩
  ·subst f;obtain⟨o,j,k,v⟩:=I.tuple i;have d:=j.length;exact len_tuple k (by simp;lia) ⟨.int xs.length,H,I.tok _,⟨_,by simp only[aP];rw[d]⟩,q⟩
 |_=>exact(e).elim
end
structure zmI(h:aL)(x dx C:af)(mA:au->Option ae):Prop where
 obj:h.get? x=KF (mT C dx)
 ns:h.Ns1 dx mA
 ne:dx≠x
section
end
def oA.some_of(r:oA (KF v) o):∃u,o=KF u/\RelV v u:=by
 cases o with
 |none=>exact(r).elim
 |some u=>exact⟨u,rfl,r⟩
structure Nv(K:ai)(C:af):Prop where
 pg:mI K C Str.empty=qb
 hd:PySem.W.hasDictIn K C=qb
 po:PySem.W.plainOver K C=qb
 sa:dG K (.ref C) "__setattr__" = KF (KF (.builtin "object.__setattr__"))
def Nv.get{K:ai}{C:af}(c:Nv K C)(f:au):mI K C f=qb:=c.pg
structure Con(K:ai)(C:af)(f:au)(v:V)(u:ae):Prop where
 at_:dG K (.ref C) f=KF (KF u)
 rel:RelV v u
 get:hJ K u "__get__" = KF KM
 cp:PySem.W.copiedNames.contains f=qj
structure zmO(K:ai)(C:af)(m:au)(f:af):Prop where
 at_:dG K (.ref C) m=KF (KF (.ref f))
 fn:nJ K (.ref f)=qb
 kp:cR K (.ref f)=qb
section
end
section
variable{H:Hp}
inductive xN(K:ai)(H:Hp):V->ae->Prop where
 |non:xN K H .non (.type "NoneType")
 |bl (x:Bool):xN K H (.bl x) (.type "bool")
 |int (i:Int):xN K H (.int i) (.type "int")
 |str (x:au):xN K H (.str x) (.type "str")
 |flt (x:UInt64):xN K H (.flt x) (.type "float")
 |lst {a:af} {xs:List V} (e:H a=KF (.lst xs)):xN K H (.ref a) (.type "list")
 |frz {a:af} {o:Obj} {xs:List V} (e:H a=KF (.frz o (.lst xs))):xN K H (.ref a) (.type "list")
 |tup {a:af} {xs:List V} (e:H a=KF (.tup xs)):xN K H (.ref a) (.type "tuple")
 |dK {a:af} {i_:List (Key×V)} (e:H a=KF (.dK i_)):xN K H (.ref a) (.type "dict")
 |dT {a:af} {i_:List (List Key×V)} (e:H a=KF (.dT i_)):xN K H (.ref a) (.type "dict")
 | ins {a C dx:af} {fs:List (au×V)} (e:H a=KF (.ins C dx fs)) (cl:Nv K C) (ha:dG K (.ref C) "__class__" = KF (KF (.builtin "object.__class__")))
   (hn:hJ K (.builtin "object.__class__") "__get__" = KF (KF (.builtin "getset_descriptor.__get__"))) (pP:jX K (.builtin "object.__class__")=KF qb)
   (hm:ip K C (.type "object")=KF qb):xN K H (.ref a) (.ref C)
end
structure nZ(k:Nat)(A:aU):Prop where
 hd:A.handled=KM
 dp:A.depth+3*k+5<recursionLimit
 un:A.units+16*k+200<cLine
def nZ.mono(r:nZ k A)(h:j<=k):nZ j A:=⟨r.hd,by have:=r.dp;lia,by have:=r.un;lia⟩
def nZ.deeper(r:nZ (k+1) A)(env:Env):nZ k (A.deeper env):=
 ⟨r.hd,by have:=r.dp;show A.depth+1+3*k+5<_;lia,by have:=r.un;show A.units+3+16*k+200<_;lia⟩
def nZ.in1(r:nZ (k+1) A):nZ k A.in1:=
 ⟨r.hd,by have:=r.dp;show A.depth+3*k+5<_;lia,by have:=r.un;show A.units+1+16*k+200<_;lia⟩
def nZ.depth(r:nZ k A):A.depth<recursionLimit:=by have:=r.dp;lia
def nZ.units(r:nZ k A):A.units+64<cLine:=by have:=r.un;lia
def NI:TA:=λ_ H Q=>Q [] H
def Oa(ta:TE)(tr:TA):TA:=λσ H Q=>ta σ H λx H1=>tr σ H1 λxs H2=>Q (x::xs) H2
section
variable{X:Cx}{e:aO}{es:List aO}{te:TE}{t:TA}{pos:Pos}
def Ba:PA X [] NI:=λ_ _ _ _ H Q I h=>hU ⟨[],H,I,.nil,h⟩
def xB(c:PE X e te)(d:PA X es t)(f:aA (e::es) X.env=(qj,eval e X.env)::aA es X.env:=by rfl):PA X (e::es) (Oa te t):=by intro pos a s b H Q I h;rw[f];refine fH (o_ (c a s b H _ I h) λu g ⟨x,i,j,k,l⟩=>?_);exact o_ (d pos a g b i _ j l) λr v ⟨m,n,o,p,q⟩=>⟨x::m,n,o,.cons k p,q⟩
def V7(t:TA):TE:=λσ H Q=>t σ H λxs H1=>xs.length<=q9/\∀p,H1 p=KM->Q (.ref p) (upd H1 p (.tup xs))
def Wh(t:TA):TE:=λσ H Q=>t σ H λxs H1=>xs.length<=q9/\∀p,H1 p=KM->Q (.ref p) (upd H1 p (.lst xs))
def PZ(h:PA X es t):PE X (.Tuple es x1 pos) (V7 t):=by intro a s f H Q I g;refine wpAny_Tuple_spliced (o_ (h pos a s f H _ I g) λi c ⟨j,k,d,r,z,q⟩=>⟨by rw[<- r.length];exact z,?_⟩);have l:=d.hok.fresh (aE _);refine⟨.ref c.heap.objs.size,upd k c.heap.objs.size (.tup j),d.laid (λb u e=>aj _ e) (aE _) ?_,rfl,q _ l⟩;exact⟨z,i,r,oy.new _ _⟩
def OS(h:PA X es t):PE X (.List es pos) (Wh t):=by intro a s f H Q I g;refine wpAny_List_spliced (o_ (h pos a s f H _ I g) λi c ⟨j,k,d,r,z,q⟩=>⟨by rw[<- r.length];exact z,?_⟩);have l:=d.hok.fresh (aE _);refine⟨.ref c.heap.objs.size,upd k c.heap.objs.size (.lst j),d.laid (λb u e=>aj _ e) (aE _) ?_,rfl,q _ l⟩;exact⟨z,i,0,r,aN _ rfl⟩
end
abbrev Sp:=List V->Hp->VK->XK->Prop
abbrev vp:=List Env->Hp->ag->XK->ae->ag->Prop
structure oB(P:aD)(w:aR)(K:ai)(mg:au->Option ae)(base:aL)(A:aU)(outer:List Env)(s:ag)(H:Hp):Prop where
 frames:A.frames=KF outer
 mod:Mod K mg base
 bs:∀b o,base.get? b=KF o->s.heap.get? b=KF o/\H b=KM
 bsz:base.objs.size<=s.heap.objs.size
 funs:s.heap.FunFrames base outer
 frf:∀b∈qN outer,H b=KM
 hok:HOk P w H s.heap
 bare:f6 s.gens
 tk:0<s.toks
def CE(outer:List Env)(P:aD)(w:aR)(H:Hp)(s:ag)(Q:VK)(u:ae)(s':ag):Prop:=
 (∃v H',s'.os=s.os/\f6 s'.gens/\Un (qN outer) [] H H' s.heap s'.heap/\HOk P w H' s'.heap/\RelV v u/\Q v H')/\0<s'.toks
def CR(CX:vp)(outer:List Env)(P:aD)(w:aR)(H:Hp)(s:ag)(Q:VK)(E:XK)(r:Result)(s':ag):Prop:=
 match r with
 |.ok (.ret u)=>CE outer P w H s Q u s'
 |.ok _=>False
 |.error e=>CX outer H s E e s'
structure oj(P:aD)(w:aR)(K:ai)(mg:au->Option ae)(base:aL)(CX:vp)(k:Nat)(f:af)(fd:dB)(ps:List au)(sp:Sp):Prop where
 len:∀vs H Q E,sp vs H Q E->vs.length=ps.length
 run:∀(A:aU)(outer:List Env)(s:ag)(H:Hp)(args:Args)(us:List ae)(vs:List V)(Q:VK)(E:XK),nZ k A->oB P w K mg base A outer s H->iE s fd args (ps.zip us)->nY vs us->sp vs H Q E->
  codeAny (av P w) A (.call (.ref f) args) (CR CX outer P w H s Q E) s
def oj.mono{P:aD}{w:aR}{K:ai}{c:au->Option ae}{base:aL}{d:vp}{j k:Nat}{f:af}{e:dB}{g:List au}{i:Sp}(F:oj P w K c base d j f e g i)(h:j<=k):
  oj P w K c base d k f e g i:=⟨F.len,λA a s H b l m Q E n=>F.run A a s H b l m Q E (n.mono h)⟩
def oj.imp{P:aD}{w:aR}{K:ai}{c:au->Option ae}{base:aL}{d:vp}{k:Nat}{f:af}{e:dB}{g:List au}{i j:Sp}(F:oj P w K c base d k f e g i)
  (h:∀vs H Q E,j vs H Q E->i vs H Q E):oj P w K c base d k f e g j:=
 ⟨λvs H Q E q=>F.len vs H Q E (h _ _ _ _ q),λA a s H b l vs Q E m n o p r=>F.run A a s H b l vs Q E m n o p (h _ _ _ _ r)⟩
def oB.in1{P:aD}{w:aR}{K:ai}{b:au->Option ae}{base:aL}{A:aU}{a:List Env}{s:ag}{H:Hp}(e:oB P w K b base A a s H):
  oB P w K b base A.in1 a s H:=⟨e.frames,e.mod,e.bs,e.bsz,e.funs,e.frf,e.hok,e.bare,e.tk⟩
section
variable{X:Cx}{Y1:List (af×Obj)}{σ:St}{H:Hp}{s s':ag}
def Inv.env0(I:Inv X Y1 σ H s):oB X.prog X.w X.K X.mg X.base X.A X.stack s H:=
 ⟨I.ok.frames,I.ok.mod,I.bs,aF I.ok.bsz I.sz,I.stack,I.stkFree,I.hok,I.bare,I.tk⟩
def Inv.after(I:Inv X Y1 σ H s)(h:CE X.stack X.prog X.w H s Q u s'):EP X Y1 σ Q u s':=by obtain⟨⟨v,e,f,a,i,c,r,q⟩,j⟩:=h;obtain⟨l,g,d,t,k⟩:=s';obtain rfl:k=s.os:=f;exact⟨v,e,I.call i c a (λb z=>absurd z 'd') j,r,q⟩
end
def Wz(sp:Sp)(dvs:List V)(E:XK)(t:TA):TE:=λσ H Q=>t σ H λvs H1=>sp (vs++dvs) H1 Q E
def Binds(K:ai)(fd:dB)(ps:List au)(ds:List ae):Prop:=
 ∀(s:ag)(us:List ae),K.In s.heap->(us++ds).length=ps.length->iE s fd ⟨us,[]⟩ (ps.zip (us++ds))
def Binds.all{K:ai}{c:dB}{b:List au}(h:∀a:List ae,a.length=b.length->bindArgs c ⟨a,[]⟩=pure (b.zip a)):Binds K c b []:=λs a _ d=>by
 rw[bL] at d ⊢;exact .of_eq (h a d)
def Ag(CX:vp)(X:Cx)(E:XK):Prop:=∀(Y1:List (af×Obj))(σ:St)(H:Hp)(s:ag)(e:ae)(s':ag),Inv X Y1 σ H s->CX X.stack H s E e s'->X.xe e s'
section
variable{X:Cx}{CX:vp}{k:Nat}{f C:af}{fd:dB}{ps:List au}{sp:Sp}{dvs:List V}{ds:List ae}{E:XK}{x:au}{p pos:Pos}{e:aO}{es:List aO}{t:TA}
def Yw(F:oj X.prog X.w X.K X.mg X.base CX k f fd ps sp)(c:nZ k X.A)(d:Binds X.K fd ps ds)(g:nY dvs ds)(i:Ag CX X E)
  (I:Inv X Y1 σ H s) (r:nY vs us) (h:sp (vs++dvs) H Q E):ar (av X.prog X.w) X.A (call (.ref f) us) (EP X Y1 σ Q) X.xe s:=by
 have b:=r.append g;have j:(us++ds).length=ps.length:=by rw[<- b.length];exact F.len _ _ _ _ h
 refine iM (eC (F.run X.A X.stack s H ⟨us,[]⟩ (us++ds) (vs++dvs) Q E c I.env0 (d s us I.kIn j) b h) λr l a=>?_);cases r with
 |error e=>exact i Y1 σ H s e l I a
 | ok fl=>
  cases fl with
  |ret u=>exact I.after a
  |next=>exact ah a
  |brk=>exact ah a
  |cont=>exact ah a
def Kq(F:oj X.prog X.w X.K X.mg X.base CX k f fd ps sp)(c:nZ k X.A)(d:Gl X x)(g:X.mg x=KF (.ref f))(i:cR X.K (.ref f)=qb)(j:Binds X.K fd ps ds)(l:nY dvs ds)(m:Ag CX X E)
  (n:PA X (e::es) t) (o:qP x:=by decide) (u:aA (e::es) X.env=(qj,eval e X.env)::aA es X.env:=by rfl) (v:(backTo pos (aA es X.env)).any (·.1)=qj:=by rfl):
  PE X (.Call (.Name x p) (e::es) [] pos) (Wz sp dvs E t):=by intro a s y H Q I h;refine eT (Ed I d g ?_ o);refine lJ I.ok.mod.kin i (o_ (n pos a s y H _ I h) λz B ⟨D,G,b,r,q⟩=>⟨b.kIn,?_⟩) u v;exact Yw F c j l m b r q
structure Mk(K:ai)(C f:af):Prop where
 makes:PySem.W.makesIn K C=qb
 init:dG K (.ref C) "__init__" = KF (KF (.ref f))
 fn:nJ K (.ref f)=qb
 kp:cR K (.ref C)=qb
end
section
variable{fd:dB}{ps ks:List au}
structure zlU(K:ai)(fd:dB)(ps ks:List au)(g:List ae->List ae->List ae)(gV:List V->List V->List V):Prop where
 to:∀(s:ag)(us ws:List ae),K.In s.heap->(g us ws).length=ps.length->iE s fd ⟨us,ks.zip ws⟩ (ps.zip (g us ws))
 rel:∀{vs:List V}{us:List ae}{zs:List V}{ws:List ae},nY vs us->nY zs ws->nY (gV vs zs) (g us ws)
end
structure rj(N P:List au)(sc:bS):Prop where
 kind:sc.kind=.function
 co:sc.isCoroutine=qj
 gen:sc.isGenerator=qj
 nd:N.Nodup
 pre:N.take P.length=P
 par:∀x∈P,sc.names.lookup x=KF .local\/sc.names.lookup x=KF .cell
 nofree:∀y∈sc.names,y.2 ≠ .free
theorem Su{a:au->Option dj}{x:au}:∀{binds:List (au×ae)}{m:au->Option ae},(∀v,(x,v)∉binds)->bindL a binds m x=m x
 |[],_,_=>rfl
 | (n,v)::r,m,h=>by
  unfold bindL;rw[Su λw b=>h w (ak _ b)];split
  ·have:x≠n:=by rintro rfl;exact h v am
   simp[this]
  ·rfl
theorem Te{a:au->Option dj}{x:au}:∀{binds:List (au×ae)}{m:au->Option ae},(∀v,(x,v)∉binds)->bindC a binds m x=m x
 |[],_,_=>rfl
 | (n,v)::r,m,h=>by
  unfold bindC;rw[Te λw b=>h w (ak _ b)];split
  ·rfl
  ·have:x≠n:=by rintro rfl;exact h v am
   simp[this]
theorem SO{a:au->Option dj}{x:au}{v:ae}:∀{P:List au}{vs:List ae}{i:Nat}{m:au->Option ae},P.Nodup->P[i]?=KF x->vs[i]?=KF v->a x=KF .local->
  bindL a (P.zip vs) m x=KF v
 |[],_,_,_,_,h,_,_=>by simp at h
 |_::_,[],_,_,_,_,h,_=>by simp at h
 | p::P,w::vs,0,m,nd,h1,h2,hk=>by
  simp at h1 h2;subst h1;subst h2;show bindL a ((p,w)::P.zip vs) m p=_;unfold bindL;rw[Su λv b=>(bq.mp nd).1 (iO b).1,qL hk];simp
 | p::P,w::vs,i+1,m,nd,h1,h2,hk=>by
  unfold bindL;exact SO (i:=i) (bq.mp nd).2 ⇑h1 ⇑h2 hk
theorem Sw{a:au->Option dj}{x:au}{v:ae}:∀{P:List au}{vs:List ae}{i:Nat}{m:au->Option ae},P.Nodup->P[i]?=KF x->vs[i]?=KF v->a x≠KF .local->
  bindC a (P.zip vs) m x=KF v
 |[],_,_,_,_,h,_,_=>by simp at h
 |_::_,[],_,_,_,_,h,_=>by simp at h
 | p::P,w::vs,0,m,nd,h1,h2,hk=>by
  simp at h1 h2;subst h1;subst h2;show bindC a ((p,w)::P.zip vs) m p=_;unfold bindC;rw[Te λv b=>(bq.mp nd).1 (iO b).1,q0 hk];simp
 | p::P,w::vs,i+1,m,nd,h1,h2,hk=>by
  unfold bindC;exact Sw (i:=i) (bq.mp nd).2 ⇑h1 ⇑h2 hk
def start(N:List au)(vs:List V):St:=vs.map KF++aM (N.length-vs.length) KM
noncomputable def yB(CX:vp)(P:aD)(w:aR)(K:ai)(mg:au->Option ae)(base:aL)(N:List au)(qual:au)(scope:bS)(f:af)(cd:ae)(A:aU)(outer:List Env)(s:ag)(H:Hp)(E:XK):Cx where
 prog:=P
 w:=w
 K:=K
 mg:=mg
 base:=base
 A:=A.deeper (envOfC qual scope s.heap.objs.size f cd)
 N:=N
 s₀:=s
 H₀:=H
 env:=envOfC qual scope s.heap.objs.size f cd
 outer:=outer
 stack:=envOfC qual scope s.heap.objs.size f cd::outer
 ex:=[]
 calm:=qb
 fn:=λ_=>qb
 pn:=[]
 xe:=λe s'=>ar (av P w) (A.deeper (envOfC qual scope s.heap.objs.size f cd)) (leaving (envOfC qual scope s.heap.objs.size f cd) e) (λ_ qK=>CX outer H s E e qK) (λe' qK=>CX outer H s E e' qK) s'
def RG{a:bS}{n:Nat}{x:au}(h:a.names.lookup x=KF .cell):∃c,(b9 n a.names []).lookup x=KF c:=by have q:=fP a.names n [] (.inl h);exact gN.mp q
def S8{G:vp}{P:aD}{w:aR}{K:ai}{C:au->Option ae}{base:aL}{N m:List au}{g:au}{scope:bS}{f:af}{o:ae}{A:aU}{d:List Env}{s s1:ag}{H:Hp}{E:XK}{D:List ae}{vs:List V}
  (S:rj N m scope) (M:A.handled=KM) (l:oB P w K C base A d s H) (T:vs.length=m.length) (r:nY vs D)
  (x:InCallC s s.heap.objs.size (bindL (envOfC g scope s.heap.objs.size f o).kindOf (m.zip D) λ_=>KM) (b9 (s.heap.objs.size+1) scope.names []) (bindC (envOfC g scope s.heap.objs.size f o).kindOf (m.zip D) λ_=>KM) s1) (O:0<s1.toks):
  Inv (yB G P w K C base N g scope f o A d s H E) [] (start N vs) H s1:=by
 have U:m.length<=N.length:=by have:=congrArg kg S.pre;rw[bK] at this;lia
 obtain⟨t,W,rfl,I⟩:=x.done;have F:∀b:af,b∉(yB G P w K C base N g scope f o A d s H E).ex:=λb z=>absurd (show b∈([]:List af) from z) 'd';refine⟨⟨l.mod,S.kind,rfl,rfl,aE _,λy z c t j=>?_,λy hy=>?_,λy c _ h=>?_,λ_=>M,iP l.frames,.inr ⟨rfl,rfl⟩,λb z=>absurd z (F b),l.bs,l.bsz,λb _ _=>F b,λb z=>absurd z (F b),l.funs,l.frf⟩,
  rfl,l.bare,Un.kept I,⟨_,x.toInCall.ns,λi y v t j X=>?_⟩,λy c h=>⟨_,x.cell y c h⟩,l.hok.fresh (aE _),λy c h=>?_,λp n=>absurd (show p∈([]:List (af×Obj)) from n) 'd',l.hok.kept I,?_,O⟩
 ·exact name_of_addr x.apart (bj t) (bj j)
 ·have hy:=hy;rcases hy with hy|hy
  ·exact RG hy
  ·exact absurd rfl (S.nofree _ (bj hy))
 ·exact iH (x.above y c (bj h))
 ·have B:i<vs.length:=by
   unfold start at j;by_cases B:i<vs.length
   ·exact B
   ·rw[br ⇑B] at j;rw[eJ] at j;split at j<;>cases j
  have Q:vs[i]?=KF v:=by
   unfold start at j;rw[aG ⇑B,bO] at j;cases e:vs[i]? with
   |none=>rw[e] at j;cases j
   |some a=>rw[e] at j;cases j;rfl
  obtain⟨u,J,R⟩:=r.get Q;have n:m[i]?=KF y:=by
   rw[<- S.pre,fz 'o'];exact t
  have L:m.Nodup:=by rw[<- S.pre];exact S.nd.sublist (cL _ _)
  refine⟨u,R,?_⟩;rcases S.par y (aX n) with k|k
  ·exact .inl ⟨k,SO L n J k⟩
  ·obtain⟨c,e⟩:=RG k;refine .inr ⟨.inl k,c,e,?_⟩;have q:=x.cell y c e;rw[Sw L n J (by show scope.names.lookup y≠_;rw[k];decide)] at q;exact q
 ·exact l.hok.fresh (iH (x.above y c (bj h)))
 ·unfold start;show _=N.length;rw[aB,ax,kA];lia
def qv{z:vp}{P:aD}{w:aR}{K:ai}{B:au->Option ae}{base:aL}{k:Nat}{f:af}{name c:au}{d:eu}{body:List cN}{scope:bS}{O R l T h U oc:ae}{W od:Option af}
  {rE:Array (Option ae)} {N C:List au} {D:Sp} (lk:K.lookup f=KF ⟨oc,od,.func (bd name c d body scope O R l T W h U),rE⟩) (pQ:cS K h c=qb) (S:rj N C scope)
  (m:∀vs H Q E,D vs H Q E->vs.length=C.length)
  (o5:∀(A:aU)(a:List Env)(s:ag)(H:Hp)(vs:List V)(Q:VK)(E:XK),nZ k (A.deeper (envOfC c scope s.heap.objs.size f h))->D vs H Q E->
   ∃t,rL (yB z P w K B base N c scope f h A a s H E) body t/\t { nx:=λ_ H'=>Q .non H',rt:=Q } (start N vs) H):
  oj P w K B base z (k+1) f (bd name c d body scope O R l T W h U) C D:=by
 refine⟨m,λA a s H X us vs Q E F i hb r Y=>?_⟩;have hl:=m _ _ _ _ Y;have Z:=i.mod.kin.keeps λb o e=>(i.bs b o e).1;have G:=i.mod.nolimit.keeps λb o e=>(i.bs b o e).1;have yg:∀y∈C.zip us,scope.names.lookup y.1=KF .local\/(scope.names.lookup y.1=KF .cell/\((b9 (s.heap.objs.size+1) scope.names []).lookup y.1).isSome=qb):=λ⟨n,v⟩ hy=>by
  rcases S.par n (iO hy).1 with q|q
  ·exact .inl q
  ·exact .inr ⟨q,fP _ _ _ (.inl q)⟩
 refine kB F.depth (Z _ _ lk) rfl S.co S.gen rfl (lL Z pQ) (hb _ _ _ _ (e8 i.tk (jr S.kind yg λenv he s1 x pP=>?_)));subst he;refine⟨G.keeps x.toInCall.keep,codeAny_func ?_⟩;obtain⟨t,ht,hq⟩:=o5 A a s H vs Q E (F.deeper _) Y;have I:Inv (yB z P w K B base N c scope f h A a s H E) [] (start N vs) H s1:=S8 S F.hd i hl r x pP;refine bZ (ht [] s1 (start N vs) H _ I hq) (λfl L j=>?_) λe L j=>j;have p:∀{g:St}{H':Hp}{v:V}{u:ae},Inv (yB z P w K B base N c scope f h A a s H E) [] g H' L->RelV v u->Q v H'->CE a P w H s Q u L:=
  λ{g H' v u}J M q=>⟨⟨v,H',J.os,J.bare,J.base,J.hok,M,q⟩,J.tk⟩
 cases fl with
 | ret u=>
  obtain⟨v,g,H',J,M,q⟩:=j;exact p J M q
 | next=>
  obtain⟨g,H',J,q⟩:=j;exact p (v:=V.non) J rfl q
 | brk=>
  obtain⟨_,_,_,q⟩:=j;exact ah q
 | cont=>
  obtain⟨_,_,_,q⟩:=j;exact ah q
section
variable{X:Cx}{x:au}{p pos:Pos}{e:aO}{es:List aO}{t:TA}{id T:String}{r:List V->Hp->VK->Prop}
def Ig(r:List V->Hp->VK->Prop)(t:TA):TE:=λσ H Q=>t σ H λvs H1=>r vs H1 Q
def Ei(c:oh X (.builtin id) r)(d:Gl X x)(f:X.mg x=KM)(g:bg x=KF (.builtin id))(i:PA X (e::es) t)(j:x ≠ "__name__":=by decide)(k:qP x:=by decide)
  (l:aA (e::es) X.env=(qj,eval e X.env)::aA es X.env:=by rfl) (m:(backTo pos (aA es X.env)).any (·.1)=qj:=by rfl):PE X (.Call (.Name x p) (e::es) [] pos) (Ig r t):=by intro a s b H Q I h;refine eT (Be I d f g ?_ j k);exact PyProof.Rows.callWith_builtin1 (o_ (i pos a s b H _ I h) λn o ⟨q,u,v,w,y⟩=>c a o b u q n Q v w y) l m
def SA(c:oh X (.type T) r)(d:Gl X x)(f:X.mg x=KM)(g:bg x=KF (.type T))(i:PA X (e::es) t)(j:x ≠ "__name__":=by decide)(k:qP x:=by decide)
  (l:aA (e::es) X.env=(qj,eval e X.env)::aA es X.env:=by rfl) (m:(backTo pos (aA es X.env)).any (·.1)=qj:=by rfl):PE X (.Call (.Name x p) (e::es) [] pos) (Ig r t):=by intro a s b H Q I h;refine eT (Be I d f g ?_ j k);exact eS (o_ (i pos a s b H _ I h) λn o ⟨q,u,v,w,y⟩=>c a o b u q n Q v w y) l m
end
end L2
namespace HT
open PySem PyProof.Rows
section
open PySem.SeqAt
open PySem.AutoSeq1 (wpAny_loadPart')
open PySem.MeetsSeq PySem.MeetsSeq2 PySem.MeetsSeq3
end
section
variable{prog:aD}{w:aR}{A:aU}{E:ae->ag->Prop}{s:ag}
def cat_tup(o:IsTup s.heap t vs.toArray)(p:IsTup s.heap b ws.toArray)(h:vs≠[])
  (q:ws=[]->Q (.ref t) s) (r:ws≠[]->Q (.ref s.heap.objs.size) { s with heap:=s.heap.push { cls:=.type "tuple",data:=.seq (vs++ws).toArray } })
  (u:vs.length+ws.length<=q9):ar (av prog w) A (d9 .Add (.ref t) (.ref b)) Q E s:=by
 obtain⟨⟨cls,i,data,j⟩,a,v,n,x⟩:=id o;obtain⟨⟨z,k,f,l⟩,c,y,m,g⟩:=id p;subst v x y g;have e:vs.toArray++ws.toArray=(vs++ws).toArray:=by simp
 by_cases d:ws=[]
 ·exact jj ⟨_,a,rfl⟩ ⟨_,c,rfl⟩ jK lj ic g9 (gO _ _)
   (tuple_addW1 t b vs.toArray ws.toArray n m i k j l ⇑h (by simp[d])) ⟨a,c,q d⟩
 ·refine jj ⟨_,a,rfl⟩ ⟨_,c,rfl⟩ jK lj ic g9 (gO _ _)
   (tuple_addW2 t b vs.toArray ws.toArray n m i k j l ⇑h ⇑d (by rw[aP,aP];exact u)) ⟨a,c,?_⟩
  rw[e];exact r d
def sIx(n d:Nat):Option Int->Nat
 |none=>d
 |some v=>if v<0 then (v+(n:Int)).toNat else min v.toNat n
def zm4(n d:Nat)(b:d<=n)(o:Option Int):sIx n d o<=n:=by
 cases o with
 |none=>exact b
 | some v=>
  show(if v<0 then (v+(n:Int)).toNat else min v.toNat n)<=n;by_cases a:v<0
  ·rw[qL a];lia
  ·rw[q0 a];exact mJ _ _
def Qq(v:Int)(n d:Nat):(if v<0 then max (v+(n:Int)) 0 else min v (n:Int))=((sIx n d (KF v):Nat):Int):=by
 show(if v<0 then max (v+(n:Int)) 0 else min v (n:Int))=(((if v<0 then (v+(n:Int)).toNat else min v.toNat n):Nat):Int);by_cases a:v<0
 ·simp only[qL a];lia
 ·simp only[q0 a];lia
def zag(lo a:Option Int)(n:Nat):gF lo a 1 (n:Int)=(((sIx n 0 lo:Nat):Int),((sIx n n a:Nat):Int)):=by
 have b:¬ ((1:Int)<0):=by lia
 unfold gF;refine mH ?_ ?_
 ·cases lo with
  |none=>rfl
  |some v=>exact Qq v n 0
 ·cases a with
  |none=>rfl
  |some v=>exact Qq v n n
def za7(i j:Nat):ft (i:Int) (j:Int) 1=j-i:=by
 unfold ft;have a:(1:Int)>0:=by lia
 split<;>lia
def To(p:gP v o)(h:Q o s):ar (av prog w) A (Builtin.Slice.slicePartIndex v) Q E s:=by
 cases p with
 |none=>exact slicePart_none h
 |int i t=>exact slicePart_int h
def sliceApplied_gen{sl:af}{d e:ae}{lo a:Option Int}{n:Nat}{Q:Int×Int×Nat->ag->Prop}(f:s.heap.IsSliceOf sl d e .none)(g:gP d lo)(i:gP e a)
  (h:Q (((sIx n 0 lo:Nat):Int),1,sIx n n a-sIx n 0 lo) s):ar (av prog w) A (Builtin.Slice.sliceApplied (.ref sl) (pure (n:Int))) Q E s:=by obtain⟨j,b,k,c⟩:=id f;refine aa (aa (bD b c rfl (aa (bD b c rfl (aa (bD b c rfl (ao ?_)))))));refine aa (slicePart_none ?_);refine aa (To g (aa (To i (aa (ao ?_)))));show ar _ _ (match gF lo a 1 (n:Int) with|(lo,a)=>pure (lo,(1:Int),ft lo a 1)) _ _ s;rw[zag lo a n];show ar _ _ (pure (((sIx n 0 lo:Nat):Int),(1:Int),ft ((sIx n 0 lo:Nat):Int) ((sIx n n a:Nat):Int) 1)) _ _ s;rw[za7];exact ao h
def ze4(xs:Array ae)(i k:Nat):((a9 k).filterMap λ(m:Nat)=>xs[((i:Int)+(m:Int)*1).toNat]?).toArray=((xs.toList.drop i).take k).toArray:=by
 have e:(λ(m:Nat)=>xs[((i:Int)+(m:Int)*1).toNat]?)=λm=>xs[i+m]?:=by
  funext m;have:((i:Int)+(m:Int)*1).toNat=i+m:=by lia
  rw[this]
 rw[e];have:=pick_run xs i k;rw[List.filterMap_map] at this;have a:((λx=>xs[x]?)∘λx=>i+x)=λm=>xs[i+m]?:=rfl;rw[a] at this;rw[this]
def getItem_tuple_cut{t sl:af}{a:Array ae}{f g:ae}{lo b:Option Int}{Q:ae->ag->Prop}(c:IsTup s.heap t a)(i:s.heap.IsSliceOf sl f g .none)(j:gP f lo)(k:gP g b)
  (l:¬ (sIx a.size 0 lo=0/\sIx a.size a.size b=a.size))
  (h:Q (.ref s.heap.objs.size) { s with heap:=s.heap.push { cls:=.type "tuple",data:=.seq ((a.toList.drop (sIx a.size 0 lo)).take (sIx a.size a.size b-sIx a.size 0 lo)).toArray } })
  (r:a.size<=q9):ar (av prog w) A (getItem (.ref t) (.ref sl)) Q E s:=by
 have d:sizeOk (.seq ((a.toList.drop (sIx a.size 0 lo)).take (sIx a.size a.size b-sIx a.size 0 lo)).toArray):=by
  show((a.toList.drop (sIx a.size 0 lo)).take (sIx a.size a.size b-sIx a.size 0 lo)).toArray.size<=q9;rw[aP,bK,cg,aK];lia
 obtain⟨m,n,o,u⟩:=id i;have p:s.TypeIs (.ref sl) "slice":=⟨m,n,o⟩;unfold getItem
 try with_reducible refine bI ?_
 first|refine aa (ao ?_)|skip
 refine aa (wpAny_sequenceKey c.typeIs 's' ?_);refine aa (cO c.typeIs cy
  (cF cy c.typeIs lA ?_ (lN _ _)))
 show ar _ _ (js (.ref t) >>= _) _ _ s;refine aa (tupleItemsOf_ c (aa (lO p ?_)));refine aa (sliceApplied_gen i j k ?_);have e:¬ ((((sIx a.size 0 lo:Nat):Int)==0&&(1:Int)==1&&(sIx a.size a.size b-sIx a.size 0 lo)==a.size)=qb):=by
  intro q;rw[bi,bi] at q;have v:=eq_of_beq q.1.1;have x:=eq_of_beq q.2;exact l ⟨by lia,by lia⟩
 show ar _ _ (if (((sIx a.size 0 lo:Nat):Int)==0&&(1:Int)==1&&(sIx a.size a.size b-sIx a.size 0 lo)==a.size)=qb then _ else _) _ _ s;rw[q0 e,ze4]
 first
  |exact aa (dL (ao ⟨_,rfl,ao h⟩) d)
  |exact aa (dL (aa (ao (ao ⟨_,rfl,ao h⟩))) d)
  |exact aa (aa (dL (ao (ao ⟨_,rfl,ao h⟩)) d))
  |exact aa (aa (dL (ao ⟨_,rfl,ao h⟩) d))
end
end HT
namespace L2
open PySem PySem.Spec PyProof.Rows
abbrev TO:=St->Hp->(Option Int->Hp->Prop)->Prop
def PO(X:Cx)(e:Option aO)(t:TO):Prop:=
 ∀(Y1:List (af×Obj))(s:ag)(σ:St)(H:Hp)(Q:Option Int->Hp->Prop),Inv X Y1 σ H s->t σ H Q->
  ar (av X.prog X.w) X.A (evalPart e X.env) (λu s'=>∃o H',Inv X Y1 σ H' s'/\gP u o/\Q o H') X.xe s
def Zx:TO:=λ_ H Q=>Q KM H
def WC(t:TE):TO:=λσ H Q=>t σ H λx H1=>∃i,x=.int i/\Q (KF i) H1
def TJ:∀{a:List ae},nY (ns.map V.int) a->kC a ns:=by
 induction ns with
 |nil=>intro a r;rw[jL] at r;cases r;exact .nil
 | cons n ns ih=>
  intro a r;cases r with
  | cons r1 r2=>
   obtain⟨t,e⟩:=r1;subst e;exact .cons n t (ih r2)
section
variable{X:Cx}{e:aO}{te:TE}{lo hi:Option aO}{tl th:TO}{pos p2:Pos}
def YK:PO X KM Zx:=by intro a s b H Q I h;exact ao ⟨KM,H,I,.none,h⟩
def Z9(h:PE X e te):PO X (KF e) (WC te):=by intro a s b H Q I c;refine o_ (h a s b H _ I c) λu k ⟨x,d,f,g,j⟩=>?_;obtain⟨i,rfl,q⟩:=j;obtain⟨t,rfl⟩:=g;exact⟨KF i,d,f,.int i t,q⟩
def vN(X:Cx)(r:V->Option Int->Option Int->Hp->VK->Prop):Prop:=
 ∀(Y1:List (af×Obj))(s:ag)(σ:St)(H:Hp)(x:V)(v vl vu:ae)(lo hi:Option Int)(sl:af)(Q:VK),Inv X Y1 σ H s->RelV x v->s.heap.IsSliceOf sl vl vu .none->gP vl lo->gP vu hi->r x lo hi H Q->
  ∃T id,typeLookup (.type T) "__getitem__" = pure (KF (.builtin id))/\s.TypeIs v T/\ar (av X.prog X.w) X.A (getItem v (.ref sl)) (EP X Y1 σ Q) X.xe s
def vN.or(h:vN X r)(h':vN X r'):vN X (λx lo hi H Q=>r x lo hi H Q\/r' x lo hi H Q):=by
 intro a s b H x v c d lo hi f Q I g i j k q;rcases q with q|q
 ·exact h a s b H x v c d lo hi f Q I g i j k q
 ·exact h' a s b H x v c d lo hi f Q I g i j k q
noncomputable def tSl(r:V->Option Int->Option Int->Hp->VK->Prop)(te:TE)(tl th:TO):TE:=λσ H Q=>te σ H λx H1=>tl σ H1 λl H2=>th σ H2 λu H3=>r x l u H3 Q
def R5(j:vN X r)(k:PE X e te)(m:PO X lo tl)(n:PO X hi th):PE X (.Subscript e (.Slice lo hi KM p2) pos) (tSl r te tl th):=by intro a s c H Q I h;refine Subscript_ (o_ (k a s c H _ I h) λv o ⟨x,p,t,w,y⟩=>?_);refine wpAny_Slice (o_ (m a o c p _ t y) λf z ⟨l,A,B,C,D⟩=>o_ (n a z c A _ B D) λg d ⟨u,i,E,F,G⟩=>?_);refine ao ?_;have J:Inv X a c i { d with heap:=d.heap.push { cls:=.type "slice",data:=.fields #[f,g,.none] } }:=E.kept λb N q=>aj _ q;obtain⟨T,O,K,L,M⟩:=j a { d with heap:=d.heap.push { cls:=.type "slice",data:=.fields #[f,g,.none] } } c i x v f g l u d.heap.objs.size Q J w (nU ..) C F G;exact tail_any L K M (by with_unfolding_all rfl)
def Cd(xs:List V)(lo hi:Option Int):List V:=(xs.drop (HT.sIx xs.length 0 lo)).take (HT.sIx xs.length xs.length hi-HT.sIx xs.length 0 lo)
def T3(xs:List V)(lo hi:Option Int):(Cd xs lo hi).length<=xs.length:=by unfold Cd;rw[bK,cg];lia
def V8(K:ai):V->Option Int->Option Int->Hp->VK->Prop:=λx lo hi H Q=>∃a xs,x=.ref a/\rH K H a xs/\
 ¬ (HT.sIx xs.length 0 lo=0/\HT.sIx xs.length xs.length hi=xs.length)/\∀p,H p=KM->Q (.ref p) (upd H p (.tup (Cd xs lo hi)))
def P5:vN X (V8 X.K):=by
 intro f s t H x v u w lo hi y Q I j k l m h;obtain⟨a,d,rfl,n,o,q⟩:=h;cases j;obtain⟨p,r,g,i⟩:=I.tuple n;have c:p.toArray.size=d.length:=by rw[aP];exact r.length.symm
 refine⟨"tuple",_,cy.lookup,g.typeIs,?_⟩;refine HT.getItem_tuple_cut g k l m (by rw[c];exact o) ?_ (by rw[c];exact i);rw[c];refine⟨.ref s.heap.objs.size,_,I.laid (λb z q=>aj _ q) (aE _) ?_,rfl,q _ (I.hok.fresh (aE _))⟩;exact⟨aF (T3 d lo hi) i,_,(r.drop (HT.sIx d.length 0 lo)).take (HT.sIx d.length d.length hi-HT.sIx d.length 0 lo),oy.new _ _⟩
def Oy(K:ai):R2:=λx y H Q=>∃a b xs ys,x=.ref a/\y=.ref b/\rH K H a xs/\rH K H b ys/\xs≠[]/\xs.length+ys.length<=q9/\
 (ys=[]->Q (.ref a) H)/\(ys≠[]->∀p,H p=KM->Q (.ref p) (upd H p (.tup (xs++ys))))
def nY.nil_iff(r:nY xs us):us=[]↔xs=[]:=by
 cases r with
 |nil=>simp
 |cons _ _=>simp
def zfJ:qm X (d9 .Add) (Oy X.K):=by intro f s r H x y v u Q I i j h;obtain⟨a,b,t,A,rfl,rfl,k,l,m,g,n,o⟩:=h;cases i;cases j;obtain⟨B,d,p,_⟩:=I.tuple k;obtain⟨C,c,p2,_⟩:=I.tuple l;refine HT.cat_tup p p2 (λz=>m (d.nil_iff.mp z)) (λz=>⟨.ref a,H,I,rfl,n (c.nil_iff.mp z)⟩) (λz=>?_) (by rw[<- d.length,<- c.length];exact g);refine⟨.ref s.heap.objs.size,_,I.laid (λb D q=>aj _ q) (aE _) ?_,rfl,o (λw=>z (c.nil_iff.mpr w)) _ (I.hok.fresh (aE _))⟩;exact⟨by rw[aB];exact g,_,d.append c,oy.new _ _⟩
end
noncomputable def ixN(n:Nat)(i:Int):Option Nat:=if 0<=i then (if i<n then KF i.toNat else KM) else if -(n:Int)<=i then KF (i+n).toNat else KM
def atI{α:Type}(xs:List α)(i:Int):Option α:=(ixN xs.length i).bind λj=>xs[j]?
def QL(h:ixN n i=KF j):seqIndex? i n=KF j/\j<n/\-(n:Int)<=i/\i<n:=by
 unfold ixN at h;by_cases b:0<=i
 ·rw[qL b] at h;by_cases a:i<n
  ·rw[qL a] at h;have e:=cn h;exact⟨by rw[mC b a,e],by lia,by lia,a⟩
  ·rw[q0 a] at h;cases h
 ·rw[q0 b] at h;by_cases a:-(n:Int)<=i
  ·rw[qL a] at h;have e:=cn h;exact⟨by rw[seqIndex_neg 'o' a,e],by lia,a,by lia⟩
  ·rw[q0 a] at h;cases h
def Ke{α:Type}{xs:List α}{i:Int}{v:α}(h:atI xs i=KF v):∃j,seqIndex? i xs.length=KF j/\xs[j]?=KF v/\j<xs.length/\-(xs.length:Int)<=i/\i<xs.length:=by
 unfold atI at h;cases e:ixN xs.length i with
 |none=>rw[e] at h;cases h
 | some j=>
  rw[e] at h;obtain⟨a,b,c,d⟩:=QL e;exact⟨j,a,h,b,c,d⟩
def atI_nat{α:Type}{xs:List α}{j:Nat}{v:α}(h:xs[j]?=KF v):atI xs (j:Int)=KF v:=by
 have a:=(al.mp h).1;have e:ixN xs.length (j:Int)=KF j:=by
  unfold ixN;rw[qL 'o',qL 'o'];simp
 unfold atI;rw[e];exact h
def Q6(b:aO):Prop:=∀o i,subscripted b qj o i=operate [o,i] (getItem o i)
def zZ(X:Cx)(r:R2):Prop:=
 ∀(value slice:aO)(Y1:List (af×Obj))(s:ag)(σ:St)(H:Hp)(x y:V)(v u:ae)(Q:VK),Inv X Y1 σ H s->RelV x v->RelV y u->r x y H Q->
  subscripted slice qj v u=operate [v,u] (getItem v u)->ar (av X.prog X.w) X.A (subscriptTail value slice v u) (EP X Y1 σ Q) X.xe s
def Jb(X:Cx)(id:String)(r:V->List V->Hp->VK->Prop):Prop:=
 ∀(Y1:List (af×Obj))(s:ag)(σ:St)(H:Hp)(x:V)(xs:List V)(v:ae)(us:List ae)(Q:VK),Inv X Y1 σ H s->RelV x v->nY xs us->r x xs H Q->
  ar (av X.prog X.w) X.A (call (.builtin id) (v::us)) (EP X Y1 σ Q) X.xe s
section
variable{X:Cx}{a b:aO}{ta tb:TE}{pos:Pos}
def zZ.or(h:zZ X r)(h':zZ X r'):zZ X (λx y H Q=>r x y H Q\/r' x y H Q):=by
 intro c d e s f H x y v u Q I g i q j;rcases q with q|q
 ·exact h c d e s f H x y v u Q I g i q j
 ·exact h' c d e s f H x y v u Q I g i q j
def WM(d:zZ X r)(e:PE X a ta)(f:PE X b tb)(g:Q6 b):PE X (.Subscript a b pos) (EN r ta tb):=by intro c s i H Q I h;exact Subscript_ (Jr e f I h λv u j x y k l m n q=>d a b c j i k x y v u Q l m n q (g _ _))
def NN(K:ai):R2:=λx y H Q=>∃p xs i v,x=.ref p/\y=.int i/\qr K H p xs/\atI xs i=KF v/\Q v H
def NJ(K:ai):R2:=λx y H Q=>∃p xs i v,x=.ref p/\y=.int i/\rH K H p xs/\atI xs i=KF v/\Q v H
def NS:R2:=λx y H Q=>∃z i c,x=.str z/\y=.int i/\z.length<=q9/\atI z.cps.toList i=KF c/\Q (.str ⟨#[c]⟩) H
def oY:zZ X (NN X.K):=by
 intro f g c s A H x y v u Q I B C h m;obtain⟨p,O,i,z,rfl,rfl,D,E,q⟩:=h;cases B;obtain⟨t,rfl⟩:=C;obtain⟨F,r,k,P⟩:=I.list D;obtain⟨j,e,G,R,J,L⟩:=Ke E;obtain⟨w,n,M⟩:=r.get G;have N:=r.length;have S:=GX;have d:EP X c A Q w s:=⟨z,H,I,M,q⟩;by_cases o:0<=i
 ·have l:i.toNat=j:=by
   rw[mC o L] at e;exact cn e
  exact item_listR k.isList o 'o' (by rw[l];simpa using n) d m
 ·have l:(i+(F.toArray.size:Int)).toNat=j:=by
   rw[seqIndex_neg 'o' J] at e;rw[aP,<- N];exact cn e
  exact kh k.isList.typeIs slot_list_getitem.lookup
   (wpAny_getItem_list_neg k.isList 'o' (by rw[aP]<;>lia) 'o' (by rw[l];simpa using n) ⟨rfl,d⟩) m
def o0:zZ X (NJ X.K):=by
 intro d e c s k H x y v u Q I l m h n;obtain⟨p,G,i,z,rfl,rfl,o,A,q⟩:=h;cases l;obtain⟨t,rfl⟩:=m;obtain⟨J,r,g,L⟩:=I.tuple o;obtain⟨j,B,C,M,N,O⟩:=Ke A;obtain⟨w,D,E⟩:=r.get C;have F:=r.length;have P:=GX;have f:EP X c k Q w s:=⟨z,H,I,E,q⟩;exact kh g.typeIs cy.lookup
  (getItem_tuple g 'o' 'o' (by rw[aP,<- F];exact B) ⇑D ⟨rfl,f⟩) n
def Xp:zZ X NS:=by
 intro d e f s C H x y v u Q I k l h m;obtain⟨z,i,c,rfl,rfl,D,n,q⟩:=h;obtain⟨t,rfl⟩:=k;obtain⟨E,rfl⟩:=l;obtain⟨j,g,o,F,p,r⟩:=Ke n;have w:z.cps.toList.length=z.length:=by simp[Str.length]
 rw[w] at g p r;have G:=GX;exact tail_any (kU s z t) slot_str_getitem.lookup (getItem_str (by
  have A:decide (i < -(2 ^ 63:Int))=qj:=decide_eq_false 'o';have B:decide (i ≥ 2 ^ 63)=qj:=decide_eq_false 'o';rw[A,B,Bool.or_false]) (by rw[g];simpa using o) ⟨.str ⟨#[c]⟩,H,I.tok _,⟨_,rfl⟩,q⟩) m
def UD(K:ai):R2:=λx y H Q=>NN K x y H Q\/NJ K x y H Q\/NS x y H Q
def X6:zZ X (UD X.K):=oY.or (o0.or Xp)
def za6(c:List ae)(n j:Nat)(u:ae):bt (·.setIfInBounds j u) { cls:=.type "list",data:=.seq c.toArray n } = { cls:=.type "list",data:=.seq (c.set j u).toArray n }:=by simp[bt]
def Inv.lst{c:List (af×Obj)}{σ:St}{H:Hp}{s:ag}{p:af}{xs:List V}(I:Inv X c σ H s)(h:H p=KF (.lst xs)):
  ∃(d:List ae)(n:Nat),nY xs d/\s.heap.get? p=KF { cls:=.type "list",data:=.seq d.toArray n }/\xs.length<=q9:=by obtain⟨z,d,n,r,e⟩:=I.hok p _ h;exact⟨d,n,r,e,z⟩
def Inv.lstUpd{c:List (af×Obj)}{σ:St}{H:Hp}{s:ag}{p:af}{xs g:List V}{j d:List ae}{n i:Nat}{f:Obj->Obj}(I:Inv X c σ H s)(h:H p=KF (.lst xs))
  (l:s.heap.get? p=KF { cls:=.type "list",data:=.seq j.toArray n }) (k:f { cls:=.type "list",data:=.seq j.toArray n } = { cls:=.type "list",data:=.seq d.toArray i }) (r:nY g d) (m:g.length<=q9) (t:Nat) (v:0<t:=by first|exact cU _|exact Inv.tk ‹_›|assumption|lia):
  Inv X c σ (upd H p (.lst g)) { s with heap:=s.heap.update p f,toks:=t }:=by
 have e:(s.heap.update p f).get? p=KF { cls:=.type "list",data:=.seq d.toArray i }:=by
  rw[bX f l (by rw[k]<;>rfl),k]
 refine I.write (by rw[h];trivial) (.inl rfl) (λb u o q=>(bA _ _ (bB o)).trans q) ⟨_,e⟩ ?_;exact⟨m,d,i,r,e⟩
def Wp:V->V->V->Hp->(Hp->Prop)->Prop:=λo i v H Q=>∃p xs k j,o=.ref p/\i=.int k/\H p=KF (.lst xs)/\ixN xs.length k=KF j/\Q (upd H p (.lst (xs.set j v)))
def ze2:NP X Wp:=by
 intro c s A H o i v J K u Q I B C D h;obtain⟨p,E,k,j,rfl,rfl,l,F,q⟩:=h;cases B;obtain⟨t,rfl⟩:=C;obtain⟨m,n,r,e,G⟩:=I.lst l;obtain⟨d,L,w,x⟩:=QL F;have f:=r.length;have M:=GX;have y:Inv X c A (upd H p (.lst (E.set j v))) { s with heap:=s.heap.update p (bt (·.setIfInBounds j u)) }:=
  I.lstUpd l e (za6 m n j u) (r.set D j) (by rw[cr];exact G) s.toks
 by_cases z:0<=k
 ·have g:k.toNat=j:=by
   rw[mC z x] at d;exact cn d
  exact PySem.W.ki_setAt e z 'o' (by rw[aP,<- f];exact x) (by rw[g];exact⟨_,y,q⟩)
 ·have g:(k+(m.toArray.size:Int)).toNat=j:=by
   rw[seqIndex_neg 'o' w] at d;rw[aP,<- f];exact cn d
  exact PySem.W.ki_setBack e 'o' (by rw[aP,<- f];exact w) 'o' (by rw[g];exact⟨_,y,q⟩)
def z7s(lo c:Option Int)(n:Nat):(sliceBounds lo c KM n).1=((HT.sIx n 0 lo:Nat):Int)/\(sliceBounds lo c KM n).2.1=((HT.sIx n n c:Nat):Int)/\(sliceBounds lo c KM n).2.2=1:=by
 refine⟨?_,?_,rfl⟩
 ·cases lo with
  |none=>simp[sliceBounds,HT.sIx]
  | some i=>
   simp only[sliceBounds,HT.sIx,mK,show(1:Int)>0 by decide,if_true];by_cases h:i<0
   ·simp only[h,if_true]<;>lia
   ·simp only[h,if_false]<;>lia
 ·cases c with
  |none=>simp[sliceBounds,HT.sIx]
  | some i=>
   simp only[sliceBounds,HT.sIx,mK,show(1:Int)>0 by decide,if_true];by_cases h:i<0
   ·simp only[h,if_true]<;>lia
   ·simp only[h,if_false]<;>lia
def z6c(c:List ae)(lo d:Option Int):slicePick c.toArray lo d KM=((c.drop (HT.sIx c.length 0 lo)).take (HT.sIx c.length c.length d-HT.sIx c.length 0 lo)).toArray:=by obtain⟨e,f,g⟩:=z7s lo d c.toArray.size;unfold slicePick;rw[e,f,g];simp only[sliceRange_one,pick_run,aP]<;>rfl
def V2(K:ai):V->Option Int->Option Int->Hp->VK->Prop:=λx lo hi H Q=>∃a xs,x=.ref a/\qr K H a xs/\∀p,H p=KM->Q (.ref p) (upd H p (.lst (Cd xs lo hi)))
def QT:vN X (V2 X.K):=by intro f s p H x v t u e g w Q I j k l m h;obtain⟨a,c,rfl,n,q⟩:=h;cases j;obtain⟨y,r,i,o⟩:=I.list n;have d:=r.length;refine⟨"list",_,slot_list_getitem.lookup,i.isList.typeIs,?_⟩;refine wpAny_getItem_list_slice i.isList k l m .none 'd' ?_ (by rw[aP]<;>lia);rw[z6c,<- d];refine⟨.ref s.heap.objs.size,_,I.laid (λb z q=>aj _ q) (aE _) ?_,rfl,q _ (I.hok.fresh (aE _))⟩;exact⟨aF (T3 c e g) o,_,0,(r.drop (HT.sIx c.length 0 e)).take (HT.sIx c.length c.length g-HT.sIx c.length 0 e),aN _ rfl⟩
def oh.or{f:ae}{r d:List V->Hp->VK->Prop}(h:oh X f r)(h':oh X f d):oh X f (λxs H Q=>r xs H Q\/d xs H Q):=by
 intro c s e H xs g Q I i q;rcases q with q|q
 ·exact h c s e H xs g Q I i q
 ·exact h' c s e H xs g Q I i q
def z6b:oh X (.type "tuple") (λxs H Q=>∃p c,xs=[.ref p]/\((qr X.K H p c/\∀l,H l=KM->Q (.ref l) (upd H l (.tup c)))\/(rH X.K H p c/\Q (.ref p) H))):=by
 intro d s v H xs z Q I r h;obtain⟨p,c,rfl,h⟩:=h;obtain⟨u,rfl,w⟩:=uy r;cases w;rcases h with⟨f,q⟩|⟨f,q⟩
 ·obtain⟨g,i,j,m⟩:=I.list f;have n:=i.length;refine call_tuple_list j.isList (λk x=>?_) (by simp<;>lia);have t:=I.kept x;have y:Inv X d v (upd H k.objs.size (.tup c)) { s with heap:=k.push { cls:=.type "tuple",data:=.seq g.toArray } }:=
   t.laid (λb o e=>aj _ e) (aE _) (⟨m,g,i,oy.new _ _⟩)
  exact⟨.ref k.objs.size,_,y,rfl,q _ (t.hok.fresh (aE _))⟩
 ·obtain⟨g,i,j,m⟩:=I.tuple f;exact call_tuple_same j ⟨.ref p,H,I,rfl,q⟩
def Uo(K:ai)(T:String)(x:V)(H:Hp):Prop:=match x with
 |.str _=>T = "str"
 |.int _=>T = "int"
 | .ref p=>(T = "list"/\∃xs,qr K H p xs)\/(T = "tuple"/\∃o,K.lookup p=KF o/\o.cls=.type "tuple"/\o.dict=KM) \/
   (T = "dict"/\((∃i_,H p=KF (.dK i_)) \/ ∃i_,H p=KF (.dT i_)))\/(T = "set"/\∃S n,H p=KF (.set S n))
 |_=>False
def WY(I:Inv X Y1 σ H s)(r:RelV x v)(g:Uo X.K T x H):
  s.TypeIs v T/\∀a,v=.ref a->∃k,s.heap.get? a=KF k/\k.dict=KM:=by
 cases x with
 | str z=>
  obtain⟨t,rfl⟩:=r;cases (g);exact⟨kU s z t,λ_ e=>nomatch e⟩
 | int i=>
  obtain⟨t,rfl⟩:=r;cases (g);exact⟨typeIs_int s i t,λ_ e=>nomatch e⟩
 | ref p=>
  cases r;rcases g with⟨rfl,w,m⟩|⟨rfl,o,d,q,h⟩|⟨rfl,d⟩|⟨rfl,S,n,d⟩
  ·obtain⟨y,_,l,_⟩:=I.list m;refine⟨l.isList.typeIs,λa e=>?_⟩;cases e;obtain⟨o,n,e,c,h,_⟩:=l;exact⟨o,e,h⟩
  ·refine⟨⟨o,I.kIn p o d,q⟩,λa e=>?_⟩;cases e;exact⟨o,I.kIn _ o d,h⟩
  ·have z:∃o,s.heap.get? p=KF o/\o.ExactDict:=by
    rcases d with⟨u,d⟩|⟨u,d⟩
    ·obtain⟨_,_,_,_,o,_,_,e,f,_⟩:=I.hok p _ d;exact⟨o,e,f⟩
    ·obtain⟨_,_,_,_,o,_,_,e,f,_⟩:=I.hok p _ d;exact⟨o,e,f⟩
   obtain⟨o,e,f⟩:=z;refine⟨⟨o,e,f.1⟩,λa j=>?_⟩;cases j;exact⟨o,e,f.2.1⟩
  ·obtain⟨o,_,_,_,e,f,_⟩:=I.hok p _ d;refine⟨⟨o,e,f.1⟩,λa j=>?_⟩;cases j;exact⟨o,e,f.2.1⟩
 |_=>exact ah g
def tBM(K:ai)(T:String)(r:V->List V->Hp->VK->Prop)(to:TE)(t:TA):TE:=λσ H Q=>to σ H λx H1=>Uo K T x H1/\t σ H1 λxs H2=>r x xs H2 Q
variable{o e:aO}{es:List aO}{to:TE}{t:TA}{name:au}{apos o9:Pos}{T id:String}{r:V->List V->Hp->VK->Prop}
def GD(k:PlainAttrs T)(d:Slot T name id)(l:typeOf (.builtin id)=pure (.type "method_descriptor"))(m:Jb X id r)(n:PE X o to)(p:PA X (e::es) t)
  (q:attributeBase o name X.env (eval o X.env)=eval o X.env:=by rfl)
  (u:((backTo o9 (aA (e::es) X.env)).all (λx=>!x.1)&&(backToKw o9 (keywordEach [] X.env)).all (λx=>x.1.isSome)
   && decide ((e::es).length+([]:List fy).length+(if ([]:List fy).isEmpty then 0 else 1)<30))=qb:=by rfl)
  (w:(apos.endLine==o9.line)=qb:=by rfl) (y:aA (e::es) X.env=(qj,eval e X.env)::aA es X.env:=by rfl) (z:(backTo o9 (aA es X.env)).any (·.1)=qj:=by rfl):
  PE X (.Call (.Attribute o name apos) (e::es) [] o9) (tBM X.K T r to t):=by intro c s f H Q I h;refine ki q u w rfl (o_ (n c s f H _ I h) λv A ⟨x,B,g,i,C,D⟩=>?_);obtain⟨E,F⟩:=WY g i C;refine⟨T,id,k,d,l,E,F,?_⟩;have j:=p o9 c A f B _ g D;rw[y] at j ⊢;refine kl (by show(qj||(backTo o9 (aA es X.env)).any (·.1))=qj;rw[z]<;>rfl) (ie ?_);exact o_ j λG J ⟨L,M,N,O,P⟩=>m c J f M x L v G Q N i O P
end
def VD(X:Cx)(id:String)(r:V->List V->Hp->VK->Prop):Prop:=
 ∀(Y1:List (af×Obj))(s:ag)(σ:St)(H:Hp)(x:V)(xs:List V)(v:ae)(us:List ae)(Q:VK),Inv X Y1 σ H s->RelV x v->nY xs us->r x xs H Q->
  ar (av X.prog X.w) X.A (call (.builtin id) (v::us)) (EP X Y1 σ Q) X.xe s
def nY.one:∀{x:V}{a:List ae},nY [x] a->∃u,a=[u]/\RelV x u
 |_,_,.cons r .nil=>⟨_,rfl,r⟩
theorem nY.eraseIdx:∀{xs:List V}{a:List ae}(i:Nat),nY xs a->nY (xs.eraseIdx i) (a.eraseIdx i)
 |_,_,_,.nil=>.nil
 |_,_,0,.cons _ t=>t
 |_,_,i+1,.cons r t=>.cons r (nY.eraseIdx i t)
def nY.reverse{xs:List V}{a:List ae}(h:nY xs a):nY xs.reverse a.reverse:=by
 induction h with
 |nil=>exact .nil
 |cons r t ih=>rw[mh,mh];exact nY.append ih (.cons r .nil)
section
variable{X:Cx}{Y1:List (af×Obj)}{σ:St}{H:Hp}{s:ag}{l:af}{xs ys:List V}
def Inv.lset{b a:List ae}{n:Nat}{f:Array ae->Array ae}{t':Nat}(I:Inv X Y1 σ H s)(c:H l=KF (.lst xs))
  (e:s.heap.get? l=KF { cls:=.type "list",data:=.seq b.toArray n }) (d:f b.toArray=a.toArray) (g:nY ys a) (h:ys.length<=q9) (k:0<t':=by first|exact cU _|exact Inv.tk ‹_›|assumption|lia):
  Inv X Y1 σ (upd H l (.lst ys)) { s with heap:=s.heap.update l (bt f),toks:=t' }:=by have q:=PySem.IsL.update e f;rw[d] at q;refine I.write (by rw[c];exact trivial) (.inl rfl) (λm u i j=>(bA s.heap (bt f) (bB i)).trans j) ⟨_,q⟩ ?_;exact⟨h,a,_,g,q⟩
def Inv.lnew(I:Inv X Y1 σ H s)(a:nY ys d_)(b:ys.length<=q9)(c:0<t':=by first|exact cU _|exact Inv.tk ‹_›|assumption|lia):
  Inv X Y1 σ (upd H s.heap.objs.size (.lst ys)) { s with heap:=s.heap.push { cls:=.type "list",data:=.seq d_.toArray },toks:=t' }:=
 I.laid (λ_ _ q=>aj _ q) (aE _) ⟨b,d_,0,a,aN _ rfl⟩
def Inv.fresh(I:Inv X Y1 σ H s):H s.heap.objs.size=KM:=I.hok.fresh (aE _)
def Inv.lstM(I:Inv X Y1 σ H s)(b:H l=KF (.lst xs)):xs.length<=q9/\∃(a:List ae)(n:Nat),nY xs a/\xs.length=a.length/\s.heap.get? l=KF { cls:=.type "list",data:=.seq a.toArray n }:=by obtain⟨z,a,n,r,e⟩:=I.hok l _ b;exact⟨z,a,n,r,r.length,e⟩
def zed{n:Nat}(h:n<=q9):gQ n=qj:=by exact decide_eq_false 'o'
end
section
variable{X:Cx}
def ZM:V->List V->Hp->VK->Prop:=λx vs H Q=>∃l xs y,x=.ref l/\vs=[y]/\H l=KF (.lst xs)/\xs.length<q9/\Q .non (upd H l (.lst (xs++[y])))
def SN:VD X "list.append" ZM:=by intro a s i H x j v k Q I c d h;obtain⟨l,m,y,rfl,rfl,b,o,q⟩:=h;cases c;obtain⟨u,rfl,f⟩:=d.one;obtain⟨z,g,n,r,p,e⟩:=I.lstM b;refine call_meets kE ⟨_,e,rfl⟩ F.entry_list_append (F.args_list_append_2 _ _) (PySem.list_append l g.toArray n u (by rw[aP];lia)) ⟨e,?_⟩;refine⟨.non,_,I.lset b e 'd' (r.append (.cons f .nil)) ?_,rfl,q⟩;rw[aB,e9];lia
end
section
end
end L2
namespace Att
open PySem PySem.W PySem.Calls PyProof.Rows
def z4O:∀(ns:List Int)(vs:List ae),WellAll P h vs (ns.map nD)->kC vs ns:=by
 intro ns
 induction ns with
 | nil=>
  intro vs w;cases w;exact .nil
 | cons n ns ih=>
  intro vs w;cases w with
  | cons a b=>
   cases a;exact .cons _ _ (ih _ b)
def zc3{l:lP}{n:Nat}(j:l.most=KF n){P:iG}{h:aL}{args:List WData}{b:List ae}
  (i:l.row.toRowW.claim.pre args=qb) (k:WellAll P h b args):
  ∃a vs ns,b=[cZ a]/\args=[WData.list (ns.map nD)]/\h.get? a=KF { cls:=.type "list",data:=.seq vs.toArray }/\kC vs ns/\ns.length<=n:=by
 have f:=(pre_splitW i).1;have m:l.pre.holds [] { args:=args } = qb:=(pre_splitW i).2;obtain⟨d,r,rfl,o,p⟩:=hasAllW_cons f;obtain rfl:=hasAllW_nil p;obtain⟨t,rfl,s⟩:=hasW_list o;obtain⟨ns,rfl⟩:=items_int s;have c:ns.length<=n:=by
  have e:(WTm.not (.lt (.lit (.int (n:Int))) (.len (.arg 0)))).holds [] { args:=[.list (ns.map .int)] } = qb:=by
   have e:=(holds_andW m).1;rw[j] at e;exact e
  have g:=condW_of e (w_not (w_lt w_lit (w_len_list (w_arg rfl))));refine Nat.le_of_not_lt λq=>?_
  first
   |(rw[decide_eq_true q'] at g;exact absurd g 's')
   |(simp at g;lia)
 cases k with
 | cons w1 w2=>
  cases w2;cases w1 with
  |list ho rQ=>exact⟨_,_,ns,rfl,rfl,ho,z4O ns _ rQ,c⟩
def zcD(l:lP)(a:List WData):l.row.toRowW.claim.post a (.bool qb) a=qb:=
 postW_of
  (show WShape.has [] (.bool qb) .bool=qb by first|rfl|decide|simp[WShape.has,WShape.arms,WShape.armsAll])
  (w_eq_bool (w_res rfl) w_lit) rfl
theorem TB:∀ns:List Int,ll (ns.map PyData.int)=ns.map nD
 |[]=>by simp[ll]
 |n::ns=>by simp only[bz,ll,lQ];rw[TB ns]
def attach_call{l:lP}{n:Nat}{q:aD}{loose:List au}{XP:(au->Option ae)->aL->Prop}{p:aR->aL->Prop}{d:DefRec}{α:Type}{Yf:ag->α}{Ya:aR->α}
  (C:l.most=KF n) (D:d.params.defaults=[]) (E:∀w s,Yf s=Ya w->p w s.heap) (F:∀w h h',p w h->(∀b o,h.get? b=KF o->h'.get? b=KF o)->p w h')
  (j:∀(w:aR)(c e:ag)(t v:au->Option ae)(k:af)(o:Obj)(x u g:ae)(a:af)(vs:List ae)(ns:List Int),
   Ground q loose [] XP w c t v e.heap->p w e.heap->
   e.heap.get? k=KF o->o.data=.func (docDef d.name d.params d.body d.scope x u g)->e.heap.CodeRec u d.name->t d.name=KF (.ref k)->
   e.heap.get? a=KF { cls:=.type "list",data:=.seq vs.toArray }->kC vs ns->ns.length<=n->e.gens = #[]->0<e.toks->
   codeAny (av l.prog w) callerA (.call (.ref k) ⟨[.ref a],[]⟩) (λr s'=>r=.ok (.ret (.bool qb))/\OldK e.heap s'.heap/\s'.os=e.os/\f6 s'.gens) e):
  WalkX q loose XP (λs=>(Yf s,decide (0<s.toks))) (λw=>(Ya w,qb)) l.row.toRowW d [] (λf vs=>PySem.call f vs):=by
 intro w c e t v G Y k o x u g H I J K M y N O z A P L Q B R S Dp;obtain rfl:H=.none:=Dflts.none y D;obtain rfl:I=.none:=Dflts.noKw y;have T:=congrArg jM Y;have U:=of_decide_eq_true (congrArg kW Y);obtain⟨a,vs,ns,rfl,rfl,V,i,m⟩:=zc3 C Q S;have Z:Laid l.row.toRowW.records w c e [lQ (fw (ns.map PyData.int))] [.ref a] P:=by
  rw[lQ,TB];exact L
 have pP:=aY U (PySem.W.X.script_toks Z rfl);refine enter_call (eC (j w c e t v k o x u g a vs ns G (F _ _ _ (E w c T) L.keeps) J (fd_plain K) M N V i m O pP) λr s' hq=>?_);obtain⟨rfl,h2,h3,h4⟩:=hq;exact⟨.inl ⟨.bool qb,.bool qb,[],rfl,λ_=>rfl,.bool qb,zcD l _,λ_=>⟨dM,λ_ hm=>(nomatch hm)⟩⟩,h2,h3,h4⟩
section
end
end Att
namespace L2
open PySem PySem.Spec PyProof.Rows
theorem Ta:∀{vs:List ae}{ns:List Int},kC vs ns->nY (ns.map V.int) vs
 |_,_,.nil=>.nil
 |_,_,.cons n t h=>.cons ⟨t,rfl⟩ (Ta h)
noncomputable def uF(s:cN):eu:=match s with
 |.FunctionDef _ a _ _ _ _ _ _ _ _=>a
 |_=>{ posonlyargs:=[],args:=[],vararg:=KM,kwonlyargs:=[],kw_defaults:=[],kwarg:=KM,defaults:=[] }
def rV(s:cN):List cN:=match s with
 |.FunctionDef _ _ b _ _ _ _ _ _ _=>b
 |_=>[]
def pF(s:cN):bS:=match s with
 |.FunctionDef _ _ _ _ _ _ sc _ _ _=>sc
 |_=>{ kind:=.function,names:=[],isGenerator:=qj,isCoroutine:=qj }
abbrev AJ:vp:=λ_ _ _ _ _ _=>False
abbrev E0:XK:=λ_ _ _=>False
def OG:Ag AJ X E0:=λ_ _ _ _ _ _ _ h=>h.elim
structure Fun(K:ai)(x qual:au)(st:cN)(f:af)(fd:dB):Prop where
 ex:∃(oc:ae)(od:Option af)(kV doc pm:ae)(an:Option af)(k_ ct:ae)(rE:Array (Option ae)),
  fd=bd x qual (uF st) (rV st) (pF st) .none kV doc pm an k_ ct/\K.lookup f=KF ⟨oc,od,.func fd,rE⟩/\cS K k_ qual=qb
 kp:cR K (.ref f)=qb
section
variable{P:aD}{w:aR}{K:ai}{mg:au->Option ae}{base:aL}
def Fun.ok{x b:au}{c:cN}{f:af}{j:dB}{N e:List au}{k:Nat}{g:Sp}(F:Fun K x b c f j)(S:rj N e (pF c))(i:∀vs H Q E,g vs H Q E->vs.length=e.length)
  (l:∀(d:ae)(A:aU)(a:List Env)(s:ag)(H:Hp)(vs:List V)(Q:VK)(E:XK),nZ k (A.deeper (envOfC b (pF c) s.heap.objs.size f d))->g vs H Q E->
   ∃t,rL (yB AJ P w K mg base N b (pF c) f d A a s H E).nox (rV c) t/\t { nx:=λ_ H'=>Q .non H',rt:=Q } (start N vs) H):oj P w K mg base AJ (k+1) f j e g:=by obtain⟨u,v,y,m,z,B,d,C,D,rfl,n,o⟩:=F.ex;refine qv n o S i λA a s H vs Q E p r=>?_;obtain⟨t,h,q⟩:=l d A a s H vs Q E p r;exact⟨t,h.nox,q⟩
def Fun.binds{x a:au}{c:cN}{f:af}{m:dB}{d:List au}(F:Fun K x a c f m)
  (h:∀(e b g:ae)(i:Option af)(j k:ae)(l:List ae),l.length=d.length->bindArgs (bd x a (uF c) (rV c) (pF c) .none e b g i j k) ⟨l,[]⟩=pure (d.zip l)):Binds K m d []:=by obtain⟨n,o,e,b,g,i,j,k,p,rfl,q,r⟩:=F.ex;exact .all (h e b g i j k)
def J6{x a:au}{b:cN}{f:af}{m:ae}{n g:Option af}{o:Array (Option ae)}{h d i e j:ae}(l:K.lookup f=KF ⟨m,n,.func (bd x a (uF b) (rV b) (pF b) .none h d i g e j),o⟩)
  (c:cS K e a=qb) (k:cR K (.ref f)=qb):Fun K x a b f (bd x a (uF b) (rV b) (pF b) .none h d i g e j):=⟨⟨m,n,h,d,i,g,e,j,o,rfl,l,c⟩,k⟩
end
def Xc(a:nZ k A):A.units+1<cLine:=gR (Nat.add_le_add_left (by decide:1<=64) _) a.units
def oa(H H':Hp):Prop:=∀b o,H b=KF o->H' b=KF o
def oa.refl(H:Hp):oa H H:=λ_ _ h=>h
def oa.trans(a:oa H H1)(b:oa H1 H2):oa H H2:=λc o h=>b c o (a c o h)
def oa.free{H H':Hp}(e:oa H H'){l:af}(h:H' l=jf):H l=jf:=by
 cases q:H l with
 |none=>rfl
 | some o=>
  rw[e l o q] at h;cases h
def oa.seq{K:ai}{H H':Hp}{a:af}{xs:List V}(e:oa H H')(h:qr K H a xs):qr K H' a xs:=by
 rcases h with(h|⟨o,h⟩)|h
 ·exact .inl (.inl (e _ _ h))
 ·exact .inl (.inr ⟨o,e _ _ h⟩)
 ·exact .inr h
section
variable{κ:Type}[DecidableEq κ]
def tw(i_:List (κ×V))(k:κ):Option V:=(i_.find? λkv=>decide (kv.1=k)).map (·.2)
noncomputable def xR(i_:List (κ×V))(k:κ)(v:V):List (κ×V):=
 if (i_.any λkv=>decide (kv.1=k))=qb then i_.map (λkv=>if kv.1=k then (kv.1,v) else kv) else i_++[(k,v)]
def zm(i_:List (κ×V))(k:κ):List (κ×V):=i_.filter λkv=>decide (kv.1≠k)
def El{p:κ×V}{r:List (κ×V)}{k:κ}(e:p.1=k):tw (p::r) k=KF p.2:=by simp[tw,eD,e]
def CT{p:κ×V}{r:List (κ×V)}{k:κ}(e:¬ p.1=k):tw (p::r) k=tw r k:=by simp[tw,eD,e]
theorem RW(k:κ):∀a:List (κ×V),(a.any λkv=>decide (kv.1=k))=(tw a k).isSome
 |[]=>rfl
 | p::r=>by
  rw[fD];by_cases e:p.1=k
  ·simp only[El e,decide_eq_true e,Bool.true_or,lR]
  ·rw[CT e,decide_eq_false e,lp];exact RW k r
def TX(a:List (κ×V))(k:κ)(v:V):(xR a k v).length<=a.length+1:=by
 unfold xR;split
 ·rw[ax];lia
 ·rw[aB,a7,fJ];lia
def zea{a:List (κ×V)}{k:κ}(v:V)(h:tw a k=KM):xR a k v=a++[(k,v)]:=by unfold xR;rw[RW,h];exact q0 's'
def oA.isSome_eq(r:oA o u):o.isSome=u.isSome:=by
 cases o with
 | none=>cases u with
  |none=>rfl
  |some _=>exact(r).elim
 | some _=>cases u with
  |none=>exact(r).elim
  |some _=>rfl
def oA.getD(r:oA o u)(a:RelV d d'):RelV (o.getD d) (u.getD d'):=by
 cases o with
 | none=>cases u with
  |none=>exact a
  |some _=>exact(show False from r).elim
 | some _=>cases u with
  |none=>exact(show False from r).elim
  |some _=>exact r
def KV.val{c:List (κ×V)}{vs:List (κ×ae)}(r:KV c vs)(k:κ):oA (tw c k) (valueAt vs k):=by
 induction r with
 |nil=>exact eE
 | @cons p q ps qs h t ih=>
  obtain⟨d,f⟩:=h;by_cases e:p.1=k
  ·have a:=d.symm.trans e;have b:valueAt (q::qs) k=KF q.2:=by simp[valueAt,eD,a]
   rw[El e,b];exact f
  ·have a:¬ q.1=k:=λz=>e (d.trans z);have b:valueAt (q::qs) k=valueAt qs k:=by simp[valueAt,eD,a]
   rw[CT e,b];exact ih
def KV.any{a:List (κ×V)}{vs:List (κ×ae)}(r:KV a vs)(k:κ):(a.any λkv=>decide (kv.1=k))=vs.any λkv=>decide (kv.1=k):=by
 induction r with
 |nil=>rfl
 |cons h t ih=>rw[fD,fD,ih,h.1]
def KV.repl(r:KV i_ vs)(k:κ)(b:RelV y u):
  KV (i_.map λkv=>if kv.1=k then (kv.1,y) else kv) (vs.map λkv=>if kv.1=k then (kv.1,u) else kv):=by
 induction r with
 |nil=>exact .nil
 | @cons p q ps qs h t ih=>
  rw[bz,bz];refine .cons ?_ ih;obtain⟨a,c⟩:=h;by_cases e:p.1=k
  ·rw[qL e,qL (a.symm.trans e)];exact⟨a,b⟩
  ·rw[q0 e,q0 (λz=>e (a.trans z))];exact⟨a,c⟩
def KV.put(r:KV i_ vs)(k:κ)(a:RelV y u):KV (xR i_ k y) (stored vs k u):=by
 unfold xR stored;rw[r.any k];by_cases e:(vs.any λb=>decide (b.1=k))=qb
 ·rw[qL e,qL e];exact r.repl k a
 ·rw[q0 e,q0 e];exact Paired.snoc r ⟨rfl,a⟩
def KV.drop(r:KV i_ vs)(k:κ):KV (zm i_ k) (without vs k):=by
 unfold zm without
 induction r with
 |nil=>exact .nil
 | @cons p q ps qs h t ih=>
  obtain⟨c,d⟩:=h;rw[eM,eM];by_cases e:p.1=k
  ·have a:¬ decide (p.1≠k)=qb:=by simp[e]
   have b:¬ decide (q.1≠k)=qb:=by simp[c.symm.trans e]
   rw[q0 a,q0 b];exact ih
  ·have f:¬ q.1=k:=λz=>e (c.trans z);have a:decide (p.1≠k)=qb:=by simp[e]
   have b:decide (q.1≠k)=qb:=by simp[f]
   rw[qL a,qL b];exact .cons ⟨c,d⟩ ih
def KV.length(r:KV i_ vs):i_.length=vs.length:=li r
def ze1(a:List (κ×V))(k:κ):(zm a k).length<=a.length:=bo _ _
end
def CA(r:RelV (kV k) u):(uk P w).is k u=qb:=by
 cases k with
 |inl i=>obtain⟨t,e⟩:=(r);subst e;exact z7T P w i t
 |inr x=>obtain⟨t,e⟩:=(r);subst e;exact z8g P w x t
theorem SD:∀{a:List Key}{b:List ae},nY (a.map kV) b->ItemsAre (uk P w) a b
 |[],_,r=>by rw[jL] at r;cases r;exact .nil
 | k::a,_,r=>by
  cases r with
  |cons h t=>exact .cons (CA h) (SD t)
abbrev KT(H:Hp):List (List Key×V)->List (List Key×af×ae)->Prop:=cj λp q=>p.1=q.1/\H q.2.1=KF (.tup (p.1.map kV))/\RelV p.2 q.2.2
def KT.val{H:Hp}{c:List (List Key×V)}{xs:List (List Key×af×ae)}(r:KT H c xs)(k:List Key):oA (tw c k) ((atKey xs k).map (·.2)):=by
 induction r with
 |nil=>exact eE
 | @cons p q ps qs h t ih=>
  obtain⟨d,_,f⟩:=h;by_cases e:p.1=k
  ·have a:=d.symm.trans e;have b:atKey (q::qs) k=KF q.2:=by simp[atKey,eD,a]
   rw[El e,b];exact f
  ·have a:¬ q.1=k:=λz=>e (d.trans z);have b:atKey (q::qs) k=atKey qs k:=by simp[atKey,eD,a]
   rw[CT e,b];exact ih
section
variable{P:aD}{w:aR}{H:Hp}{h:aL}{a:af}
def Ot(ok:HOk P w H h)(e:Rd H a u):on P w H h a u:=e.ok ok
def Cz(ok:HOk P w H h)(e:Rd H a (.dK i_)):i_.length<=q9/\(a==sysModules)=qj/\∃vs,KV i_ vs/\h.DictOf (uk P w) a vs:=
 show on P w H h a (.dK i_) from Ot ok e
def GC(ok:HOk P w H h)(e:H a=KF (.dK i_)):i_.length<=q9/\(a==sysModules)=qj/\∃vs,KV i_ vs/\h.DictOf (uk P w) a vs:=Cz ok (.inl e)
def O9(ok:HOk P w H h)(e:H a=KF (.tup (ks.map kV))):(tupleKind (uk P w)).is h ks a:=by obtain⟨_,b,r,o,c,d,⟨n,f⟩,_⟩:=(ok a _ e);exact⟨o,b.toArray,n,c,d,f,by simpa using SD r⟩
def OA(ok:HOk P w H h)(e:Rd H a (.dT i_)):i_.length<=q9/\(a==sysModules)=qj/\
  ∃xs,KT H i_ xs/\h.DictOfH (tupleKind (uk P w)) a xs:=by
 obtain⟨z,y,xs,r,o,c,d,f,g,i,j,k⟩:=(Ot ok e);refine⟨z,y,xs,r,o,c,d,f,g,i,j,λx hx=>?_,k⟩;have b:∀{l:List (List Key×V)}{m:List (List Key×af×ae)},KT H l m->∀x∈m,(tupleKind (uk P w)).is h x.1 x.2.1:=by
  intro l m q
  induction q with
  |nil=>intro x hx;exact nomatch hx
  | @cons p q ps qs hq t ih=>
   intro x hx;rcases aq.mp hx with e|hx
   ·subst e;exact O9 ok (by rw[<- hq.1];exact hq.2.1)
   ·exact ih x hx
 exact b r x hx
end
def Jp(H:Hp)(a:af)(y:V)(r:Option V):Prop:=
 (∃i_ k,Rd H a (.dK i_)/\y=kV k/\r=tw i_ k) \/ ∃i_ k b,Rd H a (.dT i_)/\y=.ref b/\H b=KF (.tup (k.map kV))/\r=tw i_ k
section
variable{X:Cx}{Y1:List (af×Obj)}{σ:St}{H:Hp}{s:ag}{a:af}{y v:V}{u:ae}{A:aU}{E:ae->ag->Prop}
def Inv.big(I:Inv X Y1 σ H s):sysModules<s.heap.objs.size:=by have h:=(I.mod.glob.keeps I.bk).lt;exact Nat.lt_trans 's' h
def zaL(o:A.units+1<cLine)(I:Inv X Y1 σ H s)(g:Jp H a y (KF v))(n:RelV y u)(h:∀d s',Inv X Y1 σ H s'->RelV v d->Q d s'):
  ar (av X.prog X.w) A (getItem (.ref a) u) Q E s:=by
 rcases g with⟨q,k,e,f,l⟩|⟨q,k,b,e,f,r,l⟩
 ·subst f;obtain⟨z,t,C,c,i⟩:=Cz I.hok e;obtain⟨d,j,m⟩:=oA.some_of (by rw[l];exact c.val k);exact jN (CA n) i.mapOf j (h d _ (I.tok _) m)
 ·subst f;cases (n);obtain⟨z,t,D,c,i⟩:=OA I.hok e;obtain⟨d,j,m⟩:=oA.some_of (by rw[l];exact c.val k);obtain⟨p,x,B⟩:=hV.mp j;refine wpAny_getItem_heap (tupleKind_room_in1 o) (O9 I.hok r) i x ?_;rw[B];exact h d _ (I.tok _) m
def Kr(I:Inv X Y1 σ H s)(d:F_ (H a))(e:dP a s.heap h')(f:∃q,h'.get? a=KF q)(c:on X.prog X.w (upd H a ob) h' a ob)(h:0<t':=by first|exact cU _|exact Inv.tk ‹_›|assumption|lia):
  Inv X Y1 σ (upd H a ob) { s with heap:=h',toks:=t' }:=
 I.write d (.inl rfl) (λb q g z=>(e.2 b g).trans z) f c
def GR(z:i_.length<=q9)(c:(a==sysModules)=qj)(b:KV i_ vs)(dd:h'.DictOf (uk P w) a vs):
  on P w H' h' a (.dK i_):=⟨z,c,vs,b,dd⟩
end
section
variable{X:Cx}{Y1:List (af×Obj)}{σ:St}{H:Hp}{s:ag}{a:af}{i_:List (Key×V)}{k:Key}{u:ae}{A:aU}{E:ae->ag->Prop}
def zct(I:Inv X Y1 σ H s)(e:H a=KF (.dK i_))(f:RelV (kV k) u)(l:(tw i_ k).isSome=qb)(h:∀s',Inv X Y1 σ (upd H a (.dK (zm i_ k))) s'->Q () s'):
  ar (av X.prog X.w) A (delItem (.ref a) u) Q E s:=by
 obtain⟨z,g,i,b,c⟩:=GC I.hok e;refine wpAny_delItem_slot c.typeIs 's' jD
  (call_meetsIn jD c.typeIs PySem.F.entry_dict_delitem (PySem.F.args_dict_delitem_2 _ _) (meets_dict_delitem_pairs (uk X.prog X.w) a (CA f)) ⟨i,c,by rw[<- b.length];exact z,by rw[<- (b.val k).isSome_eq];exact l,λj d m=>h _ ?_⟩)
 have n:∃q,j.get? a=KF q:=let ⟨q,_,_,hq,_⟩:=d;⟨q,hq⟩;exact Kr I (by rw[e];exact eE) m n (GR (aF (ze1 i_ k) z) g (b.drop k) d)
end
def B9(i:aO):Prop:=∀ov iv,subscripted i qj ov iv=operate [ov,iv] (getItem ov iv)
def Kb{prog:aD}{w:aR}{A:aU}{E:ae->ag->Prop}{s:ag}{env:Env}{b a:aO}{pos:Pos}{T j:String}{Q:ae->ag->Prop}
  (k:typeLookup (.type T) "__getitem__" = pure (KF (.builtin j))) (l:B9 a)
  (h:ar (av prog w) A (eval b env) (λo f=>ar (av prog w) A (eval a env) (λi d=>d.TypeIs o T/\ar (av prog w) A (getItem o i) Q E d) E f) E s):
  ar (av prog w) A (eval (.Subscript b a pos) env) Q E s:=by
 refine Subscript_ (bZ h (λo f m=>bZ m (λi d e=>?_) λ_ _ x=>x) λ_ _ x=>x);obtain⟨n,e⟩:=e;refine aa ?_;refine aa (wpAny_specialOf n k ?_);have c:ar (av prog w) A (subscripted a qj o i) (λr g=>ar (av prog w) A (letTemporaryGo b o r >>= λ_=>pure r) Q E g) E d:=by
  rw[l o i];exact wpAny_operating (bZ e (λr g p=>aa (wpAny_letTemporaryGo (ao p))) λ_ _ x=>x)
 first
  |exact ao (aa c)
  |exact aa (ao (aa c))
  |exact aa c
def z7Y(I:Inv X Y1 σ H s)(g:Jp H a y o):s.TypeIs (.ref a) "dict":=by
 rcases g with⟨d,k,e,_,_⟩|⟨d,k,b,e,_,_,_⟩
 ·obtain⟨_,_,f,_,c⟩:=Cz I.hok e;exact c.typeIs
 ·obtain⟨_,_,h,_,c⟩:=OA I.hok e;exact c.typeIs
def Wo(td ty:TE):TE:=λσ H Q=>td σ H λx H1=>ty σ H1 λy H2=>∃a v,x=.ref a/\Jp H2 a y (KF v)/\Q v H2
def Wt(td ty:TE):TS:=λD σ H=>td σ H λx H1=>ty σ H1 λy H2=>∃a i_ k,x=.ref a/\H2 a=KF (.dK i_)/\y=kV k/\(tw i_ k).isSome=qb/\D.nx σ (upd H2 a (.dK (zm i_ k)))
section
variable{X:Cx}{o i e:aO}{pos LH:Pos}{td ty:TE}
def Y5(f:X.A.units+1<cLine)(j:PE X o td)(k:PE X i ty)(l:B9 i):PE X (.Subscript o i pos) (Wo td ty):=by intro b s c H Q I h;refine Kb gG.lookup l (o_ (j b s c H _ I h) λu m ⟨x,n,p,q,r⟩=>o_ (k b m c n _ p r) λE F ⟨y,t,d,w,a,v,z,g,B⟩=>?_);subst z;obtain rfl:u=cZ a:=q;exact⟨z7Y d g,zaL f d g w λG J C D=>⟨v,t,C,D,B⟩⟩
def Zd(d:PE X o td)(f:PE X i ty):PS X (.Delete [.Subscript o i LH] pos) (Wt td ty):=by intro b s c H D I h;refine wpAny_Delete (wpAny_deleteEach_cons (wpAny_delete_Subscript (o_ (d b s c H _ I h) λu g ⟨x,j,m,n,p⟩=>o_ (f b g c j _ m p) λA B ⟨y,C,q,r,a,E,k,t,e,v,l,w⟩=>?_)));subst t v;obtain rfl:u=cZ a:=n;exact zct q e r l λF z=>wpAny_deleteEach_nil ⟨c,_,z,w⟩
end
def zdy(h:aL)(a:sysModules<h.objs.size):on P w H (h.push { cls:=.type "dict",data:=.dict #[] }) h.objs.size (.dK []):=
 ⟨ck _,beq_eq_false_iff_ne.mpr (bB (bu a)),[],.nil,Heap.DictOf.new h⟩
noncomputable def D0:List (TE×TE)->St->Hp->(List (V×V)->Hp->Prop)->Prop
 |[],_,H,Q=>Q [] H
 |(tk,tv)::r,σ,H,Q=>tk σ H λx H1=>tv σ H1 λy H2=>D0 r σ H2 λps H3=>Q ((x,y)::ps) H3
abbrev VV:List (V×V)->List (ae×ae)->Prop:=cj λp q=>RelV p.1 q.1/\RelV p.2 q.2
def F8(X:Cx)(pos:Pos)(keys:List (Option aO))(values:List aO)(zE:List (TE×TE)):Prop:=
 ∀(Y1:List (af×Obj))(s:ag)(σ:St)(H:Hp)(Q:List (V×V)->Hp->Prop),Inv X Y1 σ H s->D0 zE σ H Q->
  ar (av X.prog X.w) X.A (evalPairs (pairTrees keys values X.env pos)) (λvs s'=>∃ps H',Inv X Y1 σ H' s'/\VV ps vs/\Q ps H') X.xe s
def Z4:F8 X pos [] [] []:=λa s b H Q I h=>pairTrees_nil_walk ⟨[],H,I,.nil,h⟩
def zdq(d:PE X k tk)(e:PE X v tv)(f:F8 X pos ks vs zE):
  F8 X pos (KF k::ks) (v::vs) ((tk,tv)::zE):=λa s b H Q I h=>
 pairTrees_cons_walk (o_ (d a s b H _ I h) λu g ⟨x,i,j,l,m⟩=>o_ (e a g b i _ j m) λB n ⟨y,o,p,q,r⟩=>
  o_ (f a n b o _ p r) λC D ⟨t,w,z,c,A⟩=>⟨(x,y)::t,w,z,.cons ⟨l,q⟩ c,A⟩)
def zt(i_ more:List (Key×V)):List (Key×V):=more.foldl (λKB kv=>xR KB kv.1 kv.2) i_
def KV.merge:∀{a:List (Key×V)}{c:List (Key×ae)}{b:List (Key×V)}{vs:List (Key×ae)},KV a c->KV b vs->KV (zt b a) (merged vs c):=by
 intro a c b vs r
 induction r generalizing b vs with
 |nil=>intro q;exact q
 | @cons p q ps qs h t ih=>
  intro d;have e:KV (xR b p.1 p.2) (stored vs q.1 q.2):=by
   have:=d.put p.1 h.2;rw[<- h.1];exact this
  exact ih e
theorem T8:∀(more i_:List (Key×V)),(zt i_ more).length<=i_.length+more.length
 |[],i_=>by show i_.length<=i_.length+0;lia
 | p::r,i_=>by
  have a:=T8 r (xR i_ p.1 p.2);have b:=TX i_ p.1 p.2;show(zt (xR i_ p.1 p.2) r).length<=_;rw[a7];lia
theorem TH:∀{i_:List (Key×V)}{ws:List (ae×ae)},VV (i_.map λkv=>(kV kv.1,kv.2)) ws->∃d,Carries (uk P w) ws d/\KV i_ d
 |[],_,r=>by rw[jL] at r;cases r;exact⟨[],eE,.nil⟩
 | p::i_,_,r=>by
  cases r with
  | @cons a b as bs h t=>
   obtain⟨d,c,q⟩:=TH t;obtain⟨f,e⟩:=b;exact⟨(p.1,e)::d,⟨CA h.1,rfl,c⟩,.cons ⟨rfl,h.2⟩ q⟩
def WA(zE:List (TE×TE)):TE:=λσ H Q=>∀p,H p=KM->D0 zE σ (upd H p (.dK [])) λps H2=>H2 p=KF (.dK [])/\∃i_:List (Key×V),ps=i_.map (λkv=>(kV kv.1,kv.2))/\i_.length<=15/\Q (.ref p) (upd H2 p (.dK (zt [] i_)))
def Z_(h:F8 X pos keys values zE)(i:keys.all (·.isSome)=qb)(j:keys.length=values.length)(h0:keys≠[])
  (k:keys.length<=15):PE X (.Dict keys values pos) (WA zE):=by
 intro a s l H Q I q;have m:=I.hok.fresh (aE s.heap.objs.size);have n:=I.laid (λ_ _ q=>aj _ q) (aE _) (zdy s.heap I.big);refine wpAny_Dict_walk (knd:=uk X.prog X.w) i j h0 k (o_ (h a _ l _ _ n (q _ m)) λF G ⟨J,K,b,d,e,f,o,L,p⟩=>?_);subst o;obtain⟨r,c,t⟩:=TH d;obtain⟨z,u,v,x,y⟩:=GC b.hok e;cases x;refine⟨r,c,y,λA g B=>⟨.ref s.heap.objs.size,_,?_,rfl,p⟩⟩;have C:(zt [] f).length<=q9:=by
  have D:=T8 f [];rw[fJ] at D;rw[j9];lia
 have E:∃q,A.get? s.heap.objs.size=KF q:=let ⟨q,_,_,hq,_⟩:=g;⟨q,hq⟩;exact Kr b (by rw[e];exact eE) B E (GR C u (t.merge .nil) g) (Nat.add_pos_left b.tk _)
structure M1(X:Cx)(o:aO)(m:au)(apos:Pos)(e:aO)(o9:Pos):Prop where
 base:attributeBase o m X.env (eval o X.env)=eval o X.env
 few:((backTo o9 (aA [e] X.env)).all (λx=>!x.1)&&(backToKw o9 (keywordEach [] X.env)).all (λx=>x.1.isSome)
  && decide (([e]:List aO).length+([]:List fy).length+(if ([]:List fy).isEmpty then 0 else 1)<30))=qb
 line:(apos.endLine==o9.line)=qb
 trees:backTo o9 (aA [e] X.env)=[(qj,eval e X.env)]
structure M2(X:Cx)(o:aO)(m:au)(apos:Pos)(e f:aO)(o9:Pos):Prop where
 base:attributeBase o m X.env (eval o X.env)=eval o X.env
 few:((backTo o9 (aA [e,f] X.env)).all (λx=>!x.1)&&(backToKw o9 (keywordEach [] X.env)).all (λx=>x.1.isSome)
  && decide (([e,f]:List aO).length+([]:List fy).length+(if ([]:List fy).isEmpty then 0 else 1)<30))=qb
 line:(apos.endLine==o9.line)=qb
 trees:backTo o9 (aA [e,f] X.env)=[(qj,eval e X.env),(qj,eval f X.env)]
section
end
section
end
end L2
namespace DL
open PySem L2
def wT{X:Cx}{b:List (af×Obj)}{c:St}{H:Hp}{s:ag}{α:Type}{M:gE}{A:aU}{m:Sem α}{Q:α->ag->Prop}{E:ae->ag->Prop}(I:L2.Inv X b c H s)(h:ar M A m (λa s'=>0<s'.toks->Q a s') (λe s'=>0<s'.toks->E e s') s):ar M A m Q E s:=e8 I.tk h
structure zX(K:ai)(C:af):Prop where
 ga:dG K (.ref C) "__getattribute__" = KF (KF (.builtin "BaseException.__getattribute__"))
 nh:dG K (.ref C) "__getattr__" = KF KM
 cl:∃cd,nF K C=KF cd
 at_:dG K (.ref C) "__class__" = KF (KF (.builtin "object.__class__"))
 gt:hJ K (.builtin "object.__class__") "__get__" = KF (KF (.builtin "getset_descriptor.__get__"))
 tk:jX K (.builtin "object.__class__")=KF qb
 ob:ip K C (.type "object")=KF qb
 bx:ip K C (.type "BaseException")=KF qb
 kit:∀c∈(["int", "bool", "str", "list", "tuple", "dict"]:List String),aV K (.ref C) (.type c)=KF qj
section
open PySem.W
variable{prog:aD}{w:aR}{A:aU}{E:ae->ag->Prop}{s:ag}{K:ai}{x C:af}{ox:Obj}
def ZF(X:K.In s.heap)(k:zX K C)(I:cT s.heap x ox C KM)(a:Q () s):ar M A (checkBuiltinCall "BaseException.__getattribute__" ⟨[.ref x,E3],[]⟩) Q E s:=by
 have b:builtinKind "BaseException.__getattribute__" = KF .slot:=by decide +kernel
 have c:splitId "BaseException.__getattribute__" = KF ("BaseException", "__getattribute__"):=by decide +kernel
 have g:=F.args_bexc_ga (.ref x) E3;have d:=I.type (M:=M);have e:=looks_mroIn (M:=M) X k.bx;have f:Looks M s.heap (isInstance (.ref x) (.type "BaseException")) qb:=d.andThen e;simp only[checkBuiltinCall,b,c];refine aa (f.at ?_)
 repeat (first|wp_step|exact a)
def zfN(X:K.In s.heap)(k:zX K C)(I:cT s.heap x ox C KM)(h:Q (KF (.ref C)) { s with toks:=s.toks+1 }):ar (av prog w) A (getAttr? (.ref x) "__class__") Q E s:=by
 obtain⟨i,c⟩:=k.cl;have d:findObj K C KM "__class__" = KF (.bind (.builtin "getset_descriptor.__get__") (.builtin "object.__class__")):=by
  unfold findObj;rw[c,k.at_];simp only[Option.bind_some,k.gt,k.tk]
 have b:=I.type (M:=av prog w);have e:=looks_findIn (M:=av prog w) X k.ga;have f:=looks_findIn (M:=av prog w) X k.nh;have g:=looks_find (M:=av prog w) X I d;unfold getAttr? getAttrBy? getAttrBy;refine aa (wpAny_mkText (aa (fE (bI (aa (b.at (aa (e.at ?_))))))));have a:(onTheHeap (cZ C)&&gq "BaseException.__getattribute__" == gq "object.__getattribute__")=qj:=by
  rw[show(gq "BaseException.__getattribute__" == gq "object.__getattribute__")=qj from by decide +kernel];rfl
 show ar _ _ (if (onTheHeap (cZ C)&&gq "BaseException.__getattribute__" == gq "object.__getattribute__")=qb then _ else _) _ _ _;rw[q0 (by rw[a];decide)];unfold getAttrByItsOwn hookBefore;rw[qL (by rfl)];refine aa (f.at (aa (fE (bI ?_))));unfold callGetattribute boundAndCalled;rw[q0 's'];rw[mi.ga.bind (.ref x)];refine aa (ao (iM ?_));refine codeAny_call_builtin mi.ga.plain F.entry_bexc_ga (ZF (s:={ s with toks:=s.toks+1 }) X k I ?_);unfold fx.«object.__getattribute__»;refine aa (ao (aa (ao (aa (b.at (aa (g.at ?_)))))));show ar _ _ (jE _ _ _ _) _ _ _;unfold jE;refine aa (bI (iM (class_get (s:={ s with toks:=s.toks+1 }) X I k.ob ?_)));exact ao (ao (ao h))
def P8(k:zX K C):KitX K (.ref x) (.ref C) (λh=>∃ox,cT h x ox C KM) where
 ty:=λ_ _ _ ⟨ox,I⟩=>I.type
 it:=λ_ _ X _=>by
  obtain⟨f,a⟩:=k.cl;unfold clsIn at a;split at a
  ·rename_i g i b j c;intro o p r t l q;unfold isType loadHead;exact aa (wpAny_loadPart (l _ _ (X _ _ c)) (ao q))
  ·cases a
 ne:=λh m u v n y X d=>by
  obtain⟨f,a⟩:=k.cl;refine jy.mpr λq=>?_;have e:C=m:=Value.ref.inj (beq_iff_eq.mp q);subst e;unfold clsIn at a;split at a
  ·rename_i g i b j c;have z:=(X _ _ c).symm.trans d;cases z
  ·cases a
 ca:=λX ⟨ox,I⟩ q=>zfN X k I q
end
end DL
namespace DL
open PySem L2
inductive D where
 |non
 |bl (b:Bool)
 |int (i:Int)
 |str (cs:l_)
 |lst (xs:List D)
 |tup (xs:List D)
 |own (k:Nat)
 |dct
 |exn (C:Nat)
 |tab (P:Nat)
 |map (ks:List (Sum Int l_)) (ds:List D)
 |adr (a:Nat)
 deriving Inhabited
abbrev Ow:=List (List D)
inductive R(α:Type) where
 |ok (a:α) (O:Ow)
 |exc (c:Nat) (O:Ow)
 |bad
 deriving Inhabited
def R.bnd{α β:Type}(r:R α)(k:α->Ow->R β):R β:=match r with
 |.ok a O=>k a O
 |.exc c O=>.exc c O
 |.bad=>.bad
abbrev Sg:=List (Option D)
abbrev DE:=Sg->Ow->R D
abbrev DT:=Sg->Ow->R Bool
abbrev DA:=Sg->Ow->R (List D)
section
variable(K:ai)(H:Hp)(XV μ:List af)
def Wl(K:ai)(a:af)(xs:List V):Prop:=∃(o:Obj)(d_:Array ae)(n:Nat),K.lookup a=KF o/\o.cls=.type "list"/\o.dict=KM/\o.data=.seq d_ n/\d_.size<=q9/\nY xs d_.toList
def We(K:ai)(a:af)(xs:List V):Prop:=∃(o:Obj)(d_:Array ae)(n:Nat),K.lookup a=KF o/\o.cls=.type "tuple"/\o.data=.seq d_ n/\d_.size<=q9/\nY xs d_.toList
def LstAt(a:af)(vs:List V):Prop:=(Rd H a (.lst vs)/\a∉XV/\a∉μ)\/Wl K a vs
def TupAt(a:af)(vs:List V):Prop:=(Rd H a (.tup vs)/\a∉XV/\a∉μ)\/We K a vs/\∃o,K.lookup a=KF o/\o.dict=KM
end
noncomputable def kD:Sum Int l_->Key
 |.inl i=>.inl i
 |.inr cs=>.inr ⟨cs.toArray⟩
def oi(H:Hp)(P:af):Prop:=∃ps,H P=KF (.tbl ps)/\TriplesOk ps.toList/\∀pos cv,codeAmong pos ps.toList=KF cv->∃c φ,cv=.ref c/\H c=KF (.ext φ)/\∀h:aL,φ h->∃q,h.CodeRec (.ref c) q
def CD(o:HO):Prop:=∀ps,o ≠ .tbl ps
section
variable(K:ai)(H:Hp)(XV μ:List af)
mutual
def Y2:D->V->Prop
 |.non,v=>v=.non
 |.bl b,v=>v=.bl b
 |.int i,v=>v=.int i
 |.str cs,v=>v=.str ⟨cs.toArray⟩
 |.lst ds,v=>∃a vs,v=.ref a/\LstAt K H XV μ a vs/\nW ds vs
 |.tup ds,v=>∃a vs,v=.ref a/\TupAt K H XV μ a vs/\nW ds vs
 |.own k,v=>∃a,v=.ref a/\μ[k]?=KF a
 |.dct,v=>∃a,v=.ref a/\Rd H a (.dK [])/\a∉XV/\a∉μ
 |.exn C,v=>∃a φ,v=.ref a/\(zX K C/\∀h:aL,φ h->∃ox,cT h a ox C KM)/\Rd H a (.ext φ)/\a∉XV/\a∉μ
 |.tab P,v=>v=.bl qj/\oi H P
 |.map ks ds,v=>∃a vs,v=.ref a/\(∃o,H a=KF (.frz o (.dK ((ks.map kD).zip vs))))/\a∉XV/\a∉μ/\ks.length=vs.length/\nW ds vs
 |.adr a,v=>v=.ref a
def nW:List D->List V->Prop
 |[],vs=>vs=[]
 |d::ds,vs=>∃v r,vs=v::r/\Y2 d v/\nW ds r
end
structure nV(O:Ow):Prop where
 len:μ.length=O.length
 nd:μ.Nodup
 nh:∀a∈μ,a∉XV
 ht:∀a∈XV,H a≠KM
 at_:∀(k:Nat)a,μ[k]?=KF a->∃ds vs,O[k]?=KF ds/\H a=KF (.lst vs)/\nW K H XV μ ds vs
structure nX(σ:Sg)(a_:St):Prop where
 len:σ.length=a_.length
 at_:∀(i:Nat)d,σ[i]?=KF (KF d)->∃v,a_[i]?=KF (KF v)/\Y2 K H XV μ d v
end
structure Ext(H:Hp)(μ:List af)(H':Hp)(c_:List af):Prop where
 pre:∃ν,c_=μ++ν
 kept:∀b o,H b=KF o->b∉μ->CD o->H' b=KF o
 fresh:∀b∈c_,b∈μ\/H b=KM
 there:∀b,H b≠KM->H' b≠KM
 tab:∀P,oi H P->oi H' P
structure Mv(H:Hp)(XV μ:List af)(H':Hp)(hid' c_:List af):Prop where
 pre:∃ν,c_=μ++ν
 kept:∀b o,H b=KF o->b∉μ->b∉XV->CD o->H' b=KF o
 fresh:∀b∈c_,b∈μ\/H b=KM
 hids:∀b∈hid',b∈XV\/H b=KM
 there:∀b,H b≠KM->H' b≠KM
 tab:∀P,oi H P->oi H' P
section
variable{K:ai}{H H' H1 H2:Hp}{XV hid' xl FF μ c_ e_ pe:List af}
def Ext.keep(e:Ext H μ H' c_)(b:af)(o:HO)(h:H b=KF o)(n:b∉μ)(a:CD o:=by intro c z;cases z):H' b=KF o:=e.kept b o h n a
def oi.upd(t:oi H P)(f:H p=KM \/ ∃vs,H p=KF (.lst vs)):oi (L2.upd H p o) P:=by
 obtain⟨g,a,h,i⟩:=t;have j:P≠p:=by
  rintro rfl;rcases f with z|⟨vs,z⟩<;>(rw[z] at a;cases a)
 refine⟨g,by rw[pj j];exact a,h,λb k e=>?_⟩;obtain⟨c,l,rfl,d,m⟩:=i b k e;have n:c≠p:=by
  rintro rfl;rcases f with z|⟨vs,z⟩<;>(rw[z] at d;cases d)
 exact⟨c,l,rfl,by rw[pj n];exact d,m⟩
def Ext.refl:Ext H μ H μ:=⟨⟨[],by simp⟩,λ_ _ h _ _=>h,λ_ h=>.inl h,λ_ h=>h,λ_ t=>t⟩
def Ext.trans(a:Ext H μ H1 e_)(b:Ext H1 e_ H2 pe):Ext H μ H2 pe:=by
 refine⟨?_,λc o h n d=>?_,λc h=>?_,λc h=>b.there c (a.there c h),λP t=>b.tab P (a.tab P t)⟩
 ·obtain⟨x,rfl⟩:=a.pre;obtain⟨y,rfl⟩:=b.pre;exact⟨x++y,by simp⟩
 ·refine b.kept c o (a.kept c o h n d) (λm=>?_) d;rcases a.fresh c m with z|z
  ·exact n z
  ·rw[z] at h;cases h
 ·rcases b.fresh c h with z|z
  ·exact a.fresh c z
  ·by_cases f:c∈μ
   ·exact .inl f
   ·cases e:H c with
    |none=>exact .inr rfl
    |some o=>exact absurd z (a.there c (by rw[e];simp))
def Ext.mv(a:Ext H μ H' c_):Mv H XV μ H' XV c_:=⟨a.pre,λb o h n _ c=>a.kept b o h n c,a.fresh,λ_ h=>.inl h,a.there,a.tab⟩
def Mv.refl:Mv H XV μ H XV μ:=Ext.refl.mv
def Mv.trans(a:Mv H XV μ H1 xl e_)(b:Mv H1 xl e_ H2 FF pe):Mv H XV μ H2 FF pe:=by
 have d:∀c,H1 c=KM->H c=KM:=λc h=>by
  cases e:H c with
  |none=>rfl
  |some o=>exact absurd h (a.there c (by rw[e];simp))
 refine⟨?_,λc o h f g i=>?_,λc h=>?_,λc h=>?_,λc h=>b.there c (a.there c h),λP t=>b.tab P (a.tab P t)⟩
 ·obtain⟨x,rfl⟩:=a.pre;obtain⟨y,rfl⟩:=b.pre;exact⟨x++y,by simp⟩
 ·refine b.kept c o (a.kept c o h f g i) (λm=>?_) (λm=>?_) i
  ·rcases a.fresh c m with z|z
   ·exact f z
   ·rw[z] at h;cases h
  ·rcases a.hids c m with z|z
   ·exact g z
   ·rw[z] at h;cases h
 ·rcases b.fresh c h with z|z
  ·exact a.fresh c z
  ·exact .inr (d c z)
 ·rcases b.hids c h with z|z
  ·exact a.hids c z
  ·exact .inr (d c z)
def Mv.hide(h:H b=KM):Mv H XV μ H (b::XV) μ:=⟨⟨[],by simp⟩,λ_ _ h _ _ _=>h,λ_ m=>.inl m,λc m=>(aq.mp m).elim (λe=>.inr (by rw[e];exact h)) .inl,λ_ h=>h,λ_ t=>t⟩
def Mv.unhide:Mv H (b::XV) μ H XV μ:=⟨⟨[],by simp⟩,λ_ _ h _ _ _=>h,λ_ m=>.inl m,λ_ m=>.inl (ak _ m),λ_ h=>h,λ_ t=>t⟩
def Rd.mv(r:Rd H a u)(e:Mv H XV μ H' hid' c_)(c:a∉XV)(d:a∉μ)(f:CD u:=by intro g z;cases z):Rd H' a u/\a∉hid'/\a∉c_:=by
 have b:∀o,H a=KF o->a∉hid'/\a∉c_:=by
  intro o h;constructor
  ·intro m;rcases e.hids a m with z|z
   ·exact c z
   ·rw[z] at h;cases h
  ·intro m;rcases e.fresh a m with z|z
   ·exact d z
   ·rw[z] at h;cases h
 rcases r with r|⟨o,r⟩
 ·exact⟨.inl (e.kept _ _ r d c f),b _ r⟩
 ·exact⟨.inr ⟨o,e.kept _ _ r d c (by intro g z;cases z)⟩,b _ r⟩
def LstAt.mv(h:LstAt K H XV μ a vs)(e:Mv H XV μ H' hid' c_):LstAt K H' hid' c_ a vs:=
 h.imp (λz=>Rd.mv z.1 e z.2.1 z.2.2) id
def TupAt.mv(h:TupAt K H XV μ a vs)(e:Mv H XV μ H' hid' c_):TupAt K H' hid' c_ a vs:=
 h.imp (λz=>Rd.mv z.1 e z.2.1 z.2.2) id
def LstAt.sq(h:LstAt K H XV μ a vs):qr K H a vs:=h.elim (λz=>.inl z.1) .inr
def TupAt.sq(h:TupAt K H XV μ a vs):rH K H a vs:=h.elim (λz=>.inl z.1) λz=>.inr z.1
mutual
theorem Y2.mv(e:Mv H XV μ H' hid' c_):∀{d:D}{v:V},Y2 K H XV μ d v->Y2 K H' hid' c_ d v
 |.non,_,h=>h
 |.bl _,_,h=>h
 |.int _,_,h=>h
 |.str _,_,h=>h
 | .lst ds,v,h=>by
  unfold Y2 at h ⊢;obtain⟨a,f,r,l,q⟩:=h;exact⟨a,f,r,l.mv e,nW.mv e q⟩
 | .tup ds,v,h=>by
  unfold Y2 at h ⊢;obtain⟨a,f,r,l,q⟩:=h;exact⟨a,f,r,l.mv e,nW.mv e q⟩
 | .own k,v,h=>by
  unfold Y2 at h ⊢;obtain⟨a,r,q⟩:=h;obtain⟨x,rfl⟩:=e.pre;exact⟨a,r,by rw[aG (al.mp q).1];exact q⟩
 | .dct,v,h=>by
  unfold Y2 at h ⊢;obtain⟨a,r,q,b,c⟩:=h;exact⟨a,r,Rd.mv q e b c⟩
 | .exn C,v,h=>by
  unfold Y2 at h ⊢;obtain⟨a,i,r,g,q,b,c⟩:=h;exact⟨a,i,r,g,Rd.mv q e b c⟩
 | .tab P,v,h=>by
  unfold Y2 at h ⊢;exact⟨h.1,e.tab _ h.2⟩
 | .map ks ds,v,h=>by
  unfold Y2 at h ⊢;obtain⟨a,f,r,⟨o,q⟩,b,c,j,d⟩:=h;obtain⟨_,m,n⟩:=Rd.mv (.inr ⟨o,q⟩) e b c;exact⟨a,f,r,⟨o,e.kept a _ q c b (by intro p z;cases z)⟩,m,n,j,nW.mv e d⟩
 |.adr _,_,h=>h
theorem nW.mv(e:Mv H XV μ H' hid' c_):∀{ds:List D}{vs:List V},nW K H XV μ ds vs->nW K H' hid' c_ ds vs
 |[],_,h=>h
 | d::ds,vs,h=>by
  unfold nW at h ⊢;obtain⟨v,r,a,b,c⟩:=h;exact⟨v,r,a,Y2.mv e b,nW.mv e c⟩
end
def Y2.ext(e:Ext H μ H' c_)(h:Y2 K H XV μ d v):Y2 K H' XV c_ d v:=h.mv e.mv
def nW.ext(e:Ext H μ H' c_)(h:nW K H XV μ ds vs):nW K H' XV c_ ds vs:=h.mv e.mv
def nX.mv(h:nX K H XV μ σ a_)(e:Mv H XV μ H' hid' c_):nX K H' hid' c_ σ a_:=
 ⟨h.len,λi d q=>let ⟨v,a,b⟩:=h.at_ i d q;⟨v,a,b.mv e⟩⟩
def nX.ext(h:nX K H XV μ σ a_)(e:Ext H μ H' c_):nX K H' XV c_ σ a_:=h.mv e.mv
def nX.set(h:nX K H XV μ σ a_)(q:Y2 K H XV μ d v)(i:Nat):nX K H XV μ (σ.set i (KF d)) (a_.set i (KF v)):=by
 refine⟨by simp[h.len],λj x e=>?_⟩;by_cases c:i=j
 ·subst c;have f:i<σ.length:=by have:=(al.mp e).1;simpa using this
  rw[aZ f] at e;cases e;exact⟨v,by rw[aZ (by rw[<- h.len];exact f)],q⟩
 ·rw[aW c] at e;obtain⟨w,a,b⟩:=h.at_ j x e;exact⟨w,by rw[aW c];exact a,b⟩
theorem nW.length:∀{ds:List D}{vs:List V},nW K H XV μ ds vs->ds.length=vs.length
 |[],_,h=>by unfold nW at h;subst h;rfl
 | d::ds,vs,h=>by
  obtain⟨v,r,rfl,_,a⟩:=h;simp[nW.length a]
def nW.nil:nW K H XV μ [] []:=by unfold nW;rfl
def nW.cons(h:Y2 K H XV μ d v)(t:nW K H XV μ ds vs):nW K H XV μ (d::ds) (v::vs):=by unfold nW;exact⟨v,vs,rfl,h,t⟩
theorem nW.append:∀{ds a:List D}{vs b:List V},nW K H XV μ ds vs->nW K H XV μ a b->nW K H XV μ (ds++a) (vs++b)
 |[],_,_,_,h,t=>by unfold nW at h;subst h;exact t
 | d::ds,a,vs,b,h,t=>by
  obtain⟨v,r,rfl,c,e⟩:=h;exact .cons c (nW.append e t)
theorem nW.get:∀{ds:List D}{vs:List V}{i:Nat}{d:D},nW K H XV μ ds vs->ds[i]?=KF d->∃v,vs[i]?=KF v/\Y2 K H XV μ d v
 |[],_,_,_,_,e=>by simp at e
 | d::ds,vs,0,x,h,e=>by
  obtain⟨v,r,rfl,c,f⟩:=h;simp at e;subst e;exact⟨v,by simp,c⟩
 | d::ds,vs,i+1,x,h,e=>by
  obtain⟨v,r,rfl,c,f⟩:=h;obtain⟨z,a,b⟩:=nW.get f ⇑e;exact⟨z,by simpa using a,b⟩
theorem nW.take:∀{ds:List D}{vs:List V}(n:Nat),nW K H XV μ ds vs->nW K H XV μ (ds.take n) (vs.take n)
 |_,_,0,_=>by simpa using nW.nil
 |[],_,n+1,h=>by unfold nW at h;subst h;simpa using nW.nil
 | d::ds,vs,n+1,h=>by
  obtain⟨v,r,rfl,a,b⟩:=h;simpa using nW.cons a (nW.take n b)
theorem nW.drop:∀{ds:List D}{vs:List V}(n:Nat),nW K H XV μ ds vs->nW K H XV μ (ds.drop n) (vs.drop n)
 |_,_,0,h=>by simpa using h
 |[],_,n+1,h=>by unfold nW at h;subst h;simpa using nW.nil
 | d::ds,vs,n+1,h=>by
  obtain⟨v,r,rfl,b,a⟩:=h;simpa using nW.drop n a
theorem nW.set(q:Y2 K H XV μ d v):∀{ds:List D}{vs:List V}(i:Nat),nW K H XV μ ds vs->nW K H XV μ (ds.set i d) (vs.set i v)
 |[],_,i,h=>by unfold nW at h;subst h;simpa using nW.nil
 | x::ds,vs,0,h=>by
  obtain⟨w,r,rfl,b,a⟩:=h;simpa using nW.cons q a
 | x::ds,vs,i+1,h=>by
  obtain⟨w,r,rfl,b,a⟩:=h;simpa using nW.cons b (nW.set q i a)
theorem nW.rev:∀{ds:List D}{vs:List V},nW K H XV μ ds vs->nW K H XV μ ds.reverse vs.reverse
 |[],_,h=>by unfold nW at h;subst h;simpa using nW.nil
 | d::ds,vs,h=>by
  unfold nW at h;obtain⟨v,r,rfl,a,b⟩:=h;simpa using nW.append (nW.rev b) (.cons a .nil)
def xD(b:af)(h:H b≠KM):upd H p o b≠KM:=by
 by_cases e:b=p
 ·subst e;rw[qS];simp
 ·rw[pj e];exact h
def Ext.laid(h:H p=KM):Ext H μ (upd H p o) μ:=
 ⟨⟨[],by simp⟩,λb u e _ _=>by rw[pj (rD e h)];exact e,λ_ m=>.inl m,xD,λ_ t=>t.upd (.inl h)⟩
def nV.laid(c:nV K H XV μ O)(h:H p=KM):nV K (upd H p o) XV μ O:=by
 refine⟨c.len,c.nd,c.nh,λa m=>?_,λk a e=>?_⟩
 ·by_cases q:a=p
  ·subst q;rw[qS];simp
  ·rw[pj q];exact c.ht a m
 ·obtain⟨d,f,g,b,i⟩:=c.at_ k a e;exact⟨d,f,g,by rw[pj (rD b h)];exact b,i.ext (.laid h)⟩
def nV.not_in(c:nV K H XV μ O)(h:H p=KM):p∉XV/\p∉μ:=by refine⟨λm=>c.ht p m h,λm=>?_⟩;obtain⟨k,b,e⟩:=dU.mp m;obtain⟨d,f,_,a,_⟩:=c.at_ k p (by rw[al];exact⟨b,e⟩);rw[h] at a;cases a
def Y2.newL(c:nV K H XV μ O)(h:H p=KM)(q:nW K H XV μ ds vs):Y2 K (upd H p (.lst vs)) XV μ (.lst ds) (.ref p):=by exact⟨p,vs,rfl,.inl ⟨.inl qS,c.not_in h⟩,q.ext (.laid h)⟩
def Y2.newT(c:nV K H XV μ O)(h:H p=KM)(q:nW K H XV μ ds vs):Y2 K (upd H p (.tup vs)) XV μ (.tup ds) (.ref p):=by exact⟨p,vs,rfl,.inl ⟨.inl qS,c.not_in h⟩,q.ext (.laid h)⟩
def Ext.cell(h:H p=KM):Ext H μ (upd H p o) (μ++[p]):=
 ⟨⟨[p],rfl⟩,λb u e _ _=>by rw[pj (rD e h)];exact e,λb m=>by
  rcases aS.mp m with m|m
  ·exact .inl m
  ·have:b=p:=⇑m
   subst this;exact .inr h,xD,λ_ t=>t.upd (.inl h)⟩
def nV.cell(c:nV K H XV μ O)(h:H p=KM)(q:nW K H XV μ ds vs):nV K (upd H p (.lst vs)) XV (μ++[p]) (O++[ds]):=by
 have d:=c.not_in h;refine⟨by simp[c.len],?_,λa m=>?_,λa m=>?_,λk a e=>?_⟩
 ·rw[fU];refine⟨c.nd,by simp,λa i b j=>?_⟩;have:b=p:=⇑j
  subst this;rintro rfl;exact d.2 i
 ·rcases aS.mp m with m|m
  ·exact c.nh a m
  ·have:a=p:=⇑m
   subst this;exact d.1
 ·by_cases q:a=p
  ·subst q;rw[qS];simp
  ·rw[pj q];exact c.ht a m
 ·by_cases f:k<μ.length
  ·rw[aG f] at e;obtain⟨l,n,o,g,r⟩:=c.at_ k a e;exact⟨l,n,by rw[aG (by rw[<- c.len];exact f)];exact o,by rw[pj (rD g h)];exact g,r.ext (.cell h)⟩
  ·rw[br 'o'] at e;have s:k-μ.length=0:=by
    have:=(al.mp e).1;simp at this;lia
   rw[s] at e;simp at e;subst e;refine⟨ds,vs,?_,qS,q.ext (.cell h)⟩;have:k=O.length:=by have:=c.len;lia
   subst this;simp
def Ext.put(h:p∈μ)(a:∃vs,H p=KF (.lst vs)):Ext H μ (upd H p o) μ:=
 ⟨⟨[],by simp⟩,λb u e n _=>by rw[pj (by rintro rfl;exact n h)];exact e,λ_ m=>.inl m,xD,λ_ t=>t.upd (.inr a)⟩
def nV.put(c:nV K H XV μ O)(b:μ[k]?=KF p)(q:nW K H XV μ ds vs):nV K (upd H p (.lst vs)) XV μ (O.set k ds):=by
 have g:=aX b;have h:∃vs,H p=KF (.lst vs):=let ⟨_,vs,_,d,_⟩:=c.at_ k p b;⟨vs,d⟩;refine⟨by simp[c.len],c.nd,c.nh,λa m=>?_,λj a e=>?_⟩
 ·by_cases q:a=p
  ·subst q;rw[qS];simp
  ·rw[pj q];exact c.ht a m
 ·by_cases f:j=k
  ·subst f;rw[b] at e;cases e;refine⟨ds,vs,?_,qS,q.ext (.put g h)⟩;rw[aZ (by rw[<- c.len];exact(al.mp b).1)]
  ·have l:a≠p:=by
    rintro rfl;obtain⟨i,n⟩:=al.mp e;obtain⟨d,o⟩:=al.mp b;exact f ((jJ c.nd).mp (n.trans o.symm))
   obtain⟨r,s,i,d,t⟩:=c.at_ j a e;exact⟨r,s,by rw[aW (bB f)];exact i,by rw[pj l];exact d,t.ext (.put g h)⟩
end
section
variable(Ex:Nat->Hp->Prop)(K:ai)
def post{α β:Type}(rel:Hp->List af->α->β->Prop)(H:Hp)(XV μ:List af)(r:R α)(Q:β->Hp->Prop):Prop:=match r with
 |.ok d O'=>∀v H' c_,Ext H μ H' c_->nV K H' XV c_ O'->rel H' c_ d v->Q v H'
 |.exc c O'=>∀H' c_,Ext H μ H' c_->nV K H' XV c_ O'->Ex c H'
 |.bad=>False
abbrev qt(H:Hp)(XV μ:List af)(r:R D)(Q:VK):Prop:=post Ex K (λH' c_ d v=>Y2 K H' XV c_ d v) H XV μ r Q
abbrev xv(H:Hp)(XV μ:List af)(r:R Bool)(Q:Bool->Hp->Prop):Prop:=post Ex K (λ_ _ d v=>d=v) H XV μ r Q
abbrev NX(H:Hp)(XV μ:List af)(r:R (List D))(Q:List V->Hp->Prop):Prop:=post Ex K (λH' c_ d v=>nW K H' XV c_ d v) H XV μ r Q
def rd(t:DE):TE:=λa_ H Q=>∃XV μ σ O,nX K H XV μ σ a_/\nV K H XV μ O/\qt Ex K H XV μ (t σ O) Q
def xF(t:DT):TT:=λa_ H Q=>∃XV μ σ O,nX K H XV μ σ a_/\nV K H XV μ O/\xv Ex K H XV μ (t σ O) Q
def t6(t:DA):TA:=λa_ H Q=>∃XV μ σ O,nX K H XV μ σ a_/\nV K H XV μ O/\NX Ex K H XV μ (t σ O) Q
end
section
variable{Ex:Nat->Hp->Prop}{K:ai}{H H1:Hp}{XV μ e_:List af}
def post.ext{α β:Type}{a:Hp->List af->α->β->Prop}{r:R α}{Q:β->Hp->Prop}(h:post Ex K a H XV μ r Q)(e:Ext H μ H1 e_):post Ex K a H1 XV e_ r Q:=by
 cases r with
 |ok d O'=>exact λv b f g c q=>h v b f (e.trans g) c q
 |exc c O'=>exact λb f g c=>h b f (e.trans g) c
 |bad=>exact h
def post.bnd{α β b f:Type}{a:Hp->List af->α->β->Prop}{g:Hp->List af->b->f->Prop}{r:R α}{k:α->Ow->R b}{Q:f->Hp->Prop}{Q1:β->Hp->Prop}
  (h:post Ex K g H XV μ (r.bnd k) Q)
  (i:∀d O1 v H1 e_,Ext H μ H1 e_->nV K H1 XV e_ O1->a H1 e_ d v->post Ex K g H1 XV e_ (k d O1) Q->Q1 v H1):post Ex K a H XV μ r Q1:=by
 cases r with
 |ok d O'=>exact λv j l e c q=>i d O' v j l e c q (post.ext (h) e)
 |exc c O'=>exact h
 |bad=>exact h
def post.ok{α β:Type}{a:Hp->List af->α->β->Prop}{d:α}{O:Ow}{Q:β->Hp->Prop}{v:β}(h:post Ex K a H XV μ (.ok d O) Q){H':Hp}{b:List af}(e:Ext H μ H' b)(c:nV K H' XV b O)(q:a H' b d v):Q v H':=h v H' b e c q
def post.here{α β:Type}{a:Hp->List af->α->β->Prop}{d:α}{O:Ow}{Q:β->Hp->Prop}{v:β}(h:post Ex K a H XV μ (.ok d O) Q)(c:nV K H XV μ O)(q:a H μ d v):Q v H:=h v H μ .refl c q
end
structure PD(X:Cx)(Ex:Nat->Hp->Prop)(e:aO)(t:DE):Prop where
 out:PE X e (rd Ex X.K t)
structure qQ(X:Cx)(Ex:Nat->Hp->Prop)(e:aO)(t:DT):Prop where
 out:PT X e (xF Ex X.K t)
structure sI(X:Cx)(Ex:Nat->Hp->Prop)(es:List aO)(t:DA):Prop where
 out:PA X es (t6 Ex X.K t)
def PE.imp(h:PE X e t)(f:∀σ H Q,t' σ H Q->t σ H Q):PE X e t':=λa s σ H Q I q=>h a s σ H Q I (f σ H Q q)
def PT.imp(h:PT X e t)(f:∀σ H Q,t' σ H Q->t σ H Q):PT X e t':=λa s σ H Q I q=>h a s σ H Q I (f σ H Q q)
def PA.imp(h:PA X e t)(f:∀σ H Q,t' σ H Q->t σ H Q):PA X e t':=λb a s σ H Q I q=>h b a s σ H Q I (f σ H Q q)
def PW.imp(h:PW X e t)(f:∀σ H Q,t' σ H Q->t σ H Q):PW X e t':=λw a s σ H Q I q=>h w a s σ H Q I (f σ H Q q)
end DL
namespace DL
open PySem L2
def rB(i:Nat):DE:=λσ O=>match σ[i]? with
 |some (KF d)=>.ok d O
 |_=>.bad
def dC(d:D):DE:=λ_ O=>.ok d O
section
variable{X:Cx}{Ex:Nat->Hp->Prop}{pos:Pos}{a b c:aO}{ta tb tc:DE}
def rl{e:aO}{t:TE}{t':DE}(h:PE X e t)(f:∀XV μ σ O d H Q,nX X.K H XV μ σ d->nV X.K H XV μ O->qt Ex X.K H XV μ (t' σ O) Q->t d H Q):PD X Ex e t':=
 ⟨PE.imp h λd H Q ⟨XV,μ,σ,O,g,i,q⟩=>f XV μ σ O d H Q g i q⟩
def G0{e:aO}{t:TT}{t':DT}(h:PT X e t)(f:∀XV μ σ O d H Q,nX X.K H XV μ σ d->nV X.K H XV μ O->xv Ex X.K H XV μ (t' σ O) Q->t d H Q):qQ X Ex e t':=
 ⟨PT.imp h λd H Q ⟨XV,μ,σ,O,g,i,q⟩=>f XV μ σ O d H Q g i q⟩
def PQ(h:PA X e t)(f:∀XV μ σ O d H Q,nX X.K H XV μ σ d->nV X.K H XV μ O->NX Ex X.K H XV μ (t' σ O) Q->t d H Q):sI X Ex e t':=
 ⟨PA.imp h λd H Q ⟨XV,μ,σ,O,g,i,q⟩=>f XV μ σ O d H Q g i q⟩
def rd.go{i j:Type}{l:Hp->List af->i->j->Prop}{t:DE}{XV μ:List af}{σ:Sg}{O:Ow}{h:St}{H:Hp}{Q1:VK}{k:D->Ow->R i}{Q:j->Hp->Prop}(m:nX X.K H XV μ σ h)(n:nV X.K H XV μ O)
  (q:post Ex X.K l H XV μ ((t σ O).bnd k) Q)
  (f:∀d O1 v e g,nX X.K e XV g σ h->Ext H μ e g->nV X.K e XV g O1->Y2 X.K e XV g d v->post Ex X.K l e XV g (k d O1) Q->Q1 v e):rd Ex X.K t h H Q1:=
 ⟨XV,μ,σ,O,m,n,post.bnd q λd O1 v e g x c r p=>f d O1 v e g (m.ext x) x c r p⟩
def xF.go{i j:Type}{l:Hp->List af->i->j->Prop}{t:DT}{XV μ:List af}{σ:Sg}{O:Ow}{h:St}{H:Hp}{Q1:Bool->Hp->Prop}{k:Bool->Ow->R i}{Q:j->Hp->Prop}(m:nX X.K H XV μ σ h)(n:nV X.K H XV μ O)
  (q:post Ex X.K l H XV μ ((t σ O).bnd k) Q)
  (f:∀v O1 e g,nX X.K e XV g σ h->Ext H μ e g->nV X.K e XV g O1->post Ex X.K l e XV g (k v O1) Q->Q1 v e):xF Ex X.K t h H Q1:=
 ⟨XV,μ,σ,O,m,n,post.bnd q λd O1 v e g x c r p=>by
  subst r;exact f d O1 e g (m.ext x) x c p⟩
def t6.go{i j:Type}{l:Hp->List af->i->j->Prop}{t:DA}{XV μ:List af}{σ:Sg}{O:Ow}{h:St}{H:Hp}{Q1:List V->Hp->Prop}{k:List D->Ow->R i}{Q:j->Hp->Prop}(m:nX X.K H XV μ σ h)(n:nV X.K H XV μ O)
  (q:post Ex X.K l H XV μ ((t σ O).bnd k) Q)
  (f:∀d O1 v e g,nX X.K e XV g σ h->Ext H μ e g->nV X.K e XV g O1->nW X.K e XV g d v->post Ex X.K l e XV g (k d O1) Q->Q1 v e):t6 Ex X.K t h H Q1:=
 ⟨XV,μ,σ,O,m,n,post.bnd q λd O1 v e g x c r p=>f d O1 v e g (m.ext x) x c r p⟩
def Pq(f:X.N[i]?=KF x)(g:rG X.env.scope x)(e:qP x:=by decide)(h:(x==("__classdict__":au))=qj:=by decide):PD X Ex (.Name x pos) (rB i):=
 rl (GO f g e h) λj o p O r H Q k l q=>by
  unfold rB at q;split at q
  ·rename_i d e;obtain⟨v,m,n⟩:=k.at_ i d e;exact⟨v,m,post.here q l n⟩
  ·exact ah q
def PM:PD X Ex (.Constant (.int i) j pos) (dC (.int i)):=rl OM λd f g O h H Q k e q=>post.here q e (by unfold Y2;rfl)
def OI:PD X Ex (.Constant (.bool i) j pos) (dC (.bl i)):=rl WO λd f g O h H Q k e q=>post.here q e (by unfold Y2;rfl)
abbrev y8:=dC .non
def ON:PD X Ex (.Constant .none j pos) y8:=rl JX λd f g O h H Q i e q=>post.here q e (by unfold Y2;rfl)
def Pm(cs:l_)(h:x=⟨cs.toArray⟩):PD X Ex (.Constant (.str x) j pos) (dC (.str cs)):=rl PL λd f g O i H Q k e q=>post.here q e (by unfold Y2;rw[h])
def zdZ(cs:l_)(d:Gl X x)(e:X.mg x=KF (.str y t))(h:y=⟨cs.toArray⟩)(f:qP x:=by decide):PD X Ex (.Name x pos) (dC (.str cs)):=
 rl (Hf (v:=.str y) d e ⟨t,rfl⟩ f) λg j k O l H Q m i q=>post.here q i (by unfold Y2;rw[h])
def h_(f:Ow->D->D->R D)(ta tb:DE):DE:=λσ O=>(ta σ O).bnd λx O1=>(tb σ O1).bnd λy O2=>f O2 x y
def r9(X:Cx)(Ex:Nat->Hp->Prop)(r:R2)(f:Ow->D->D->R D):Prop:=∀(H:Hp)(XV μ:List af)(O:Ow)(x y:D)(v w:V)(Q:VK),nV X.K H XV μ O->Y2 X.K H XV μ x v->Y2 X.K H XV μ y w->qt Ex X.K H XV μ (f O x y) Q->r v w H Q
def GQ{r:R2}{f:Ow->D->D->R D}(h:r9 X Ex r f)(XV μ:List af)(σ:Sg)(O:Ow)(d:St)(H:Hp)(Q:VK)(e:nX X.K H XV μ σ d)(g:nV X.K H XV μ O)(q:qt Ex X.K H XV μ (h_ f ta tb σ O) Q):
  EN r (rd Ex X.K ta) (rd Ex X.K tb) d H Q:=
 rd.go e g q λx z v A B i C j k l=>rd.go i j l λy m w n o E p s t u=>h n XV o m x y v w Q s (k.ext p) t u
def JC(d:qm X (d9 op) r)(h:r9 X Ex r f)(e:PD X Ex a ta)(g:PD X Ex b tb):PD X Ex (.BinOp a op b pos) (h_ f ta tb):=
 rl (WQ d e.out g.out) (GQ h)
def JP(d:qm X (cm op) r)(h:r9 X Ex r f)(e:PD X Ex a ta)(g:PD X Ex b tb)(i:behindInMarks op b=qj):PD X Ex (.Compare a [op] [b] pos) (h_ f ta tb):=
 rl (YS d e.out g.out i) (GQ h)
def pV(t:DE):DT:=λσ O=>(t σ O).bnd λx O1=>match x with
 |.bl k=>.ok k O1
 |_=>.bad
def Si(f:∀XV μ σ O e H Q,nX X.K H XV μ σ e->nV X.K H XV μ O->qt Ex X.K H XV μ (td σ O) Q->t e H Q)(XV μ:List af)(σ:Sg)(O:Ow)(e:St)(H:Hp)(Q:Bool->Hp->Prop)
  (g:nX X.K H XV μ σ e) (h:nV X.K H XV μ O) (q:xv Ex X.K H XV μ (pV td σ O) Q):NZ t e H Q:=by
 refine f XV μ σ O e H _ g h (post.bnd q λd i v j l x c r p=>?_);cases d with
 | bl k=>
  exact⟨k,r,post.here p c rfl⟩
 |_=>exact ah p
def Bf(d:qm X (cm op) r)(h:r9 X Ex r f)(e:PD X Ex a ta)(g:PD X Ex b tb)(i:behindInMarks op b=qj):qQ X Ex (.Compare a [op] [b] pos) (pV (h_ f ta tb)):=
 G0 (ZG d e.out g.out i) (Si (GQ h))
noncomputable def VO(O:Ow):D->R Bool
 |.non=>.ok qj O
 |.bl b=>.ok b O
 |.int i=>.ok (i !=0) O
 |.str cs=>if cs.length<=4000000 then .ok (!cs.isEmpty) O else .bad
 |.lst ds=>.ok (!ds.isEmpty) O
 |.tup ds=>.ok (!ds.isEmpty) O
 | .own k=>match O[k]? with
  |some ds=>.ok (!ds.isEmpty) O
  |none=>.bad
 |.dct=>.bad
 |.exn _=>.bad
 |.tab _=>.bad
 |.map _ _=>.bad
 |.adr _=>.bad
def sN(t:DE):DT:=λσ O=>(t σ O).bnd λx O1=>VO O1 x
def xX{n:Nat}(h:n<=4000000):n<=q9:=aF h 's'
def LA{K:ai}{H:Hp}{XV μ:List af}{ds:List D}{vs:List V}(h:nW K H XV μ ds vs):(!ds.isEmpty) = !vs.isEmpty:=by have e:=h.length;cases ds<;>cases vs<;>simp_all
def Qj(u:PD X Ex a ta)(w:∀f,isTrue a X.env f=(do let v <- f;standAt a.pos;holding [v] (truthy v))):qQ X Ex a (sN ta):=
 G0 (zdd u.out w) λg E F O G H Q y z q=>rd.go y z q λd i v j m I x c r p=>by
  cases d with
  |non=>unfold Y2 at r;subst r;exact⟨_,rfl,post.here p c rfl⟩
  |bl b=>unfold Y2 at r;subst r;exact⟨_,rfl,post.here p c rfl⟩
  |int b=>unfold Y2 at r;subst r;exact⟨_,rfl,post.here p c rfl⟩
  | str cs=>
   unfold Y2 at r;subst r;by_cases s:cs.length<=4000000
   ·have t:xv Ex X.K j g m (.ok (!cs.isEmpty) i) Q:=by
     have h:xv Ex X.K j g m (if cs.length<=4000000 then .ok (!cs.isEmpty) i else .bad) Q:=p;rw[qL s] at h;exact h
    refine⟨_,⟨?_,rfl⟩,?_⟩
    ·show cs.toArray.size<=_;rw[aP];exact xX s
    ·have e:(((⟨cs.toArray⟩:au).length:Int) !=0) = !cs.isEmpty:=by
      show((cs.toArray.size:Int) !=0)=_;cases cs<;>simp[bne];lia
     rw[e];exact post.here t c rfl
   ·have h:xv Ex X.K j g m (if cs.length<=4000000 then .ok (!cs.isEmpty) i else .bad) Q:=p;rw[q0 s] at h;exact ah h
  | lst n=>
   obtain⟨a,o,rfl,l,q⟩:=r;exact⟨_,.inl ⟨o,l.sq,rfl⟩,by rw[<- LA q];exact post.here p c rfl⟩
  | tup n=>
   obtain⟨a,o,rfl,l,q⟩:=r;exact⟨_,.inr (.inl ⟨o,l.sq,rfl⟩),by rw[<- LA q];exact post.here p c rfl⟩
  | own k=>
   obtain⟨a,rfl,A⟩:=r;obtain⟨n,o,B,C,D⟩:=c.at_ k a A;have t:xv Ex X.K j g m (.ok (!n.isEmpty) i) Q:=by
    have h:xv Ex X.K j g m (match i[k]? with|some n=>.ok (!n.isEmpty) i|none=>.bad) Q:=p;rw[B] at h;exact h
   exact⟨_,.inl ⟨o,.of C,rfl⟩,by rw[<- LA D];exact post.here t c rfl⟩
  |dct=>exact ah p
  |exn _=>exact ah p
  |tab _=>exact ah p
  |map _ _=>exact ah p
  |adr _=>exact ah p
noncomputable def fI(g:Int->Int->Option D):Ow->D->D->R D:=λO x y=>match x,y with
 | .int i,.int j=>match g i j with
  |some d=>.ok d O
  |none=>.bad
 |_,_=>.bad
def D7(h:∀i j d,g i j=KF d->C i j/\∀K H XV μ,Y2 K H XV μ d (gv i j)):r9 X Ex (rI C gv) (fI g):=by
 intro H XV μ O x y v w Q c e f q;unfold fI at q;split at q
 ·rename_i i j;subst e;subst f;split at q
  ·rename_i d k;obtain⟨l,m⟩:=h i j d k;exact⟨i,j,rfl,rfl,l,post.here q c (m _ _ _ _)⟩
  ·exact ah q
 ·exact ah q
def CW(h:∀i j d,g i j=KF d->∀K H XV μ,Y2 K H XV μ d (gv i j)):r9 X Ex (uP gv) (fI g):=by
 intro H XV μ O x y v w Q c e f q;unfold fI at q;split at q
 ·rename_i i j;subst e;subst f;split at q
  ·rename_i d k;exact⟨i,j,rfl,rfl,post.here q c (h i j d k _ _ _ _)⟩
  ·exact ah q
 ·exact ah q
def sv:Y2 K H XV μ (.int i) (.int i):=by unfold Y2;rfl
def uj{K H XV μ}{i:Bool}:Y2 K H XV μ (.bl i) (.bl i):=by unfold Y2;rfl
def zw:Y2 K H XV μ .non .non:=by unfold Y2;rfl
def Kf:Y2 K H XV μ (.str cs) (.str ⟨cs.toArray⟩):=by unfold Y2;rfl
def gB(p:Int->Int->Bool):Int->Int->Option D:=λi j=>KF (.bl (p i j))
noncomputable def gI(p:Int->Int->Int):Int->Int->Option D:=λi j=>KF (.int (p i j))
def z7:Int->Int->Option D:=gI λi j=>i-j
noncomputable def xq:Int->Int->Option D:=λi j=>if (-1000000000000000<i/\i<1000000000000000)\/(-1000000000000000<j/\j<1000000000000000) then KF (.int (i*j)) else KM
def y9:Int->Int->Option D:=λi j=>if 0<j/\j<1073741824 then KF (.int (i/j)) else KM
def vV:Int->Int->Option D:=λi j=>if 0<j then KF (.int (i%j)) else KM
def AV:Int->Int->Option D:=λi j=>if 0<=j/\j<=1000000/\i.natAbs<2 ^ 64 then KF (.int (i ^ j.toNat)) else KM
def ug:Int->Int->Option D:=λi j=>if 0<=j/\j<=1000000/\i.natAbs<2 ^ 64 then KF (.int (i*2 ^ j.toNat)) else KM
def YN:r9 X Ex (uP λi j=>.int (i-j)) (fI z7):=CW λi j d h _ _ _ _=>by cases h;exact sv
def ZD:r9 X Ex (rI oR λi j=>.int (i*j)) (fI xq):=D7 λi j d h=>by
 unfold xq at h;split at h
 ·rename_i e;cases h;exact⟨e.imp (λz=>⟨by lia,by lia⟩) λz=>⟨by lia,by lia⟩,λ_ _ _ _=>sv⟩
 ·cases h
def zfY:r9 X Ex (rI NK λi j=>.int (i/j)) (fI y9):=D7 λi j d h=>by
 unfold y9 at h;split at h
 ·rename_i e;cases h;exact⟨e,λ_ _ _ _=>sv⟩
 ·cases h
def Zm:r9 X Ex (rI (λ_ j=>0<j) λi j=>.int (i%j)) (fI vV):=D7 λi j d h=>by
 unfold vV at h;split at h
 ·rename_i e;cases h;exact⟨e,λ_ _ _ _=>sv⟩
 ·cases h
def zfO:r9 X Ex (rI Gm λi j=>.int (i ^ j.toNat)) (fI AV):=D7 λi j d h=>by
 unfold AV at h;split at h
 ·rename_i e;cases h;exact⟨e,λ_ _ _ _=>sv⟩
 ·cases h
def Z3:r9 X Ex (rI Gm λi j=>.int (i*2 ^ j.toNat)) (fI ug):=D7 λi j d h=>by
 unfold ug at h;split at h
 ·rename_i e;cases h;exact⟨e,λ_ _ _ _=>sv⟩
 ·cases h
def B4:Ow->D->D->R D:=fI (gB λi j=>decide (i<j))
def FW:Ow->D->D->R D:=fI (gB λi j=>decide (i<=j))
def FX:Ow->D->D->R D:=fI (gB λi j=>decide (j<=i))
def OW:r9 X Ex (uP λi j=>.bl (decide (i<j))) B4:=CW λi j d h _ _ _ _=>by cases h;exact uj
def PH:r9 X Ex (uP λi j=>.bl (decide (i<=j))) FW:=CW λi j d h _ _ _ _=>by cases h;exact uj
def PJ:r9 X Ex (uP λi j=>.bl (decide (j<=i))) FX:=CW λi j d h _ _ _ _=>by cases h;exact uj
def Oc:D->Bool
 |.non=>qb
 |_=>qj
def Jg:Ow->D->D->R D:=λO x y=>match y with
 |.non=>.ok (.bl (Oc x)) O
 |_=>.bad
def YF(h:Y2 K H XV μ x v):decide (v=.non)=Oc x:=by
 cases x with
 |non=>unfold Y2 at h;subst h;rfl
 |bl _=>unfold Y2 at h;subst h;rfl
 |int _=>unfold Y2 at h;subst h;rfl
 |str _=>unfold Y2 at h;subst h;rfl
 |lst _=>unfold Y2 at h;obtain⟨_,_,rfl,_⟩:=h;rfl
 |tup _=>unfold Y2 at h;obtain⟨_,_,rfl,_⟩:=h;rfl
 |own _=>unfold Y2 at h;obtain⟨_,rfl,_⟩:=h;rfl
 |dct=>unfold Y2 at h;obtain⟨_,rfl,_⟩:=h;rfl
 |exn _=>unfold Y2 at h;obtain⟨_,_,rfl,_⟩:=h;rfl
 |tab _=>unfold Y2 at h;obtain⟨rfl,_⟩:=h;rfl
 |map _ _=>unfold Y2 at h;obtain⟨_,_,rfl,_⟩:=h;rfl
 |adr _=>unfold Y2 at h;subst h;rfl
def zg3:r9 X Ex (λx y H Q=>y=.non/\Q (.bl (decide (x=.non))) H) Jg:=by
 intro H e g O x y v w Q c f d q;cases y with
 | non=>
  unfold Y2 at d;subst d;refine⟨rfl,?_⟩;rw[YF f];exact post.here (q) c uj
 |_=>exact ah q
def y0(t u:DE):DE:=λσ O=>(t σ O).bnd λx O1=>match x with
 |.bl qb=>u σ O1
 |.bl qj=>.ok (.bl qj) O1
 |_=>.bad
def IZ(t u:DE):DE:=λσ O=>(t σ O).bnd λx O1=>match x with
 |.bl qb=>.ok (.bl qb) O1
 |.bl qj=>u σ O1
 |_=>.bad
def B_(t:DE):DE:=λσ O=>(t σ O).bnd λx O1=>match x with
 |.bl b=>.ok (.bl (!b)) O1
 |_=>.bad
def A3(t u:DT):DT:=λσ O=>(t σ O).bnd λx O1=>if x=qb then u σ O1 else .ok qj O1
def Ab(t u:DT):DT:=λσ O=>(t σ O).bnd λx O1=>if x=qb then .ok qb O1 else u σ O1
def xU(t:DT):DT:=λσ O=>(t σ O).bnd λx O1=>.ok (!x) O1
def Pe(d:PD X Ex a ta):PD X Ex (.BoolOp op [a] pos) ta:=⟨W5 d.out⟩
def P6{e:List aO}(g:PD X Ex a ta)(h:PD X Ex (.BoolOp .And (b::e) pos) tb):PD X Ex (.BoolOp .And (a::b::e) pos) (y0 ta tb):=
 rl (XT g.out h.out) λf s i O t H Q j l q=>rd.go j l q λd m v u n o x c r p=>by
  cases d with
  | bl k=>
   unfold Y2 at r;subst r;refine⟨k,rfl,?_⟩;cases k with
   |true=>rw[qL rfl];exact⟨f,n,i,m,o,c,p⟩
   |false=>rw[q0 cB];exact post.here p c uj
  |_=>exact ah p
def Oj{e:List aO}(g:PD X Ex a ta)(h:PD X Ex (.BoolOp .Or (b::e) pos) tb):PD X Ex (.BoolOp .Or (a::b::e) pos) (IZ ta tb):=
 rl (WK g.out h.out) λf s i O t H Q j l q=>rd.go j l q λd m v u n o x c r p=>by
  cases d with
  | bl k=>
   unfold Y2 at r;subst r;refine⟨k,rfl,?_⟩;cases k with
   |true=>rw[qL rfl];exact post.here p c uj
   |false=>rw[q0 cB];exact⟨f,n,i,m,o,c,p⟩
  |_=>exact ah p
def Pa(e:PD X Ex a ta):PD X Ex (.UnaryOp .Not a pos) (B_ ta):=
 rl (Yy e.out) λf i j O l H Q g h q=>rd.go g h q λd m v n o s x c r p=>by
  cases d with
  |bl k=>unfold Y2 at r;subst r;exact⟨k,rfl,post.here p c uj⟩
  |_=>exact ah p
structure ud(X:Cx)(Ex:Nat->Hp->Prop)(e:aO)(t:DT):Prop where
 out:PW X e (xF Ex X.K t)
def ud.pt(h:ud X Ex e t):qQ X Ex e t:=⟨L2.PW.pt h.out⟩
def Pj{e:aO}{t:TT}{t':DT}(h:PW X e t)(f:∀XV μ σ O d H Q,nX X.K H XV μ σ d->nV X.K H XV μ O->xv Ex X.K H XV μ (t' σ O) Q->t d H Q):ud X Ex e t':=
 ⟨PW.imp h λd H Q ⟨XV,μ,σ,O,g,i,q⟩=>f XV μ σ O d H Q g i q⟩
def QU{d:List aO}{f g:DT}(h:qQ X Ex a f)(i:ud X Ex (.BoolOp .And (b::d) pos) g):ud X Ex (.BoolOp .And (a::b::d) pos) (A3 f g):=
 Pj (X5 h.out i.out) λe s j O t H Q l m q=>xF.go l m q λk n u o r x c p=>by
  cases k with
  |true=>rw[qL rfl];exact⟨e,o,j,n,r,c,p⟩
  |false=>rw[q0 cB];exact post.here p c rfl
def PF{d:List aO}{f g:DT}(h:qQ X Ex a f)(i:ud X Ex (.BoolOp .Or (b::d) pos) g):ud X Ex (.BoolOp .Or (a::b::d) pos) (Ab f g):=
 Pj (Ww h.out i.out) λe s j O t H Q l m q=>xF.go l m q λk n u o r x c p=>by
  cases k with
  |true=>rw[qL rfl];exact post.here p c rfl
  |false=>rw[q0 cB];exact⟨e,o,j,n,r,c,p⟩
def RA(d:qQ X Ex a tA):ud X Ex (.BoolOp .And [a] pos) tA:=⟨YY d.out⟩
def QE(d:qQ X Ex a tA):ud X Ex (.BoolOp .Or [a] pos) tA:=⟨W0 d.out⟩
def Qx{d:DT}(e:qQ X Ex a d):qQ X Ex (.UnaryOp .Not a pos) (xU d):=
 G0 (XG e.out) λf i j O l H Q g h q=>xF.go g h q λk m n o r x c p=>post.here p c rfl
noncomputable def JO(f g:Ow->D->D->R D)(ta tb tc:DE):DE:=λσ O=>(ta σ O).bnd λx O1=>(tb σ O1).bnd λy O2=>(f O2 x y).bnd λz O3=>match z with
 |.bl qb=>(tc σ O3).bnd λw O4=>g O4 y w
 |.bl qj=>.ok (.bl qj) O3
 |_=>.bad
def zdR{op e:CmpOp}{r i:R2}{f g:Ow->D->D->R D}(o:qm X (cm op) r)(h:r9 X Ex r f)(s:qm X (cm e) i)(h':r9 X Ex i g)(t:PD X Ex a ta)(A:PD X Ex b tb)(B:PD X Ex c tc)
  (C:lastMarks [op,e] [b,c]=qj:=by with_unfolding_all rfl):PD X Ex (.Compare a [op,e] [b,c] pos) (JO f g ta tb tc):=
 rl (ze8 o s t.out A.out B.out C) λd μ σ O a_ H Q E F q=>rd.go E F q λx O1 v H1 e_ G x2 I J K=>rd.go G I K λy L w M N P S T j U=>
  h M d N L x y v w _ T (J.ext S) j (post.bnd U λz O3 u H3 yt l m n p=>by
   cases z with
   | bl k=>
    unfold Y2 at n;subst n;refine⟨k,rfl,?_⟩;cases k with
    |true=>rw[qL rfl];exact rd.go (P.ext l) m p λV W Y Z VM e5 x5 c5 d5 q5=>h' Z d VM W y V w Y Q c5 ((j.ext l).ext x5) d5 q5
    |false=>rw[q0 cB];exact post.here p m uj
   |_=>exact ah p)
def f_:DA:=λ_ O=>.ok [] O
def b_(t:DE)(u:DA):DA:=λσ O=>(t σ O).bnd λx O1=>(u σ O1).bnd λxs O2=>.ok (x::xs) O2
def Qg:sI X Ex [] f_:=PQ Ba λd f g O h H Q i e q=>post.here q e .nil
def Sl{d:List aO}{t:DA}(e:PD X Ex a ta)(f:sI X Ex d t)(g:aA (a::d) X.env=(qj,eval a X.env)::aA d X.env:=by rfl):sI X Ex (a::d) (b_ ta t):=
 PQ (xB e.out f.out g) λh u z O A H Q i j q=>rd.go i j q λx B v C D k E l m n=>t6.go k l n λy F w G I J o p r s=>post.here s p (.cons (m.ext o) r)
def sJ(t:DA):DE:=λσ O=>(t σ O).bnd λxs O1=>if xs.length<=4000000 then .ok (.tup xs) O1 else .bad
def sk(t:DA):DE:=λσ O=>(t σ O).bnd λxs O1=>if xs.length<=4000000 then .ok (.lst xs) O1 else .bad
def Ae(t:DA):DE:=λσ O=>(t σ O).bnd λxs O1=>if xs.length<=4000000 then .ok (.own O1.length) (O1++[xs]) else .bad
def post.iteN{α β:Type}{K:ai}{H:Hp}{XV μ:List af}{d:Hp->List af->α->β->Prop}{Q:β->Hp->Prop}{b:Bool}{r:R α}(h:post Ex K d H XV μ (if b=qb then .bad else r) Q):b=qj/\post Ex K d H XV μ r Q:=by
 cases b with
 |true=>exact ah h
 |false=>exact⟨rfl,h⟩
def post.ite{α β:Type}{K:ai}{H:Hp}{XV μ:List af}{d:Hp->List af->α->β->Prop}{Q:β->Hp->Prop}{c:Prop}[Decidable c]{r:R α}(h:post Ex K d H XV μ (if c then r else .bad) Q):c/\post Ex K d H XV μ r Q:=by
 by_cases e:c
 ·rw[qL e] at h;exact⟨e,h⟩
 ·rw[q0 e] at h;exact ah h
def O7(h:sI X Ex es t):PD X Ex (.Tuple es x1 pos) (sJ t):=
 rl (PZ h.out) λi m n O o H Q j k q=>t6.go j k q λr s u v w x y f g d=>by
  obtain⟨l,d⟩:=post.ite d;exact⟨by rw[<- g.length];exact xX l,λp e=>post.ok d (.laid e) (f.laid e) (Y2.newT f e g)⟩
def Pb(h:sI X Ex es t):PD X Ex (.List es pos) (sk t):=
 rl (OS h.out) λi m n O o H Q j k q=>t6.go j k q λr s u v w x y f g d=>by
  obtain⟨l,d⟩:=post.ite d;exact⟨by rw[<- g.length];exact xX l,λp e=>post.ok d (.laid e) (f.laid e) (Y2.newL f e g)⟩
def Lr(h:μ.length=n):Y2 K H XV (μ++[p]) (.own n) (.ref p):=by exact⟨p,rfl,by rw[<- h];simp⟩
def YE(h:sI X Ex es t):PD X Ex (.List es pos) (Ae t):=
 rl (OS h.out) λi m n O o H Q j k q=>t6.go j k q λr s u v w x y e f d=>by
  obtain⟨l,d⟩:=post.ite d;exact⟨by rw[<- f.length];exact xX l,λp g=>post.ok d (.cell g) (e.cell g f) (Lr e.len)⟩
end
inductive Src where
 |val (ds:List D)
 |own (k:Nat)
 |zip (a b:Src)
 deriving Inhabited
noncomputable def Src.get:Src->Ow->Nat->Option D
 |.val ds,_,i=>ds[i]?
 | .own k,O,i=>match O[k]? with
  |some ds=>ds[i]?
  |none=>KM
 | .zip a b,O,i=>match a.get O i,b.get O i with
  |some x,KF y=>KF (.tup [x,y])
  |_,_=>KM
noncomputable def Src.size:Src->Ow->Nat
 |.val ds,_=>ds.length
 | .own k,O=>match O[k]? with
  |some ds=>ds.length
  |none=>0
 |.zip a b,O=>min (a.size O) (b.size O)
abbrev DI:=Sg->Ow->R Src
def n8(K:ai)(J:It)(src:Src)(H:Hp)(XV μ:List af):Prop:=∀hid' H' c_ O',Mv H XV μ H' hid' c_->nV K H' hid' c_ O'->∀i,
 match src.get O' i with
 |some d=>J.go i H'/\∀x tu,J.yld i H' x tu->Ext H' c_ tu c_/\nV K tu hid' c_ O'/\Y2 K tu hid' c_ d x
 |none=>J.stop i H'
noncomputable def rdI(Ex:Nat->Hp->Prop)(K:ai)(t:DI):TI:=λa_ H Rr=>∃XV μ σ O,nX K H XV μ σ a_/\nV K H XV μ O/\post Ex K (λH' c_ s J=>n8 K J s H' XV c_) H XV μ (t σ O) Rr
structure s_(X:Cx)(Ex:Nat->Hp->Prop)(tg iter:aO)(t:DI):Prop where
 out:PI X tg iter (rdI Ex X.K t)
def n8.mv(h:n8 K J src H XV μ)(e:Mv H XV μ H1 xl e_):n8 K J src H1 xl e_:=
 λa b d f m c=>h a b d f (e.trans m) c
def n8.val(l:LstAt K H XV μ a vs)(q:nW K H XV μ ds vs):n8 K (Nr K a) (.val ds) H XV μ:=by
 intro f k n o m c i;have b:=(l.mv m).sq;have h:=q.mv m;show match ds[i]? with|some d=>_|none=>_
 cases e:ds[i]? with
 | some d=>
  obtain⟨v,g,j⟩:=h.get e;refine⟨⟨vs,v,b,g⟩,λx p y=>?_⟩;obtain⟨rfl,y⟩:=y;have:=y vs b;rw[g] at this;cases this;exact⟨.refl,c,j⟩
 | none=>
  refine⟨vs,b,?_⟩;have:=ba.mp e;rw[<- q.length];exact this
def n8.tup(l:TupAt K H XV μ a vs)(q:nW K H XV μ ds vs):n8 K (Np K a) (.val ds) H XV μ:=by
 intro f k n o m c i;have b:=(l.mv m).sq;have h:=q.mv m;show match ds[i]? with|some d=>_|none=>_
 cases e:ds[i]? with
 | some d=>
  obtain⟨v,g,j⟩:=h.get e;refine⟨⟨vs,v,b,g⟩,λx p y=>?_⟩;obtain⟨rfl,y⟩:=y;have:=y vs b;rw[g] at this;cases this;exact⟨.refl,c,j⟩
 | none=>
  refine⟨vs,b,?_⟩;have:=ba.mp e;rw[<- q.length];exact this
def n8.own(h:μ[k]?=KF a):n8 K (Nr K a) (.own k) H XV μ:=by
 intro j o w p m c i;obtain⟨q,rfl⟩:=m.pre;have r:(μ++q)[k]?=KF a:=by rw[aG (al.mp h).1];exact h
 obtain⟨b,f,s,t,l⟩:=c.at_ k a r;have g:qr K o a f:=.of t;show match (match p[k]? with|some b=>b[i]?|none=>KM) with|some d=>_|none=>_
 rw[s];show match b[i]? with|some d=>_|none=>_
 cases e:b[i]? with
 | some d=>
  obtain⟨v,n,u⟩:=l.get e;refine⟨⟨f,v,g,n⟩,λx z y=>?_⟩;obtain⟨rfl,y⟩:=y;have:=y f g;rw[n] at this;cases this;exact⟨.refl,c,u⟩
 | none=>
  refine⟨f,g,?_⟩;have:=ba.mp e;rw[<- l.length];exact this
def Nq(x:au):It:=⟨λi _=>i<x.cps.size,λi H v H'=>H'=H/\∃c,x.cps[i]?=KF c/\v=.str ⟨#[c]⟩,λi _=>x.cps.size<=i⟩
def n8.str{K:ai}{H:Hp}{XV μ:List af}{cs:l_}:n8 K (Nq ⟨cs.toArray⟩) (.val (cs.map λc=>.str [c])) H XV μ:=by
 intro a h j k m c i;show match (cs.map λc=>D.str [c])[i]? with|some d=>_|none=>_
 rw[bO];cases e:cs[i]? with
 | some d=>
  have f:=(al.mp e).1;refine⟨by show i<cs.toArray.size;simpa using f,λx l y=>?_⟩;obtain⟨rfl,z,g,rfl⟩:=y;have b:=g;rw[List.getElem?_toArray,e] at b;cases b;refine⟨.refl,c,?_⟩;rfl
 | none=>
  have:=ba.mp e;show cs.toArray.size<=i;simpa using this
def n8.rng:n8 K (Jd lo n) (.val ((a9 n).map λi=>.int (lo+(i:Nat)))) H XV μ:=by
 intro b e f g m c i;show match ((a9 n).map λi=>D.int (lo+(i:Nat)))[i]? with|some d=>_|none=>_
 rw[bO];by_cases a:i<n
 ·rw[lB a];refine⟨a,λx h y=>?_⟩;obtain⟨rfl,rfl⟩:=y;exact⟨.refl,c,sv⟩
 ·rw[ba.mpr ⇑a];exact kX.mp a
def zej(x:au)(t:Tok)(it:af):xt P w K tg (Nq x) [it] it (λi h=>h.IsStrIter it (strIterType x) x t i) where
 mem:=by simp
 obj:=λi h a b j=>by
  have e:b=it:=⇑j
  subst e;obtain⟨o,e,c,d⟩:=a;exact⟨o,e,λv z=>by rw[d] at z;cases z⟩
 keep:=λi h f a k=>by
  obtain⟨o,e,c,d⟩:=a;exact⟨o,k it 'd' o e,c,d⟩
 item:=by
  intro X R S T G i g s J H E I p a L;subst R S T;obtain⟨q,r,W,B,C,D⟩:=p it 'd';obtain⟨U,l⟩:∃c,x.cps[i]?=KF c:=⟨_,dN (L)⟩;have M:∀(F:String),(["enumerate", "zip", "dict_itemiterator", "dict_reverseitemiterator", "odict_iterator", "itertools.zip_longest", "itertools.pairwise"].contains F=qj)->strIterType x=F->∀f,f.IsStrIter it F x t (i+1)->dP it s.heap f->
    ∃u,KF (nB ⟨#[U]⟩ s.toks)=KF u/\ar (av X.prog X.w) X.A (letOwnedTupleGo tg (.ref it) u) (λ_ V=>∃y N,Inv X g J N V/\RelV y u/\(Nq x).yld i H y N/\V.heap.IsStrIter it (strIterType x) x t (i+1)/\∀b∈[it],N b=KM) E { s with heap:=f,toks:=s.toks+1 }:=by
   intro F Y Z f m n;have I1:Inv X g J H { s with heap:=f,toks:=s.toks+1 }:=I.turned (λb o j e=>(n.2 b j).trans e) q r B C D;obtain⟨o,e,c,d⟩:=id m;refine⟨_,rfl,DN e c d Y ⟨.str ⟨#[U]⟩,H,I1,⟨_,rfl⟩,⟨rfl,_,l,rfl⟩,?_,λb j=>(p b j).1⟩⟩;rw[Z];exact m
  unfold strIterType at a M ⊢;split at a
  ·rename_i O;exact wpAny_pyNext_ascii_item a l λf m n=>M "str_ascii_iterator" 's' (by rw[qL O]) f m n
  ·rename_i O;exact wpAny_pyNext_wide_item a l λf m n=>M "str_iterator" 's' (by rw[q0 O]) f m n
 done:=by
  intro X R S T G i g s J H E I p a L;obtain⟨q,r,W,B,C,D⟩:=p it 'd';have l:x.cps[i]?=KM:=by
   have:x.cps.size<=i:=L;simp[this]
  unfold strIterType at a;split at a
  ·exact wpAny_pyNext_ascii_end (I.ok.hd G) a l λf Q=>⟨rfl,I.turned (λb o j e=>Q b o j e) q r B C D⟩
  ·exact wpAny_pyNext_wide_end (I.ok.hd G) a l λf Q=>⟨rfl,I.turned (λb o j e=>Q b o j e) q r B C D⟩
 self:=λ_ _ s _ _ a h=>by
  unfold strIterType at a;split at a
  ·exact wpAny_pyIter_striter_ascii a h
  ·exact wpAny_pyIter_striter_wide a h
section
variable{X:Cx}{Ex:Nat->Hp->Prop}{pos:Pos}{a b c tg:aO}{ta:DE}
noncomputable def Ob(O:Ow):D->R Src
 |.lst ds=>.ok (.val ds) O
 |.tup ds=>.ok (.val ds) O
 |.str cs=>.ok (.val (cs.map λc=>.str [c])) O
 |.own k=>.ok (.own k) O
 |_=>.bad
def pY(t:DE):DI:=λσ O=>(t σ O).bnd λx O1=>Ob O1 x
def QF(G:PD X Ex a ta):s_ X Ex tg a (pY ta):=by
 refine⟨?_⟩;rintro m s L H M I ⟨f,U,V,O,N,P,q⟩;refine o_ (G.out m s L H _ I (rd.go N P q (Q1:=λv g=>∃f n w d,nV X.K g f n w/\Y2 X.K g f n d v/\post Ex X.K (λQ R s J=>n8 X.K J s Q f R) g f n (Ob w d) M)
  λd w v g n W x c r p=>⟨f,n,w,d,c,r,p⟩)) λu h ⟨v,g,i,z,f,n,w,d,c,r,p⟩=>?_
 have j:∀(b:af),b∈[h.heap.objs.size]->rS X m g b:=λb S=>by
  have e:b=h.heap.objs.size:=⇑S
  subst e;exact i.fpOk (aE _) (i.hok.fresh (aE _))
 cases d with
 | lst A=>
  obtain⟨a,B,rfl,l,q⟩:=r;cases z;obtain⟨C,D,y,E⟩:=i.list l.sq;refine fo y.isList ?_;exact⟨h.heap.objs.size,[h.heap.objs.size],_,_,g,rfl,i.kept λb o e=>aj _ e,SJ a _,⟨_,aN _ rfl,rfl,rfl⟩,j,post.here p c (.val l q)⟩
 | tup A=>
  obtain⟨a,B,rfl,l,q⟩:=r;cases z;obtain⟨C,D,y,E⟩:=i.tuple l.sq;refine fK (y) ?_;exact⟨h.heap.objs.size,[h.heap.objs.size],_,_,g,rfl,i.kept λb o e=>aj _ e,zas a _,⟨_,aN _ rfl,rfl,rfl⟩,j,post.here p c (.tup l q)⟩
 | str cs=>
  subst r;obtain⟨t,rfl⟩:=z;refine wpAny_pyIter_strU ?_;exact⟨h.heap.objs.size,[h.heap.objs.size],_,_,g,rfl,i.kept λb o e=>aj _ e,zej ⟨cs.toArray⟩ t _,⟨_,aN _ rfl,rfl,rfl⟩,j,post.here p c .str⟩
 | own k=>
  obtain⟨a,rfl,F⟩:=r;cases z;obtain⟨A,B,Y,T,Z⟩:=c.at_ k a F;obtain⟨C,D,y,E⟩:=i.list (.of T);refine fo y.isList ?_;exact⟨h.heap.objs.size,[h.heap.objs.size],_,_,g,rfl,i.kept λb o e=>aj _ e,SJ a _,⟨_,aN _ rfl,rfl,rfl⟩,j,post.here p c (.own F)⟩
 |_=>exact ah p
noncomputable def P4(lo hi:Int):Src:=.val ((a9 (hi-lo).toNat).map λi=>.int (lo+(i:Nat)))
def rU(t:DA):DI:=λσ O=>(t σ O).bnd λxs O1=>match xs with
 |[.int j]=>if -1000000<=j/\j<=1000000 then .ok (P4 0 j) O1 else .bad
 |_=>.bad
def PI.imp(h:PI X tg iter t)(f:∀σ H Q,t' σ H Q->t σ H Q):PI X tg iter t':=λd s σ H Q I q=>h d s σ H Q I (f σ H Q q)
def tO(h:nW K H XV μ [d] vs):∃v,vs=[v]/\Y2 K H XV μ d v:=by obtain⟨v,r,rfl,e,f⟩:=h;subst f;exact⟨v,rfl,e⟩
def Ct(h:nW K H XV μ [d,e] vs):∃v w,vs=[v,w]/\Y2 K H XV μ d v/\Y2 K H XV μ e w:=by obtain⟨v,r,rfl,f,g⟩:=h;obtain⟨w,rfl,i⟩:=tO g;exact⟨v,w,rfl,f,i⟩
def TF(f:Gl X "range")(g:X.mg "range" = KM)(h:sI X Ex [a] t)(i:aA [a] X.env=[(qj,eval a X.env)]:=by rfl):s_ X Ex tg (.Call (.Name "range" p) [a] [] pos) (rU t):=
 s_.mk <| PI.imp (zaA f g h.out i) λn H Q ⟨k,o,s,O,l,m,q⟩=>t6.go l m q λd u w y z A x c r p=>by
  split at p
  ·rename_i j;obtain⟨⟨B,C⟩,p⟩:=post.ite p;obtain⟨v,rfl,e⟩:=tO r;unfold Y2 at e;subst e;refine⟨j,rfl,by lia,by lia,?_⟩;have:=post.here p c (n8.rng);simpa using this
  ·exact ah p
end
inductive RS where
 |nx (σ:Sg) (O:Ow)
 |rt (d:D) (O:Ow)
 |bk (σ:Sg) (O:Ow)
 |ct (σ:Sg) (O:Ow)
 |exc (c:Nat) (O:Ow)
 |bad
 deriving Inhabited
abbrev DS:=Sg->Ow->RS
def R.bnS{α:Type}(r:R α)(k:α->Ow->RS):RS:=match r with
 |.ok a O=>k a O
 |.exc c O=>.exc c O
 |.bad=>.bad
section
variable(Ex:Nat->Hp->Prop)(K:ai)
def n6(H:Hp)(XV μ:List af)(r:RS)(E:xO):Prop:=match r with
 |.nx σ O=>∀a_ H' c_,Ext H μ H' c_->nX K H' XV c_ σ a_->nV K H' XV c_ O->E.nx a_ H'
 |.rt d O=>∀v H' c_,Ext H μ H' c_->nV K H' XV c_ O->Y2 K H' XV c_ d v->E.rt v H'
 |.bk σ O=>∀a_ H' c_,Ext H μ H' c_->nX K H' XV c_ σ a_->nV K H' XV c_ O->E.bk a_ H'
 |.ct σ O=>∀a_ H' c_,Ext H μ H' c_->nX K H' XV c_ σ a_->nV K H' XV c_ O->E.ct a_ H'
 |.exc c O=>∀H' c_,Ext H μ H' c_->nV K H' XV c_ O->Ex c H'
 |.bad=>False
def Im(t:DS):TS:=λE a_ H=>∃XV μ σ O,nX K H XV μ σ a_/\nV K H XV μ O/\n6 Ex K H XV μ (t σ O) E
end
structure tX(X:Cx)(Ex:Nat->Hp->Prop)(st:cN)(t:DS):Prop where
 out:PS X st (Im Ex X.K t)
structure rn(X:Cx)(Ex:Nat->Hp->Prop)(st:List cN)(t:DS):Prop where
 out:rL X st (Im Ex X.K t)
def PS.imp(h:PS X st t)(f:∀E σ H,t' E σ H->t E σ H):PS X st t':=λa s σ H D I q=>h a s σ H D I (f D σ H q)
def rL.imp(h:rL X st t)(f:∀E σ H,t' E σ H->t E σ H):rL X st t':=λa s σ H D I q=>h a s σ H D I (f D σ H q)
section
variable{Ex:Nat->Hp->Prop}{K:ai}{H H1:Hp}{XV μ e_:List af}
def n6.ext{r:RS}{E:xO}(h:n6 Ex K H XV μ r E)(e:Ext H μ H1 e_):n6 Ex K H1 XV e_ r E:=by
 cases r with
 |nx σ O=>exact λj f g i a b=>h j f g (e.trans i) a b
 |bk σ O=>exact λj f g i a b=>h j f g (e.trans i) a b
 |ct σ O=>exact λj f g i a b=>h j f g (e.trans i) a b
 |rt d O=>exact λv f g i a b=>h v f g (e.trans i) a b
 |exc c O=>exact λf g i a=>h f g (e.trans i) a
 |bad=>exact h
def n6.bnS{α β:Type}{a:Hp->List af->α->β->Prop}{r:R α}{k:α->Ow->RS}{E:xO}{Q1:β->Hp->Prop}(h:n6 Ex K H XV μ (r.bnS k) E)
  (b:∀d O1 v H1 e_,Ext H μ H1 e_->nV K H1 XV e_ O1->a H1 e_ d v->n6 Ex K H1 XV e_ (k d O1) E->Q1 v H1):post Ex K a H XV μ r Q1:=by
 cases r with
 |ok d O'=>exact λv f g e c q=>b d O' v f g e c q (n6.ext (h) e)
 |exc c O'=>exact h
 |bad=>exact h
end
section
variable{X:Cx}{Ex:Nat->Hp->Prop}{pos:Pos}{a b c e tg:aO}{tb tc te:DE}
def yG{g:cN}{t:TS}{t':DS}(h:PS X g t)(f:∀XV μ σ O E d H,nX X.K H XV μ σ d->nV X.K H XV μ O->n6 Ex X.K H XV μ (t' σ O) E->t E d H):tX X Ex g t':=
 ⟨PS.imp h λE d H ⟨XV,μ,σ,O,i,j,q⟩=>f XV μ σ O E d H i j q⟩
def Kg(h:rL X st t)(f:∀XV μ σ O E d H,nX X.K H XV μ σ d->nV X.K H XV μ O->n6 Ex X.K H XV μ (t' σ O) E->t E d H):rn X Ex st t':=
 ⟨rL.imp h λE d H ⟨XV,μ,σ,O,g,i,q⟩=>f XV μ σ O E d H g i q⟩
def rd.goS{t:DE}{XV μ:List af}{σ:Sg}{O:Ow}{i:St}{H:Hp}{Q1:VK}{k:D->Ow->RS}{E:xO}(j:nX X.K H XV μ σ i)(l:nV X.K H XV μ O)
  (q:n6 Ex X.K H XV μ ((t σ O).bnS k) E)
  (f:∀d O1 v g h,nX X.K g XV h σ i->Ext H μ g h->nV X.K g XV h O1->Y2 X.K g XV h d v->n6 Ex X.K g XV h (k d O1) E->Q1 v g):rd Ex X.K t i H Q1:=
 ⟨XV,μ,σ,O,j,l,n6.bnS q λd O1 v g h x c r p=>f d O1 v g h (j.ext x) x c r p⟩
def xF.goS{t:DT}{XV μ:List af}{σ:Sg}{O:Ow}{i:St}{H:Hp}{Q1:Bool->Hp->Prop}{k:Bool->Ow->RS}{E:xO}(j:nX X.K H XV μ σ i)(l:nV X.K H XV μ O)
  (q:n6 Ex X.K H XV μ ((t σ O).bnS k) E)
  (f:∀v O1 g h,nX X.K g XV h σ i->Ext H μ g h->nV X.K g XV h O1->n6 Ex X.K g XV h (k v O1) E->Q1 v g):xF Ex X.K t i H Q1:=
 ⟨XV,μ,σ,O,j,l,n6.bnS q λd O1 v g h x c r p=>by
  subst r;exact f d O1 g h (j.ext x) x c p⟩
def rT:DS:=λσ O=>.nx σ O
def pd(t u:DS):DS:=λσ O=>match t σ O with
 |.nx σ' O'=>u σ' O'
 |r=>r
def R1:rn X Ex [] rT:=Kg QY λd f j O E g H h i q=>q g H f .refl h i
def qo{i:cN}{f:List cN}{t u:DS}(k:tX X Ex i t)(l:rn X Ex f u):rn X Ex (i::f) (pd t u):=
 Kg (CU k.out l.out) λh m j O E s H n o q=>by
  refine⟨h,m,j,O,n,o,?_⟩;unfold pd at q;cases g:t j O with
  | nx σ' O'=>
   rw[g] at q;exact λv w p r a b=>⟨h,p,σ',O',a,b,q.ext r⟩
  |rt d O'=>rw[g] at q;exact q
  |bk σ' O'=>rw[g] at q;exact q
  |ct σ' O'=>rw[g] at q;exact q
  |exc c O'=>rw[g] at q;exact q
  |bad=>rw[g] at q;exact q
def qz(d:tX X Ex st t):rn X Ex [st] t:=⟨QS d.out⟩
def pL(t:DE):DS:=λσ O=>(t σ O).bnS λd O1=>.rt d O1
def Qk(f:PD X Ex e te):tX X Ex (.Return (KF e) pos) (pL te):=
 yG (Yj f.out) λg l m O E n H h i q=>rd.goS h i q λd o v j k s x c r p=>p v j k .refl c r
def rX(c:DT)(t u:DS):DS:=λσ O=>(c σ O).bnS λb O1=>if b=qb then t σ O1 else u σ O1
def OT{c:aO}{x y:List cN}{tc:DT}{t u:DS}(j:qQ X Ex c tc)(l:rn X Ex x t)(m:rn X Ex y u):tX X Ex (.If c x y pos) (rX tc t u):=
 yG (Wv j.out l.out m.out) λd r f O E s H n o q=>xF.goS n o q λk g v h i x c p=>by
  cases k with
  |true=>rw[qL rfl];exact⟨d,h,f,g,i,c,p⟩
  |false=>rw[q0 cB];exact⟨d,h,f,g,i,c,p⟩
def Jh:DS:=λ_ _=>.bad
def RP:rn X Ex st Jh:=Kg zbh λd f g O E h H i j q=>q
def yE(t:DE):DS:=λσ O=>(t σ O).bnS λ_ O1=>.nx σ O1
def Rg(f:PD X Ex e te)(g:swapsWith e KM pos.line X.env=pure qj:=by rfl):tX X Ex (.Expr e pos) (yE te):=
 yG (Q_ f.out g) λh o s O E i H j k q=>rd.goS j k q λd t v l m n x c r p=>p i l m .refl n c
def pS(i:Nat)(t:DE):DS:=λσ O=>(t σ O).bnS λd O1=>.nx (σ.set i (KF d)) O1
def G4(f:X.N.Nodup)(g:X.N[i]?=KF x)(h:Loc X.env.scope x)(j:PD X Ex e te)(k:swapsWith e (KF (.Name x pos')) pos.line X.env=pure qj:=by rfl)
  (l:X.fn x=qb\/X.env.scope.names.lookup x=KF .local:=by first|exact .inl rfl|exact .inr rfl):tX X Ex (.Assign [.Name x pos'] e pos) (pS i te):=
 yG (JU f g h j.out k l) λm y z O E n H o s q=>rd.goS o s q λd A v t u w x c r p=>p (n.set i (KF v)) t u .refl (w.set r i) c
inductive Tg where
 |one (i:Nat)
 |two (i j:Nat)
noncomputable def Tg.put:Tg->D->Sg->Option Sg
 |.one i,d,σ=>KF (σ.set i (KF d))
 | .two i j,d,σ=>match d with
  |.tup [x,y]=>KF ((σ.set i (KF x)).set j (KF y))
  |_=>KM
def Tg.rd(K:ai):Tg->TG
 |.one i=>zh i
 |.two i j=>NO K 2 (JJ (zh i) (JJ (zh j) NA))
def Tg.slots:Tg->l_
 |.one i=>[i]
 |.two i j=>[i,j]
def Tg.ok2(g:Tg)(n:nX K H XV μ σ a_)(q:Y2 K H XV μ d v)(h:g.put d σ=KF σ')
  (k:∀f,nX K H XV μ σ' f->(∀i,i∉g.slots->f[i]?=a_[i]?)->Q f H):g.rd K v a_ H Q:=by
 cases g with
 | one i=>
  cases h;exact k _ (n.set q i) λj p=>aW (λe=>p (by simp[Tg.slots,e]))
 | two i j=>
  unfold Tg.put at h;dsimp only at h;split at h
  ·rename_i x y;cases h;obtain⟨a,t,rfl,l,q⟩:=q;obtain⟨u,w,rfl,r,s⟩:=Ct q;refine⟨a,[u,w],rfl,l.sq,rfl,u,[w],rfl,w,[],rfl,rfl,k _ ((n.set r i).set s j) λm o=>?_⟩;rw[aW (λe=>o (by simp[Tg.slots,e])),aW (λe=>o (by simp[Tg.slots,e]))]
  ·cases h
def Tg.ok{K:ai}{H:Hp}{XV μ:List af}{σ σ':Sg}{f:St}{d:D}{v:V}{Q:St->Hp->Prop}(g:Tg)(m:nX K H XV μ σ f)(q:Y2 K H XV μ d v)(h:g.put d σ=KF σ')(k:∀n,nX K H XV μ σ' n->Q n H):g.rd K v f H Q:=by
 cases g with
 |one i=>cases h;exact k _ (m.set q i)
 | two i j=>
  unfold Tg.put at h;dsimp only at h;split at h
  ·rename_i x y;cases h;obtain⟨a,r,rfl,l,q⟩:=q;obtain⟨u,w,rfl,o,p⟩:=Ct q;exact⟨a,[u,w],rfl,l.sq,rfl,u,[w],rfl,w,[],rfl,rfl,k _ ((m.set o i).set p j)⟩
  ·cases h
def OR(d:X.N.Nodup)(f:X.N[i]?=KF x)(g:Loc X.env.scope x)(h:X.fn x=qb\/X.env.scope.names.lookup x=KF .local:=by first|exact .inl rfl|exact .inr rfl|assumption):PG X (.Name x pos) ((Tg.one i).rd X.K):=Hd d f g h
noncomputable def vY(src:Src)(step:D->Sg->Ow->RS):Nat->Nat->Sg->Ow->RS
 | 0,i,σ,O=>match src.get O i with
  |none=>.nx σ O
  |some _=>.bad
 | f+1,i,σ,O=>match src.get O i with
  |none=>.nx σ O
  | some d=>match step d σ O with
   |.nx σ' O'=>vY src step f (i+1) σ' O'
   |.ct σ' O'=>vY src step f (i+1) σ' O'
   |.bk σ' O'=>.nx σ' O'
   |r=>r
def uL(it:DI)(g:Tg)(body:DS):DS:=λσ O=>(it σ O).bnS λsrc O1=>vY src (λd σ O=>match g.put d σ with|some σ'=>body σ' O|none=>.bad) (src.size O1) 0 σ O1
def Ql{u:aO}{body:List cN}{it:DI}{g:Tg}{tb:DS}(hp:ji (av X.prog X.w) X.A X.env X.xe)(hc:X.calm=qb)(hi:s_ X Ex tg u it)(hg:PG X tg (g.rd X.K))(hb:rn X Ex body tb)
  (hs:∀x,bT u X.env x=pure x:=by intro _;rfl):tX X Ex (.For tg u body [] pos) (uL it g tb):=
 yG (PK hp hc hi.out hg hb.out hs) λk μ Q O E a_ H Y c1 q=>by
  refine⟨k,μ,Q,O,Y,c1,n6.bnS q λo O1 J Z S x1 c2 sa p=>?_⟩;generalize vg:(λ(d:D)(Q:Sg)(O:Ow)=>match g.put d Q with|some j=>tb j O|none=>RS.bad)=n at p;refine⟨λi m L t=>∃s j z,Ext Z S t s/\nX X.K t k s j L/\nV X.K t k s z/\n6 Ex X.K t k s (vY o n m i j z) E,⟨_,S,Q,O1,.refl,Y.ext x1,c2,p⟩,?_⟩;rintro i m vQ M ⟨F,N,B,x2,T,U,C⟩;have R:=sa k M F B x2.mv U i;cases G:o.get B i with
  | none=>
   rw[G] at R;refine .inl ⟨R,?_⟩;cases m with
   | zero=>
    have l:n6 Ex X.K M k F (match o.get B i with|none=>.nx N B|some _=>.bad) E:=C;rw[G] at l;exact l vQ M F .refl T U
   | succ f=>
    unfold vY at C;rw[G] at C;exact C vQ M F .refl T U
  | some d=>
   rw[G] at R;obtain⟨go,yl⟩:=R;cases m with
   | zero=>
    have l:n6 Ex X.K M k F (match o.get B i with|none=>.nx N B|some _=>.bad) E:=C;rw[G] at l;exact ah l
   | succ f=>
    refine .inr ⟨go,λL t=>∃s j z,Ext Z S t s/\nX X.K t k s j L/\nV X.K t k s z/\n6 Ex X.K t k s (vY o n f (i+1) j z) E,λj t h=>⟨f,eN f,h⟩,λv H3 y=>?_⟩;obtain⟨V,c4,r⟩:=yl v H3 y;unfold vY at C;rw[G] at C;have l:n6 Ex X.K H3 k F (match n d N B with
     |.nx j z=>vY o n f (i+1) j z
     |.ct j z=>vY o n f (i+1) j z
     |.bk j z=>.nx j z
     |r=>r) E:=n6.ext C V
    cases W:g.put d N with
    | none=>
     rw[<- vg] at l;simp only[W] at l;exact ah l
    | some rM=>
     refine Tg.ok g (T.ext V) r W λVL e3=>⟨k,F,rM,B,e3,c4,?_⟩;have UY:n d N B=tb rM B:=by rw[<- vg];simp only[W]
     rw[UY] at l;have x4:=x2.trans V;cases I:tb rM B with
     |nx Gb O4=>rw[I] at l;exact λL t s P a b=>⟨s,Gb,O4,x4.trans P,a,b,l.ext P⟩
     |ct Gb O4=>rw[I] at l;exact λL t s P a b=>⟨s,Gb,O4,x4.trans P,a,b,l.ext P⟩
     |bk Gb O4=>rw[I] at l;exact l
     |rt d4 O4=>rw[I] at l;exact l
     |exc c4 O4=>rw[I] at l;exact l
     |bad=>rw[I] at l;exact l
end
structure Cl where
 it:DI
 g:Tg
 ifs:List DT
def p9:List Cl->l_
 |[]=>[]
 |c::cs=>c.g.slots++p9 cs
def qe{α:Type}(σ:List (Option α)):l_->List (Option α)
 |[]=>σ
 |i::r=>qe (σ.set i KM) r
def uw:List DT->DT
 |[]=>λ_ O=>.ok qb O
 |c::cs=>λσ O=>(c σ O).bnd λb O1=>if b=qb then uw cs σ O1 else .ok qj O1
noncomputable def qy(src:Src)(step:D->Ow->List D->R (List D)):Nat->Nat->Ow->List D->R (List D)
 | 0,i,O,KB=>match src.get O i with
  |none=>.ok KB O
  |some _=>.bad
 | f+1,i,O,KB=>match src.get O i with
  |none=>.ok KB O
  |some d=>(step d O KB).bnd λpU O'=>qy src step f (i+1) O' pU
def vX:List Cl->DE->Sg->Ow->List D->R (List D)
 |[],elt,σ,O,KB=>(elt σ O).bnd λv O1=>if KB.length<4000000 then .ok (KB++[v]) O1 else .bad
 | c::cs,elt,σ,O,KB=>(c.it σ O).bnd λsrc O1=>qy src (λd O2 KB=>match c.g.put d (qe σ (p9 (c::cs))) with
   |some qf=>(uw c.ifs qf O2).bnd λb O3=>if b=qb then vX cs elt qf O3 KB else .ok KB O3
   |none=>.bad) (src.size O1) 0 O1 KB
def Ad(c:Cl)(cs:List Cl)(elt:DE)(σ:Sg):D->Ow->List D->R (List D):=λd O2 KB=>match c.g.put d (qe σ (p9 (c::cs))) with
   |some qf=>(uw c.ifs qf O2).bnd λb O3=>if b=qb then vX cs elt qf O3 KB else .ok KB O3
   |none=>.bad
abbrev Em:=Sg->Ow->List D->R (List D)
def zW(te:DE):Em:=λσ O KB=>(te σ O).bnd λv O1=>if KB.length<4000000 then .ok (KB++[v]) O1 else .bad
def uz:List Cl->Em->Sg->Ow->List D->R (List D)
 |[],em,σ,O,KB=>em σ O KB
 | c::cs,em,σ,O,KB=>(c.it σ O).bnd λsrc O1=>qy src (λd O2 KB=>match c.g.put d (qe σ (p9 (c::cs))) with
   |some qf=>(uw c.ifs qf O2).bnd λb O3=>if b=qb then uz cs em qf O3 KB else .ok KB O3
   |none=>.bad) (src.size O1) 0 O1 KB
def ui(c:Cl)(cs:List Cl)(em:Em)(σ:Sg):D->Ow->List D->R (List D):=λd O2 KB=>match c.g.put d (qe σ (p9 (c::cs))) with
   |some qf=>(uw c.ifs qf O2).bnd λb O3=>if b=qb then uz cs em qf O3 KB else .ok KB O3
   |none=>.bad
theorem Qr(te:DE):∀a:List Cl,uz a (zW te)=vX a te
 |[]=>by funext σ O KB;unfold uz vX zW;rfl
 |c::cs=>by funext σ O KB;unfold uz vX;rw[Qr te cs]
def zfM(c:Cl)(cs:List Cl)(te:DE):ui c cs (zW te)=Ad c cs te:=by funext σ d O KB;unfold ui Ad;rw[Qr te cs]
theorem D6{α:Type}:∀(l:l_)(σ:List (Option α)),(qe σ l).length=σ.length
 |[],_=>rfl
 |i::r,σ=>by unfold qe;rw[D6 r];simp
theorem Ka{α:Type}:∀(l:l_)(σ:List (Option α))(i:Nat),i∉l->(qe σ l)[i]?=σ[i]?
 |[],σ,i,h=>rfl
 | j::r,σ,i,h=>by
  unfold qe;rw[Ka r _ i λz=>h (ak _ z),aW λz=>h (by simp[z])]
theorem G9{α:Type}:∀(l:l_)(σ:List (Option α))(i:Nat)(d:α),(qe σ l)[i]?=KF (KF d)->σ[i]?=KF (KF d)/\i∉l
 |[],σ,i,d,h=>⟨h,by simp⟩
 | j::r,σ,i,d,h=>by
  obtain⟨a,b⟩:=G9 r _ i d h;by_cases e:j=i
  ·subst e;by_cases c:j<σ.length
   ·rw[aZ c] at a;cases a
   ·rw[ba.mpr (by simp;lia)] at a;cases a
  ·rw[aW e] at a;exact⟨a,by simp[b];exact λz=>e z.symm⟩
structure Ea(A:af)(H:Hp)(μ:List af)(H':Hp)(c_:List af):Prop where
 pre:∃ν,c_=μ++ν
 kept:∀b o,H b=KF o->b∉μ->b≠A->CD o->H' b=KF o
 fresh:∀b∈c_,b∈μ\/H b=KM
 there:∀b,H b≠KM->H' b≠KM
 tab:∀P,oi H P->oi H' P
section
variable{K:ai}{A:af}{H H' H1 H2:Hp}{XV μ c_ e_ pe:List af}
def Ext.ea(e:Ext H μ H' c_):Ea A H μ H' c_:=⟨e.pre,λb o h n _ a=>e.kept b o h n a,e.fresh,e.there,e.tab⟩
def Ea.refl:Ea A H μ H μ:=Ext.refl.ea
def Ea.trans(a:Ea A H μ H1 e_)(b:Ea A H1 e_ H2 pe):Ea A H μ H2 pe:=by
 have i:∀c,H1 c=KM->H c=KM:=λc h=>by
  cases e:H c with
  |none=>rfl
  |some o=>exact absurd h (a.there c (by rw[e];simp))
 refine⟨?_,λc o h d f g=>?_,λc h=>?_,λc h=>b.there c (a.there c h),λP t=>b.tab P (a.tab P t)⟩
 ·obtain⟨x,rfl⟩:=a.pre;obtain⟨y,rfl⟩:=b.pre;exact⟨x++y,by simp⟩
 ·refine b.kept c o (a.kept c o h d f g) (λm=>?_) f g;rcases a.fresh c m with z|z
  ·exact d z
  ·rw[z] at h;cases h
 ·rcases b.fresh c h with z|z
  ·exact a.fresh c z
  ·exact .inr (i c z)
def Ea.mv(e:Ea A H μ H' c_):Mv H (A::XV) μ H' (A::XV) c_:=⟨e.pre,λb o h a c d=>e.kept b o h a (λz=>c (by simp[z])) d,e.fresh,λ_ m=>.inl m,e.there,e.tab⟩
def Ea.putX(a:∀P,oi H P->oi (upd H A o) P):Ea A H μ (upd H A o) μ:=⟨⟨[],by simp⟩,λb u h _ n _=>by rw[pj n];exact h,λ_ m=>.inl m,xD,a⟩
def nV.putX(c:nV K H (A::XV) μ O)(b:∀P,oi H P->oi (upd H A o) P):nV K (upd H A o) (A::XV) μ O:=by refine⟨c.len,c.nd,c.nh,λa m=>xD a (c.ht a m),λk a e=>?_⟩;obtain⟨d,f,g,h,i⟩:=c.at_ k a e;have j:a≠A:=λz=>c.nh a (aX e) (by simp[z]);exact⟨d,f,g,by rw[pj j];exact h,i.mv (Ea.putX b).mv⟩
def Ea.put{o:HO}(a:∃vs,H A=KF (.lst vs)):Ea A H μ (upd H A o) μ:=.putX λ_ t=>t.upd (.inr a)
def nV.putA{o:HO}{O:Ow}(c:nV K H (A::XV) μ O)(a:∃vs,H A=KF (.lst vs)):nV K (upd H A o) (A::XV) μ O:=c.putX λ_ t=>t.upd (.inr a)
def nV.unhide(c:nV K H (A::XV) μ O):nV K H XV μ O:=
 ⟨c.len,c.nd,λa m z=>c.nh a m (ak _ z),λa m=>c.ht a (ak _ m),λk a e=>
  let ⟨ds,vs,h1,h2,h3⟩:=c.at_ k a e
  ⟨ds,vs,h1,h2,h3.mv .unhide⟩⟩
end
abbrev p_:Nat->Hp->Prop:=λ_ _=>False
inductive oo(X:Cx):List bJ->List Cl->Prop where
 |nil:oo X [] []
 | cons {tg iter:aO} {ifs:List aO} {gs:List bJ} {c:Cl} {cs:List Cl} (hi:s_ X p_ tg iter c.it) (hs:∀x,bT iter X.env x=pure x) (hg:PG X tg (c.g.rd X.K))
   (hf:cj (λe t=>qQ X p_ e t) ifs c.ifs) (r:oo X gs cs):oo X (⟨tg,iter,ifs,0⟩::gs) (c::cs)
section
variable{X:Cx}
def Aq{α:Type}{M:gE}{A:aU}{t:Sem α}{Q b:α->ag->Prop}{E:ae->ag->Prop}{s:ag}(c:X.xe=λ_ _=>False)(h:ar M A t Q X.xe s)(k:∀a s',Q a s'->b a s'):ar M A t b E s:=
 bZ h k λe s' z=>by rw[c] at z;exact z.elim
theorem TR{env:Env}{M:gE}{A:aU}{E:ae->ag->Prop}{s:ag}{Q:Bool->ag->Prop}(h:Q qj s):∀(a:List aO),ar M A (forIn a qj λc r=>if r=qb then do let ok <- isTrue c env (eval c env);pure (fL ok) else pure (fL r)) Q E s
 |[]=>ao h
 | c::cs=>by
  simp;exact aa (ao (TR h cs))
theorem Rj{E:ae->ag->Prop}{XV:List af}(i:X.xe=λ_ _=>False):∀{a:List aO}{ts:List DT},cj (λe t=>qQ X p_ e t) a ts->∀(Y1:List (af×Obj))(s:ag)(a_:St)(H:Hp)(μ:List af)(σ:Sg)(O:Ow)(Q:Bool->ag->Prop),
  L2.Inv X Y1 a_ H s->nX X.K H XV μ σ a_->nV X.K H XV μ O->
  xv p_ X.K H XV μ (uw ts σ O) (λb H'=>∀s',L2.Inv X Y1 a_ H' s'->Q b s')->
  ar (av X.prog X.w) X.A (forIn a qb λc r=>if r=qb then do let ok <- isTrue c X.env (eval c X.env);pure (fL ok) else pure (fL r)) Q E s
 |_,_,.nil,Y1,s,a_,H,μ,σ,O,Q,I,e1,c1,q=>ao (post.here q c1 rfl s I)
 | _::a,_::ts,.cons hc hr,Y1,s,a_,H,μ,σ,O,Q,I,e1,c1,q=>by
  simp only[fM,if_true];refine aa (aa (Aq i (hc.out Y1 s a_ H _ I (xF.go e1 c1 q (Q1:=λb g=>∃d f,nX X.K g XV d σ a_/\nV X.K g XV d f/\xv p_ X.K g XV d (if b=qb then uw ts σ f else .ok qj f) (λb H'=>∀s',L2.Inv X Y1 a_ H' s'->Q b s'))
   λb f g d h x c p=>⟨d,f,h,c,p⟩)) λb j ⟨g,k,d,f,h,l,p⟩=>ao ?_))
  cases b with
  |true=>rw[qL rfl] at p;exact Rj i hr Y1 j a_ g d σ f Q k h l p
  |false=>rw[q0 cB] at p;exact TR (post.here p l rfl j k) a
structure vA where
 ex:List bJ->bS->Pos->aO
 emit:ae->Env->Sem Unit
 new:Sem ae
 ho:aD->aR->af->HO
 G:ai->aD->aR->af->List af->Hp->List af->List D->Prop
structure Bs(X:Cx)(C:vA)(A:af)(XV:List af)(Y1:List (af×Obj))(s:ag)(a_:St)(H:Hp)(μ:List af)(σ:Sg)(O:Ow)(KB:List D):Prop where
 inv:L2.Inv X Y1 a_ H s
 env:nX X.K H (A::XV) μ σ a_
 cells:nV X.K H (A::XV) μ O
 grown:C.G X.K X.prog X.w A XV H μ KB
def Ox(X:Cx)(C:vA)(A:af)(XV:List af)(Y1:List (af×Obj))(a_:St)(H:Hp)(μ:List af)(sl:l_)(KB:List D)(O:Ow)(Q:ag->Prop):Prop:=
 ∀s' ph H' c_,L2.Inv X Y1 ph H' s'->Ea A H μ H' c_->nV X.K H' (A::XV) c_ O->C.G X.K X.prog X.w A XV H' c_ KB->ph.length=a_.length->(∀i,i∉sl->ph[i]?=a_[i]?)->Q s'
def yH(X:Cx)(C:vA)(A:af)(XV:List af)(Y1:List (af×Obj))(a_:St)(H:Hp)(μ:List af)(sl:l_)(r:R (List D))(Q:ag->Prop):Prop:=match r with
 |.ok KB O=>Ox X C A XV Y1 a_ H μ sl KB O Q
 |_=>False
noncomputable def A7(e:aO)(em:ae->Env->Sem Unit)(gens:List bJ)(k:Nat)(KB:ae)(env:Env):Sem Unit:=match gens[k]? with
 | some g'=>do
  let x <- eval g'.iter env
  standAt g'.iter.pos
  let x <- if g'.is_async !=0 then foldedIterable g'.iter x else bT g'.iter env x
  let _ <- runOwn (.compStart e k (<- holding [x] (if g'.is_async !=0 then asyncIter x else pyIter x)) KB env) env
 |none=>em KB env
def X0(C:vA):Prop:=∀(gens:List bJ)(scope:bS)(pos:Pos)(k:Nat)(it KB:ae)(env:Env){tg iter:aO}{ifs:List aO},gens[k]?=KF ⟨tg,iter,ifs,0⟩->
  (gens[k+1]?=KM \/ ∃Bt sV u_,gens[k+1]?=KF ⟨Bt,sV,u_,0⟩)->
  compTurn (C.ex gens scope pos) k it KB env=(do
   standAt iter.pos
   match <- pyNext it with
   |none=>pure (.done .next)
   | some v=>
    letOwnedTupleGo tg it v
    assign tg env v
    let mut ok:=qb
    for c in ifs do
     if ok then ok <- isTrue c env (eval c env)
    if ok then A7 (C.ex gens scope pos) C.emit gens (k+1) KB env
    again (.compLoop (C.ex gens scope pos) k it KB env))
structure Bd(C:vA):Prop where
 cl:∀gens scope pos,clausesOf (C.ex gens scope pos)=gens
 turn:X0 C
 keep:∀{K P w A XV H μ KB H' c_},C.G K P w A XV H μ KB->A∉μ->Ext H μ H' c_->C.G K P w A XV H' c_ KB
 new:∀{P:aD}{w:aR}{A:aU}{E:ae->ag->Prop}{Q:ae->ag->Prop}{s:ag},(∀o:Obj,o.isFreed=qj->(∀(H:Hp)(h:aL)(a:af),sysModules<a->h.get? a=KF o->on P w (upd H a (C.ho P w a)) h a (C.ho P w a))->Q (.ref s.heap.objs.size) { s with heap:=s.heap.push o })->ar (av P w) A C.new Q E s
 g0:∀{K P w a XV H μ},C.G K P w a XV (upd H a (C.ho P w a)) μ []
 q1:∀gens scope pos k it KB env,(lq (C.ex gens scope pos) k it KB env).quiet=qb
 u1:∀(A:aU)gens scope pos k it KB env,A.under (lq (C.ex gens scope pos) k it KB env)=A
 d1:∀P w gens scope pos k it KB env,(av P w).den (lq (C.ex gens scope pos) k it KB env)=(compTurn (C.ex gens scope pos) k it KB env).onRaise (λx=>do noteFrame x env;theTreesLotGoes x)
 u2:∀(A:aU)gens scope pos k it KB env,A.under (m8 (C.ex gens scope pos) k it KB env)=A
 d2:∀P w gens scope pos k it KB env,(av P w).den (m8 (C.ex gens scope pos) k it KB env)=(compStart (C.ex gens scope pos) k it KB env).onRaise (λx=>do noteFrame x env;standAt theWindowsPlace)
noncomputable def A4(elt:aO):vA where
 ex:=λgens scope pos=>.ListComp elt gens scope pos
 emit:=λKB env=>do let _ <- call (.builtin "list.append") [KB,<- eval elt env]
 new:=newList []
 ho:=λ_ _ _=>.lst []
 G:=λK _ _ A XV H μ KB=>∃vs,H A=KF (.lst vs)/\nW K H (A::XV) μ KB vs
def KC(c:aO):Bd (A4 c) where
 cl:=λ_ _ _=>rfl
 turn:=λd b g k n i j t l o m f=>by
  show compTurn (.ListComp c d b g) k n i j=_;unfold compTurn A7;rcases f with f|⟨u,v,w,f⟩
  ·simp only[m,f];rfl
  ·simp only[m,f,bne_self_eq_false,dR,if_false,bind_assoc,pure_bind]
   first|rfl|congr 1
 keep:=λ⟨p,q,r⟩ s x=>⟨p,x.keep _ _ q s,r.ext x⟩
 new:=λh=>dL (h _ rfl λH h a _ e=>⟨ck _,[],0,.nil,e⟩)
 g0:=⟨[],qS,.nil⟩
 q1:=λ_ _ _ _ _ _ _=>rfl
 u1:=λ_ _ _ _ _ _ _ _=>rfl
 d1:=λ_ _ _ _ _ _ _ _ _=>rfl
 u2:=λ_ _ _ _ _ _ _ _=>rfl
 d2:=λ_ _ _ _ _ _ _ _ _=>rfl
noncomputable def UB(Z:St->Hp->List af->Prop)(K:ai)(XV:List af)(t:DE):TE:=λa_ H Q=>∃μ σ O,Z a_ H μ/\nX K H XV μ σ a_/\nV K H XV μ O/\qt p_ K H XV μ (t σ O) Q
def PD.z{X:Cx}{Z:St->Hp->List af->Prop}{XV:List af}{e:aO}{t:DE}(h:PD X p_ e t):PE X e (UB Z X.K XV t):=λa s b H Q I ⟨c,d,O,_,f,g,q⟩=>h.out a s b H Q I ⟨XV,c,d,O,f,g,q⟩
section
variable{C:vA}{Z:St->Hp->List af->Prop}{A:af}{XV:List af}{elt:aO}{gens:List bJ}{scope:bS}{pos:Pos}{te:DE}{em:Em}
def zq(X:Cx)(Z:St->Hp->List af->Prop)(C:vA)(A:af)(XV:List af)(e:aO)(gens:List bJ)(em:Em)(k:Nat)(cls:List Cl):Prop:=∀(Y1:List (af×Obj))(s:ag)(a_:St)(H:Hp)(μ:List af)(σ:Sg)(O:Ow)(KB:List D)(Q:ag->Prop)(E:ae->ag->Prop),
 Z a_ H μ->Bs X C A XV Y1 s a_ H μ σ O KB->yH X C A XV Y1 a_ H μ (p9 cls) (uz cls em σ O KB) Q->ar (av X.prog X.w) X.A (A7 e C.emit gens k (.ref A) X.env) (λ_ s'=>Q s') E s
def zez{k:Nat}{e:aO}(p:X.xe=λ_ _=>False)(F:PE X elt (UB Z X.K (A::XV) te))(G:gens[k]?=KM):zq X Z (A4 elt) A XV e gens (zW te) k []:=by
 intro a s h H i t O b Q E z B q;unfold A7;rw[G];obtain⟨w,I,J⟩:=B.grown;cases j:te t O with
 | ok d O1=>
  have l:yH X (A4 elt) A XV a h H i (p9 []) (if b.length<4000000 then .ok (b++[d]) O1 else .bad) Q:=by
   have:=q;unfold uz zW at this;rw[j] at this;exact this
  by_cases o:b.length<4000000
  ·rw[qL o] at l;refine aa (Aq p (F a s h H (λv f=>∃g,Ext H i f g/\nV X.K f (A::XV) g O1/\Y2 X.K f (A::XV) g d v) B.inv ⟨i,t,O,z,B.env,B.cells,by rw[j];exact λv V L x c r=>⟨L,x,c,r⟩⟩)
    λu M ⟨v,f,N,P,g,x,c,r⟩=>?_)
   have R:A∉i:=λm=>B.cells.nh A m 'd';have n:=x.keep A _ I R;have y:=J.ext x;refine aa (Aq p (SN a M h f (.ref A) [v] (.ref A) [u] (λ_ D=>D=upd f A (.lst (w++[v]))) N rfl (.cons P .nil)
    ⟨A,w,v,rfl,rfl,n,aY (by rw[<- y.length];exact o) 's',rfl⟩) λW S ⟨Y,D,T,r2,U⟩=>?_)
   subst U;refine ao (l S h _ g T (x.ea.trans (.put ⟨_,n⟩)) (c.putA ⟨_,n⟩) ⟨_,qS,?_⟩ rfl λ_ _=>rfl);exact(y.append (.cons r .nil)).mv (Ea.put ⟨_,n⟩).mv
  ·rw[q0 o] at l;exact l.elim
 | exc c O1=>
  unfold uz zW at q;rw[j] at q;exact q.elim
 | bad=>
  unfold uz zW at q;rw[j] at q;exact q.elim
def QK(co:Bd C){k:Nat}{tg iter:aO}{ifs:List aO}{c:Cl}{cs:List Cl}(hx:X.xe=λ_ _=>False)(o8:X.calm=qb)(hk:gens[k]?=KF ⟨tg,iter,ifs,0⟩)(hg:PG X tg (c.g.rd X.K))(hf:cj (λe t=>qQ X p_ e t) ifs c.ifs)
  (hZ:∀(qf rR:St)S L H2 pe,Z qf S L->(∀j,j∉p9 (c::cs)->rR[j]?=qf[j]?)->Ea A S L H2 pe->Z rR H2 pe) (y:zq X Z C A XV (C.ex gens scope pos) gens em (k+1) cs) (hn:gens[k+1]?=KM \/ ∃Bt sV u_,gens[k+1]?=KF ⟨Bt,sV,u_,0⟩) {it:af} {fp:List af} {tn:Nat->aL->Prop} {J:It} {src:Src} (T:xt X.prog X.w X.K tg J fp it tn)
  (a:List (af×Obj)) (s:ag) (h:St) (H:Hp) (μ:List af) (σ:Sg) (O:Ow) (W:List D) (n:Nat) (Q:ag->Prop) (st:tn 0 s.heap) (yj:∀b∈fp,rS X a H b) (sa:n8 X.K J src H (A::XV) μ)
  (z0:Z h H μ) (B:Bs X C A XV a s h H μ σ O W) (q:yH X C A XV a h H μ (p9 (c::cs)) (qy src (ui c cs em σ) n 0 O W) Q):
  codeAny (av X.prog X.w) X.A (.compLoop (C.ex gens scope pos) k (.ref it) (.ref A) X.env) (λr s'=>∃f,r=.ok f/\Q s') s:=by
 have uZ:∀{l:Hp},(∀b∈fp,l b=KM)->∀b∈fp,rS X a l b:=λhn b y=>⟨hn b y,(yj b y).2⟩;let P:Nat->ag->Prop:=λm s'=>∃i M l N p E,L2.Inv X a M l s'/\tn i s'.heap/\(∀b∈fp,l b=KM)/\Ea A H μ l N/\nV X.K l (A::XV) N p/\C.G X.K X.prog X.w A XV l N E/\
  M.length=h.length/\(∀i,i∉p9 (c::cs)->M[i]?=h[i]?)/\yH X C A XV a h H μ (p9 (c::cs)) (qy src (ui c cs em σ) m i p E) Q
 refine codeAny_loop (co.q1 _ _ _ _ _ _ _) P (λm s1 hP=>?_) n ⟨0,h,H,μ,O,W,B.inv,st,λb y=>(yj b y).1,.refl,B.cells,B.grown,rfl,λ_ _=>rfl,q⟩;rw[co.u1,co.d1];refine wpAny_noted ?_;rw[co.turn _ _ _ _ _ _ _ hk hn];obtain⟨i,vS,S,L,U,R,I1,qi,Vp,x1,c1,g1,l1,k1,I⟩:=hP;have Ik:=sa (A::XV) S L U x1.mv c1 i
 -- yO names that Uw
 have Nd:nX X.K S (A::XV) L (qe σ (p9 (c::cs))) vS:=by
  refine⟨by rw[D6,B.env.len,l1],λj d Y=>?_⟩;obtain⟨h1,h2⟩:=G9 _ _ _ _ Y;obtain⟨v,h3,h4⟩:=B.env.at_ j d h1;exact⟨v,by rw[k1 j h2];exact h3,h4.mv x1.mv⟩
 cases qk:src.get U i with
 | none=>
  rw[qk] at Ik;have x:Ox X C A XV a h H μ (p9 (c::cs)) R U Q:=by
   cases m with
   |zero=>unfold qy at I;rw[qk] at I;exact I
   |succ f=>unfold qy at I;rw[qk] at I;exact I
  refine aa (fg (aa (o_ (T.done X rfl rfl rfl o8 i a s1 vS S _ I1 (uZ Vp) qi Ik) λr s2 ⟨hr,I2⟩=>?_)));subst hr;exact ao ⟨_,rfl,x s2 vS S L I2 x1 c1 g1 l1 k1⟩
 | some d=>
  rw[qk] at Ik;obtain⟨go,yl⟩:=Ik;cases m with
  | zero=>
   unfold qy at I;rw[qk] at I;exact I.elim
  | succ f=>
   have x:yH X C A XV a h H μ (p9 (c::cs)) ((ui c cs em σ d U R).bnd λE p=>qy src (ui c cs em σ) f (i+1) p E) Q:=by
    have:=I;unfold qy at this;rw[qk] at this;exact this
   refine aa (fg (aa (o_ (T.item X rfl rfl rfl o8 i a s1 vS S _ I1 (uZ Vp) qi go) λr s2 ⟨u,hr,h2⟩=>?_)));subst hr;refine aa (o_ h2 λ_ s3 ⟨v,H3,I3,r3,y3,pH,IW⟩=>?_);obtain⟨x3,c3,d3⟩:=yl v H3 y3;have I3':=I3.pinned (uZ IW) (T.obj _ _ pH);cases vh:c.g.put d (qe σ (p9 (c::cs))) with
   | none=>
    unfold ui at x;rw[vh] at x;exact x.elim
   | some rM=>
    have Fe:ui c cs em σ d U R=((uw c.ifs rM U).bnd λb O3=>if b=qb then uz cs em rM O3 R else .ok R O3):=by
     unfold ui;rw[vh]
    rw[Fe] at x;refine aa (Aq hx (hg _ s3 vS H3 v u (λV H4=>H4=H3/\nX X.K H3 (A::XV) L rM V/\∀j,j∉c.g.slots->V[j]?=vS[j]?) I3' r3 (Tg.ok2 c.g (Nd.ext x3) d3 vh λV e4 k4=>⟨rfl,e4,k4⟩)) λ_ s4 ⟨V,H4,I4,e4,FZ,k4⟩=>?_);subst e4;have l4:V.length=h.length:=by rw[I4.len,<- I3.len,l1]
    have Mb:∀j,j∉p9 (c::cs)->V[j]?=h[j]?:=λj Y=>by
     rw[k4 j λz=>Y (bN _ z)];exact k1 j Y
    have nA:A∉L:=λm=>c1.nh A m 'd';have x13:=x1.trans x3.ea;have g3:=co.keep g1 nA x3
    -- behind yO step: yO next turn
    have F:∀{s':ag}{M:St}{l:Hp}{N:List af}{p:Ow}{E:List D},L2.Inv X (a++D2 fp s3.heap) M l s'->Ea A H μ l N->nV X.K l (A::XV) N p->C.G X.K X.prog X.w A XV l N E->M.length=h.length->
      (∀i,i∉p9 (c::cs)->M[i]?=h[i]?)->yH X C A XV a h H μ (p9 (c::cs)) (qy src (ui c cs em σ) f (i+1) p E) Q->∃m,m<f+1/\P m s':=by
     intro s' M l N p E I' x' c' g' l' k' p';refine⟨f,eN f,i+1,M,l,N,p,E,I'.unpinned,T.keep _ _ _ pH λb y o e=>(I'.pin (b,o) (aw _ (aw _ (HM y e)))).1,λb y=>?_,x',c',g',l',k',p'⟩;obtain⟨o,e,d⟩:=T.obj _ _ pH b y;exact(I'.pin (b,o) (aw _ (aw _ (HM y e)))).2.1
    cases rQ:uw c.ifs rM U with
    |exc c' p=>rw[rQ] at x;exact x.elim
    |bad=>rw[rQ] at x;exact x.elim
    | ok b O3=>
     rw[rQ] at x;have q3:yH X C A XV a h H μ (p9 (c::cs)) ((if b=qb then uz cs em rM O3 R else .ok R O3).bnd λE p=>qy src (ui c cs em σ) f (i+1) p E) Q:=x;refine aa (Rj hx hf _ s4 V H4 L rM U _ I4 FZ c3 ?_);rw[rQ];intro b' H5 yW x5 c5 eb s5 I5;subst eb;have g5:=co.keep g3 nA x5;have LD:=x13.trans x5.ea;cases b with
     | false=>
      exact ao ⟨rfl,F I5 LD c5 g5 l4 Mb q3⟩
     | true=>
      refine aa (y _ s5 V H5 yW rM O3 R _ _ (hZ _ _ _ _ _ _ z0 Mb LD) ⟨I5,FZ.ext x5,c5,g5⟩ ?_);cases pQ:uz cs em rM O3 R with
      |exc c' p=>rw[pQ] at q3;exact q3.elim
      |bad=>rw[pQ] at q3;exact q3.elim
      | ok acc6 O6=>
       rw[pQ] at q3;intro s6 VJ H6 Gc I6 x6 c6 g6 l6 k6;refine ao ⟨rfl,F I6 (LD.trans x6) c6 g6 (l6.trans l4) (λj Y=>?_) q3⟩;rw[k6 j λz=>Y (aw _ z)];exact Mb j Y
end
end
section
variable{X:Cx}{Z:St->Hp->List af->Prop}{C:vA}{A:af}{XV:List af}{gens:List bJ}{scope:bS}{pos:Pos}{em:Em}
def RF(a:Bd C)(b:gens[k]?=KF ⟨tg,iter,ifs,0⟩)(T:xt X.prog X.w X.K tg J fp it tn)(i:Nat)(c:tn i s.heap)
  (h:codeAny (av X.prog X.w) X.A (.compLoop (C.ex gens scope pos) k (.ref it) KB env) P s):
  codeAny (av X.prog X.w) X.A (.compStart (C.ex gens scope pos) k (.ref it) KB env) P s:=by
 refine jY ?_;rw[a.u2,a.d2];refine wpAny_notedAt ?_;unfold compStart;have d:clausesOf (C.ex gens scope pos)=gens:=a.cl _ _ _;simp only[d,b,Option.elim,bne_self_eq_false,dR,if_false];refine aa (wpAny_askSetting (wpAny_ite ?_));split
 ·exact ao (eU (a.q1 _ _ _ _ _ _ _) h)
 ·refine aa (dW ?_);exact aa (fg (aa (T.self _ i s _ _ c (ao (eU (a.q1 _ _ _ _ _ _ _) h)))))
def QA(w:Bd C)(y:X.xe=λ_ _=>False)(V:X.calm=qb){sl:l_}(M:∀(D F:St)d b o p,Z D d b->(∀j,j∉sl->F[j]?=D[j]?)->Ea A d b o p->Z F o p)(W:∀k,gens[k]?=KM->zq X Z C A XV (C.ex gens scope pos) gens em k []):∀{i:List bJ}{l:List Cl},oo X i l->(∀j∈p9 l,j∈sl)->∀k,gens.drop k=i->zq X Z C A XV (C.ex gens scope pos) gens em k l
 | _,_,.nil,_,k,hd=>W k (by
   have:=congrArg kg hd;simp at this;exact ba.mpr 'o')
 | ⟨tg,iter,ifs,_⟩::gs,c::cs,.cons hi hs hg hf r,IF,k,hd=>by
  have N:gens[k]?=KF ⟨tg,iter,ifs,0⟩:=by
   have:(gens.drop k)[0]?=KF ⟨tg,iter,ifs,0⟩:=by rw[hd];rfl
   simpa using this
  have Y:gens.drop (k+1)=gs:=by
   have:=congrArg (List.drop 1) hd;simpa [ez,iQ] using this
  have hb:=QA w y V M W r (λj m=>IF j (aw _ m)) (k+1) Y;have hn:gens[k+1]?=KM \/ ∃Bt sV u_,gens[k+1]?=KF ⟨Bt,sV,u_,0⟩:=by
   have e:gens[k+1]?=gs[0]?:=by rw[<- Y];simp
   cases r with
   |nil=>exact .inl (by rw[e];rfl)
   |cons _ _ _ _ _=>exact .inr ⟨_,_,_,by rw[e];rfl⟩
  intro a s P H G u O n Q E z B q;unfold A7;rw[N];simp only[bne_self_eq_false,dR,if_false];cases g:c.it u O with
  |exc R O'=>unfold uz at q;rw[g] at q;exact q.elim
  |bad=>unfold uz at q;rw[g] at q;exact q.elim
  | ok src O1=>
   have t:yH X C A XV a P H G (p9 (c::cs)) (qy src (ui c cs em u) (src.size O1) 0 O1 n) Q:=by
    have:=q;unfold uz at this;rw[g] at this;exact this
   refine aa (Aq y (hi.out a s P H (λJ d=>∃b,Ext H G d b/\nV X.K d (A::XV) b O1/\n8 X.K J src d (A::XV) b) B.inv ⟨A::XV,G,u,O,B.env,B.cells,by rw[g];exact λJ d b x c S=>⟨b,x,c,S⟩⟩) λv s1 h1=>?_);refine aa (fg ?_);refine aa (mD (hs v) ?_);refine aa (bI (Aq y h1 λFb s2 h2=>?_));obtain⟨it,fp,tn,J,o,e,I2,T,pO,f2,p,I,c2,S⟩:=h2;subst e;refine aa (wpAny_runOwn (h:=KM) ?_);show codeAny _ X.A _ _ _;have nA:A∉G:=λm=>B.cells.nh A m 'd';refine RF w N T 0 pO ?_;refine eC (QK w (A:=A) (XV:=XV) (em:=em) (c:=c) (cs:=cs) y V N hg hf (λD F d b o p z1 k1 x1=>M D F d b o p z1 (λj hj=>k1 j λm=>hj (IF j m)) x1) hb hn T a s2 P o p u O1 n (src.size O1) (λL=>Q L) pO f2 S (M _ _ _ _ _ _ z (λ_ _=>rfl) I.ea) ⟨I2,B.env.ext I,c2,w.keep B.grown nA I⟩ ?_) λr L hr=>?_
   ·cases U:qy src (ui c cs em u) (src.size O1) 0 O1 n with
    |exc R O'=>rw[U] at t;exact t.elim
    |bad=>rw[U] at t;exact t.elim
    | ok pU O'=>
     rw[U] at t;exact λL ph H' c_ I' x' R g' l' k'=>t L ph H' c_ I' (I.ea.trans x') R g' l' k'
   ·obtain⟨f,rfl,hq⟩:=hr;exact ao hq
end
noncomputable def ql(X:Cx)(N':List au)(scope:bS)(cells:List (au×af))(C:af)(s:ag)(H:Hp)(fp:List af):Cx:=
 { X with
  N:=N',s₀:=s,H₀:=H
  env:={ scope:=relabel scope X.env,locals:=C,globals:=X.env.globals,cells:=cells,qual:=X.env.qual,func:=KM,code:=X.env.code,frame:=X.env.frame,builtins:=X.env.builtins }
  outer:=X.stack,ex:=fp,fn:=λx=>scope.names.lookup x==KF .cell,pn:=[],xe:=λ_ _=>False }
structure xJ(sc scope:bS)(N':List au)(sl:l_):Prop where
 kind:scope.kind=.function
 nd:(scope.names.map (·.1)).Nodup
 frees:∀y∈scope.names,y.2=.free->sc.names.lookup y.1=KF .cell\/sc.names.lookup y.1=KF .free
 own:∀(i:Nat)x,N'[i]?=KF x->(x,NameKind.local)∈scope.names\/(x,dE)∈scope.names->i∈sl
theorem xZ{β:Type}:∀{l:List (au×β)}{x:au}{b:β},(l.map (·.1)).Nodup->(x,b)∈l->l.lookup x=KF b
 |[],_,_,_,h=>by cases h
 | (y,c)::r,x,b,nd,h=>by
  obtain⟨a,d⟩:=bq.mp nd;rcases aq.mp h with e|h
  ·cases e;simp[eQ]
  ·have f:x≠y:=λe=>a (ay.mpr ⟨(x,b),h,e⟩);rw[eQ];have:(x==y)=qj:=⇑f
   rw[this];exact xZ d h
theorem Lz(env:Env)(x:au):∀(names:List (au×dj)),(names.map λ(n,k)=>if (k==dg&&env.scope.kind == .function&&env.kindOf n==KF .cell) then (n,dE) else (n,k)).lookup x =
  (names.lookup x).map λk=>if (k==dg&&env.scope.kind == .function&&env.kindOf x==KF .cell) then dE else k
 |[]=>rfl
 | (n,k)::r=>by
  show List.lookup x ((if (k==dg&&env.scope.kind == .function&&env.kindOf n==KF .cell)=qb then (n,dE) else (n,k))::_)=_;cases a:x==n with
  | true=>
   have e:x=n:=⇑a
   subst e;simp;split
   ·rename_i h;simp[eQ,h]
   ·rename_i h;simp[eQ,h]
  | false=>
   have b:=Lz env x r;simp only[eQ,a];rw[<- b];split<;>simp only[eQ,a]
def TN(h:rG (relabel scope env) x):(x,NameKind.local)∈scope.names\/(x,dE)∈scope.names\/(x,dg)∈scope.names:=by
 unfold rG relabel at h;simp only[Lz] at h;cases e:scope.names.lookup x with
 |none=>rw[e] at h;simp at h
 | some k=>
  have m:=bj e;cases k with
  | «local»=>exact .inl m
  |cell=>exact .inr (.inl m)
  |free=>exact .inr (.inr m)
  |_=>rw[e] at h;simp at h
noncomputable def rh(cells:List (au×af)):List (au×dj)->List (au×af)->List (au×af)
 |[],KB=>KB
 |(n,k)::r,KB=>if k == .free then rh cells r ((n,(cells.lookup n).getD 0)::KB) else rh cells r KB
def Lh(h:∀y∈scope.names,y.2=.free->∃c,env.cells.lookup y.1=KF c):closureFor scope env=pure (rh env.cells scope.names []):=by
 have f:∀(b:List (au×dj))(d:List (au×af)),(∀y∈b,y.2=.free->∃c,env.cells.lookup y.1=KF c)->
   (forIn b d λ(x:au×dj)(e:List (au×af))=>(if x.2 == .free then (do let a <- cellOf env x.1;pure (fL ((x.1,a)::e))) else pure (fL e):Sem _))=pure (rh env.cells b d):=by
  intro b
  induction b with
  |nil=>intro d _;rfl
  | cons y r ih=>
   intro d g;obtain⟨n,k⟩:=y;rw[fM];unfold rh;by_cases i:(k==dg)=qb
   ·obtain⟨c,l⟩:=g (n,k) am ⇑i;have o:cellOf env n=pure c:=by unfold cellOf;rw[l]
    simp only[i,if_true,o,pure_bind,l,Option.getD_some];exact ih _ λy j=>g y (ak _ j)
   ·simp only[i,if_false,pure_bind,dR];exact ih _ λy j=>g y (ak _ j)
 have:=f scope.names [] h;refine Eq.trans ?_ (congrArg (λm=>m >>= λe=>pure e) this);congr 1
theorem Ez:∀(names:List (au×dj))(KB:List (au×af)),(x,c)∈rh cells names KB->(x,c)∈KB\/((x,dg)∈names/\c=(cells.lookup x).getD 0)
 |[],KB,h=>.inl h
 | (n,k)::r,KB,h=>by
  unfold rh at h;by_cases a:(k==dg)=qb
  ·rw[qL a] at h;rcases Ez r _ h with m|⟨m,e⟩
   ·rcases aq.mp m with m|m
    ·cases m;have:k=.free:=⇑a
     subst this;exact .inr ⟨am,rfl⟩
    ·exact .inl m
   ·exact .inr ⟨ak _ m,e⟩
  ·rw[q0 a] at h;rcases Ez r _ h with m|⟨m,e⟩
   ·exact .inl m
   ·exact .inr ⟨ak _ m,e⟩
theorem K_:∀(names:List (au×dj))(KB:List (au×af)),p∈KB->p∈rh cells names KB
 |[],KB,h=>h
 | (n,k)::r,KB,h=>by
  unfold rh;split
  ·exact K_ r _ (ak _ h)
  ·exact K_ r _ h
theorem Es:∀(names:List (au×dj))(KB:List (au×af)),(x,dg)∈names->(x,(cells.lookup x).getD 0)∈rh cells names KB
 | (n,k)::r,KB,h=>by
  unfold rh;rcases aq.mp h with e|h
  ·cases e;exact K_ r _ am
  ·split
   ·exact Es r _ h
   ·exact Es r _ h
theorem JR:∀(names:List (au×dj))(n:Nat)(KB:List (au×af)),(x,c)∈b9 n names KB->(x,c)∈KB\/((x,dE)∈names/\n<=c)
 |[],n,KB,h=>.inl h
 | (y,k)::r,n,KB,h=>by
  unfold b9 at h;by_cases a:(k==dE)=qb
  ·rw[qL a] at h;rcases JR r _ _ h with m|⟨m,e⟩
   ·rcases aq.mp m with m|m
    ·cases m;have:k=.cell:=⇑a
     subst this;exact .inr ⟨am,aE _⟩
    ·exact .inl m
   ·exact .inr ⟨ak _ m,Nat.le_of_succ_le e⟩
  ·rw[q0 a] at h;rcases JR r _ _ h with m|⟨m,e⟩
   ·exact .inl m
   ·exact .inr ⟨ak _ m,e⟩
theorem JS:∀(names:List (au×dj))(n:Nat)(KB:List (au×af)),p∈KB->p∈b9 n names KB
 |[],_,_,h=>h
 | (y,k)::r,n,KB,h=>by
  unfold b9;split
  ·exact JS r _ _ (ak _ h)
  ·exact JS r _ _ h
theorem KS:∀(names:List (au×dj))(n:Nat)(KB:List (au×af)),(KB.Pairwise λx y=>x.2≠y.2)->(∀p∈KB,p.2<n)->(b9 n names KB).Pairwise λx y=>x.2≠y.2
 |[],_,_,h,_=>h
 | (y,k)::r,n,KB,h,hl=>by
  unfold b9;split
  ·refine KS r (n+1) _ (bb.mpr ⟨λp hp=>?_,h⟩) λp hp=>?_
   ·exact λe=>absurd (hl p hp) (by show ¬ p.2<n;rw[<- e];exact bU _)
   ·rcases aq.mp hp with rfl|hp
    ·exact eN _
    ·exact jz (hl p hp)
  ·exact KS r n KB h hl
theorem KA:∀(names:List (au×dj))(n:Nat)(KB:List (au×af)),((names.map (·.1)).Nodup)->(KB.map (·.1)).Nodup->(∀p∈KB,∀k,(p.1,k)∈names->k≠dE)->((b9 n names KB).map (·.1)).Nodup
 |[],_,_,_,h,_=>h
 | (y,k)::r,n,KB,nd,h,hl=>by
  obtain⟨f,d⟩:=bq.mp nd;unfold b9;by_cases c:(k==dE)=qb
  ·rw[qL c];have g:k=.cell:=⇑c
   refine KA r (n+1) _ d (bq.mpr ⟨λm=>?_,h⟩) λp hp a b=>?_
   ·obtain⟨p,hp,e⟩:=ay.mp m;exact hl p hp k (by rw[e];exact am) g
   ·rcases aq.mp hp with rfl|hp
    ·exact absurd (ay.mpr ⟨(y,a),b,rfl⟩) f
    ·exact hl p hp a (ak _ b)
  ·rw[q0 c];exact KA r n KB d h λp hp a b=>hl p hp a (ak _ b)
theorem EC:∀(names:List (au×dj))(KB:List (au×af)),((names.map (·.1)).Nodup)->(KB.map (·.1)).Nodup->(∀p∈KB,p.1∉names.map (·.1))->((rh cells names KB).map (·.1)).Nodup
 |[],_,_,h,_=>h
 | (y,k)::r,KB,nd,h,hl=>by
  obtain⟨b,a⟩:=bq.mp nd;unfold rh;split
  ·refine EC r _ a (bq.mpr ⟨λm=>?_,h⟩) λp hp=>?_
   ·obtain⟨p,hp,e⟩:=ay.mp m;exact hl p hp (by rw[e];simp)
   ·rcases aq.mp hp with rfl|hp
    ·exact b
    ·exact λm=>hl p hp (ak _ m)
  ·exact EC r KB a h λp hp m=>hl p hp (ak _ m)
theorem Ko:∀(names:List (au×dj))(h:aL)(KB:List (au×af)),(x,c)∈b9 h.objs.size names KB->(x,c)∈KB\/(lS h names).IsCell c KM
 |[],_,_,m=>.inl m
 | (y,k)::r,h,KB,m=>by
  unfold b9 at m;unfold lS;by_cases a:(k==dE)=qb
  ·rw[qL a] at m ⊢;have e:h.objs.size+1=(h.push { cls:=.type "cell",data:=.cell KM }).objs.size:=(cD ..).symm;rw[e] at m;rcases Ko r _ _ m with m|m
   ·rcases aq.mp m with m|m
    ·cases m;exact .inr ⟨_,iS _ _ _ _ (aN _ rfl),rfl⟩
    ·exact .inl m
   ·exact .inr m
  ·rw[q0 a] at m ⊢;exact Ko r _ _ m
def z7C{l:List (au×af)}(d:(l.map (·.1)).Nodup)(inj:∀p∈l,∀q∈l,p.2=q.2->p.1=q.1):l.Pairwise λx y=>x.2≠y.2:=by
 induction l with
 |nil=>exact .nil
 | cons p r ih=>
  obtain⟨f,g⟩:=bq.mp d;refine bb.mpr ⟨λq c e=>f ?_,ih g λa h b i=>inj a (ak _ h) b (ak _ i)⟩;exact ay.mpr ⟨q,c,(inj p am q (ak _ c) e).symm⟩
abbrev DX:Obj:={ cls:=.type "dict",data:=.dict #[] }
section
variable{X:Cx}{Y1:List (af×Obj)}{a_:St}{H:Hp}{s:ag}
abbrev Gz(ob:Obj)(h:aL)(names:List (au×dj)):aL:=lS ((h.push ob).push DX) names
def TV(c:Obj)(h:aL)(a:List (au×dj))(b:af)(o:Obj)(e:h.get? b=KF o):(Gz c h a).get? b=KF o:=iS _ _ _ _ (aj _ (aj _ e))
def W7(a:Obj)(h:aL):((h.push a).push DX).objs.size=h.objs.size+2:=by rw[cD,cD]
def zcL{scope:bS}{ext:List au}{sl:l_}{F:List af}(I:L2.Inv X Y1 a_ H s)(C:∀b∈F,rS X Y1 H b)(P:∀b∈F,b<s.heap.objs.size)(g:xJ X.env.scope scope (X.N++ext) sl){t:Obj}{u:HO}(Z:t.isFreed=qj)(uQ:∀h:aL,h.get? s.heap.objs.size=KF t->on X.prog X.w (upd H s.heap.objs.size u) h s.heap.objs.size u):
  L2.Inv (ql X (X.N++ext) scope (b9 (s.heap.objs.size+2) scope.names (rh X.env.cells scope.names [])) (s.heap.objs.size+1) s H F) [] (qe (a_++aM ext.length KM) sl)
   (upd H s.heap.objs.size u) { s with heap:=Gz t s.heap scope.names }:=by
 have Q:∀x c,X.env.cells.lookup x=KF c->c<s.heap.objs.size:=λx c e=>by
  obtain⟨v,z⟩:=I.cell x c e;exact z.lt
 -- a free name of yO block has d_ cell around
 have R:∀x,(x,dg)∈scope.names->∃c,X.env.cells.lookup x=KF c:=λx f=>I.ok.has x (g.frees _ f rfl);have A:∀x c,(x,c)∈rh X.env.cells scope.names []->(x,dg)∈scope.names/\X.env.cells.lookup x=KF c:=λx c hm=>by
  rcases Ez _ _ hm with m|⟨m,e⟩
  ·cases m
  ·obtain⟨c',S⟩:=R x m;rw[S] at e;exact⟨m,by rw[e];exact S⟩
 have G:∀x,(x,dg)∈scope.names->∀c,X.env.cells.lookup x=KF c->(x,c)∈rh X.env.cells scope.names []:=λx f c e=>by
  have:=Es (cells:=X.env.cells) scope.names [] f;rw[e] at this;exact this
 have T:((rh X.env.cells scope.names []).map (·.1)).Nodup:=EC _ _ g.nd 'd' (by intro p l;cases l);have J:((b9 (s.heap.objs.size+2) scope.names (rh X.env.cells scope.names [])).map (·.1)).Nodup:=KA _ _ _ g.nd T λp l k hk e=>by
  subst e;have j:=(A p.1 p.2 l).1;have:=xZ g.nd j;rw[xZ g.nd hk] at this;cases this
 have r:(b9 (s.heap.objs.size+2) scope.names (rh X.env.cells scope.names [])).Pairwise λx y=>x.2≠y.2:=by
  refine KS _ _ _ (z7C T λp l q hq e=>?_) λp l=>aY (Q _ _ (A p.1 p.2 l).2) (gi _ _);refine I.ok.inj p.1 q.1 p.2 (A p.1 p.2 l).2 ?_;rw[e];exact(A q.1 q.2 hq).2
 have K:∀x c,(b9 (s.heap.objs.size+2) scope.names (rh X.env.cells scope.names [])).lookup x=KF c->((x,dg)∈scope.names/\X.env.cells.lookup x=KF c)\/((x,dE)∈scope.names/\s.heap.objs.size+2<=c):=λx c e=>by
  rcases JR _ _ _ (bj e) with m|m
  ·exact .inl (A x c m)
  ·exact .inr m
 have d:∀a,s.heap.objs.size<=a->H a=KM:=λa ha=>I.hok.fresh ha;have D:=TV t s.heap scope.names;have U:∀x,(x,dg)∈scope.names->∀c,X.env.cells.lookup x=KF c->(b9 (s.heap.objs.size+2) scope.names (rh X.env.cells scope.names [])).lookup x=KF c:=λx f c e=>
  xZ J (JS _ _ _ (G x f c e))
 refine⟨⟨I.ok.mod,g.kind,I.ok.glob,I.ok.blt,eB _,λx y c j L=>name_of_addr r (bj j) (bj L),λx f=>?_,λx c f h=>?_,I.ok.hd,I.ok.frames,.inl rfl,λb n=>⟨?_,λx c e=>?_⟩,I.bs,?_,λb o e n=>?_,λb n z=>?_,I.stack,I.stkFree⟩,
  rfl,I.bare,Un.laid D (aE _) (d _ (aE _)),?_,λx c e=>?_,?_,λx c e=>?_,λp l=>absurd (show p∈([]:List (af×Obj)) from l) 'd',I.hok.laid D (aE _) ?_,?_,I.tk⟩
 ·-- has
  have f:rG (relabel scope X.env) x:=.inr f;rcases TN f with m|m|m
  ·exfalso;have e:=xZ g.nd m;have V:(relabel scope X.env).names.lookup x=KF .local:=lookup_relabel_local e;rcases (show(relabel scope X.env).names.lookup x=KF .cell\/(relabel scope X.env).names.lookup x=KF .free by rename_i M;exact M) with q|q
   ·rw[V] at q;cases q
   ·rw[V] at q;cases q
  ·exact gN.mp (fP scope.names _ _ (.inl (xZ g.nd m)))
  ·obtain⟨c,O⟩:=R x m;exact⟨c,U x m c O⟩
 ·-- cab
  have f:(scope.names.lookup x==KF .cell)=qb:=f;rcases K x c h with⟨m,_⟩|⟨_,m⟩
  ·rw[xZ g.nd m] at f;cases f
  ·exact aF (gi _ _) m
 ·exact bu (jz (P b n))
 ·rcases K x c e with⟨_,m⟩|⟨_,m⟩
  ·exact(C b n).2.2.2.2.1 x c m
  ·have M:=P b n;exact λz=>by
    rw[z] at m;exact absurd (aY M (aF (gi _ 2) m)) (bU _)
 ·exact aF I.ok.bsz I.sz
 ·rcases (C b n).2.2.2.1 with z|z
  ·exact I.ok.noex b o e z
  ·exact absurd (aY (aI e) (aF I.ok.bsz z)) (bU _)
 ·rcases aq.mp (I.stkSub b z) with q|q
  ·exact(C b n).2.1 q
  ·exact(C b n).2.2.1 q
 ·-- loc
  refine⟨λ_=>KM,?_,λi x v j L h3=>?_⟩
  ·have z:=(Heap.Ns.new (s.heap.push t) (.type "dict")).keeps (iS scope.names _);rw[cD] at z;exact z
  ·obtain⟨B,W⟩:=G9 _ _ _ _ L;have E:i<a_.length:=by
    by_cases E:i<a_.length
    ·exact E
    ·rw[br 'o',eJ] at B;split at B<;>cases B
   rw[aG E] at B;have zK:X.N[i]?=KF x:=by
    have j:(X.N++ext)[i]?=KF x:=j;rw[aG (by rw[<- I.len];exact E)] at j;exact j
   rcases TN h3 with m|m|m
   ·exact absurd (g.own i x j (.inl m)) W
   ·exact absurd (g.own i x j (.inr m)) W
   ·obtain⟨m0,hn,hl⟩:=I.loc;have Y:=g.frees _ m rfl;obtain⟨u,ru,lk⟩:=hl i x v zK B (.inr Y);refine⟨u,ru,?_⟩;rcases lk with⟨q,_⟩|⟨q,c,O,z⟩
    ·exfalso;have q:X.env.scope.names.lookup x=KF .local:=q;rcases Y with k|k<;>(rw[q] at k;cases k)
    ·refine .inr ⟨?_,c,U x m c O,z.keeps D⟩;have e:=xZ g.nd m;show(relabel scope X.env).names.lookup x=KF .cell\/(relabel scope X.env).names.lookup x=KF .free;unfold relabel;simp only[Lz,e,Option.map_some];split
     ·exact .inl rfl
     ·exact .inr rfl
 ·-- cell
  rcases Ko scope.names ((s.heap.push t).push DX) (rh X.env.cells scope.names []) (by rw[W7];exact bj e) with m|m
  ·obtain⟨v,z⟩:=I.cell x c (A x c m).2;exact⟨v,z.keeps D⟩
  ·exact⟨KM,m⟩
 ·show upd H s.heap.objs.size u (s.heap.objs.size+1)=KM;rw[pj (dQ (eN _))];exact d _ (eB _)
 ·rcases K x c e with⟨_,m⟩|⟨_,m⟩
  ·rw[pj (bu (Q x c m))];exact I.freeC x c m
  ·have ne:c≠s.heap.objs.size:=λz=>by
    rw[z] at m;exact absurd m 'o'
   rw[pj ne];exact d c (aF (gi _ 2) m)
 ·exact uQ _ (iS _ _ _ _ (aj _ (aN _ Z)))
 ·show _=(X.N++ext).length;rw[D6,aB,kA,aB,I.len]
end
def yP{α:Type}:R α->R α
 |.ok a O=>.ok a O
 |_=>.bad
def Bj(ext:Nat)(it0:DI)(g:Tg)(ts:List DT)(cs:List Cl)(em:Em):Sg->Ow->R (List D):=λσ O=>(it0 σ O).bnd λsrc O1=>
 yP (qy src (ui ⟨it0,g,ts⟩ cs em (qe (σ++aM ext KM) (p9 (⟨it0,g,ts⟩::cs)))) (src.size O1) 0 O1 [])
def Bi(ext:Nat)(it0:DI)(g:Tg)(ts:List DT)(cs:List Cl)(te:DE):Sg->Ow->R (List D):=λσ O=>(it0 σ O).bnd λsrc O1=>
 yP (qy src (Ad ⟨it0,g,ts⟩ cs te (qe (σ++aM ext KM) (p9 (⟨it0,g,ts⟩::cs)))) (src.size O1) 0 O1 [])
def Ld(ext:Nat)(it0:DI)(g:Tg)(ts:List DT)(cs:List Cl)(te:DE):Bj ext it0 g ts cs (zW te)=Bi ext it0 g ts cs te:=by funext σ O;unfold Bj Bi;rw[zfM]
def ZB(a_:St)(n:Nat)(sl:l_)(A:af)(H0:Hp):St->Hp->List af->Prop:=λσ H μ=>(∀j,j∉sl->σ[j]?=(a_++aM n KM)[j]?)/\H0 A=KM/\∃Gd o,Ea A (upd H0 A o) Gd H μ/\∀a∈Gd,∃vs,H0 a=KF (.lst vs)
section
variable{C:vA}{em:Em}
variable{X:Cx}{M:gE}{A:aU}{E:ae->ag->Prop}{s:ag}
def z7g
  (h:Q { scope,locals:=s.heap.objs.size,globals,cells:=b9 (s.heap.objs.size+1) scope.names cl,qual,func:=KM,code:=env.code,frame:=env.frame,builtins:=env.builtins } { s with heap:=lS (s.heap.push DX) scope.names }):
  ar M A (newFunctionEnv scope globals cl [] qual KM .none (KF env)) Q E s:=by simp only[newFunctionEnv,lR,if_true];refine aa (wpAny_alloc ?_);refine aa (wpAny_layCells _ (λc a cells=>by cases b:a==dE<;>simp[b]) _ _ _ _ ?_);rw[show({ s with heap:=s.heap.push DX }:ag).heap.objs.size=s.heap.objs.size+1 from cD ..];simp only[kF,pure_bind];exact ao h
structure PR(X:Cx)(C:vA)(Y1:List (af×Obj))(a_:St)(H:Hp)(XV μ:List af)(L Cn:af)(KB:List D)(O:Ow)(s':ag):Prop where
 inv:∃H' c_,L2.Inv X Y1 a_ H' s'/\Ext H μ H' c_/\nV X.K H' (L::XV) c_ O/\H L=KM/\H' Cn=KM/\C.G X.K X.prog X.w L XV H' c_ KB
 ns:∃m,s'.heap.Ns Cn m
 loc:Cn≠X.env.locals
 young:X.s₀.heap.objs.size<=Cn
 cel:∀x c,X.env.cells.lookup x=KF c->c≠Cn
 pns:∀p∈X.pn++Y1,p.1≠Cn
def Inv.bare{a:List (af×Obj)}{i:St}{H:Hp}{s':ag}{C:af}{h':aL}(I:L2.Inv X a i H s')(j:dP C s'.heap h')(k:H C=KM)(f:C≠X.env.locals)(d:X.s₀.heap.objs.size<=C)(g:∀x c,X.env.cells.lookup x=KF c->c≠C)
  (h:∀p∈X.pn++a,p.1≠C):L2.Inv X a i H { s' with heap:=h' }:=I.turned (t':=s'.toks) (λb o l e=>(j.2 b l).trans e) k f (.inr d) g h
def za3(W:Bd C)
  {it:af} {B:List af} {tn:Nat->aL->Prop} {J:It} {RR:ae->af->Result->ag->Prop}
  (o8:X.calm=qb) (Y:xJ X.env.scope scope (X.N++ext) (p9 (⟨it0,g,ts⟩::cs)))
  (sZ:∀cells Cn,PG (ql X (X.N++ext) scope cells Cn s H B) tg (g.rd X.K)/\cj (λe t=>qQ (ql X (X.N++ext) scope cells Cn s H B) p_ e t) ifs ts/\oo (ql X (X.N++ext) scope cells Cn s H B) gs cs/\∀A XV k,(⟨tg,iter,ifs,0⟩::gs:List bJ)[k]?=KM->zq (ql X (X.N++ext) scope cells Cn s H B) (ZB a_ ext.length (p9 (⟨it0,g,ts⟩::cs)) A H) C A XV (C.ex (⟨tg,iter,ifs,0⟩::gs) scope pos) (⟨tg,iter,ifs,0⟩::gs) em k [])
  (I:L2.Inv X Y1 a_ H s) (e1:nX X.K H XV μ σ a_) (Q:nV X.K H XV μ O) (T:xt X.prog X.w X.K tg J B it tn) (st:tn 0 s.heap) (yj:∀b∈B,rS X Y1 H b) (sa:n8 X.K J src H XV μ)
  (hw:qy src (ui ⟨it0,g,ts⟩ cs em (qe (σ++aM ext.length KM) (p9 (⟨it0,g,ts⟩::cs)))) (src.size O) 0 O []=.ok KB O2)
  (hRR:∀f s',PR X C Y1 a_ H XV μ s.heap.objs.size (s.heap.objs.size+1) KB O2 s'->RR (.ref s.heap.objs.size) (s.heap.objs.size+1) (.ok f) s'):
  ar (av X.prog X.w) X.A C.new (λac xf=>ar (av X.prog X.w) X.A (newFunctionEnv scope X.env.globals (rh X.env.cells scope.names []) [] X.env.qual KM .none (KF X.env)) (λF4 LK=>
   codeAny (av X.prog X.w) X.A (.compStart (C.ex (⟨tg,iter,ifs,0⟩::gs) scope pos) 0 (.ref it) ac { F4 with scope:=relabel scope X.env }) (RR ac F4.locals) LK) E xf) E s:=by
 refine W.new λF uR uQ=>?_;refine z7g ?_;have pW:(s.heap.push F).objs.size=s.heap.objs.size+1:=cD ..;have qM:∀b∈B,b<s.heap.objs.size:=λb Y=>by
  obtain⟨o,ho,_⟩:=T.obj 0 _ st b Y;exact aI ho
 have IB:=zcL (u:=C.ho X.prog X.w s.heap.objs.size) I yj qM Y uR (λh=>uQ H h _ I.big);have D:H s.heap.objs.size=KM:=I.hok.fresh (aE _);have qZ:∀b∈B,b≠s.heap.objs.size:=λb Y=>bu (qM b Y);obtain⟨b1,b2,b3,b4⟩:=sZ (b9 (s.heap.objs.size+2) scope.names (rh X.env.cells scope.names [])) (s.heap.objs.size+1);generalize l:ql X (X.N++ext) scope (b9 (s.heap.objs.size+2) scope.names (rh X.env.cells scope.names [])) (s.heap.objs.size+1) s H B=y at IB b1 b2 b3 b4;have Z:y.prog=X.prog:=by rw[<- l];rfl
 have eW:y.w=X.w:=by rw[<- l];rfl
 have G:y.K=X.K:=by rw[<- l];rfl
 have eA:y.A=X.A:=by rw[<- l];rfl
 have ex:y.xe=λ_ _=>False:=by rw[<- l];rfl
 have ec:y.calm=qb:=by rw[<- l];exact o8
 have B7:y.env={ scope:=relabel scope X.env,locals:=s.heap.objs.size+1,globals:=X.env.globals,cells:=b9 (s.heap.objs.size+2) scope.names (rh X.env.cells scope.names []),qual:=X.env.qual,func:=KM,code:=X.env.code,frame:=X.env.frame,builtins:=X.env.builtins }:=by rw[<- l];rfl
 have F0:({ ({ scope,locals:=(s.heap.push F).objs.size,globals:=X.env.globals,cells:=b9 ((s.heap.push F).objs.size+1) scope.names (rh X.env.cells scope.names []),qual:=X.env.qual,func:=KM,code:=X.env.code,frame:=X.env.frame,builtins:=X.env.builtins }:Env) with scope:=relabel scope X.env }:Env)=y.env:=by
  rw[B7,pW]
 show codeAny _ _ (.compStart _ 0 _ _ ({ ({ scope,locals:=(s.heap.push F).objs.size,globals:=X.env.globals,cells:=b9 ((s.heap.push F).objs.size+1) scope.names (rh X.env.cells scope.names []),qual:=X.env.qual,func:=KM,code:=X.env.code,frame:=X.env.frame,builtins:=X.env.builtins }:Env) with scope:=relabel scope X.env }:Env)) (RR _ (s.heap.push F).objs.size) _;rw[F0,pW];have LZ:Mv H XV μ (upd H s.heap.objs.size (C.ho X.prog X.w s.heap.objs.size)) (s.heap.objs.size::XV) μ:=(Mv.hide D).trans ⟨⟨[],by simp⟩,λb o h _ n2 _=>by rw[pj (λz=>n2 (by simp[z]))];exact h,λ_ m=>.inl m,λ_ m=>.inl m,xD,λ_ t=>t.upd (.inl D)⟩;have c2:nV X.K (upd H s.heap.objs.size (C.ho X.prog X.w s.heap.objs.size)) (s.heap.objs.size::XV) μ O:=by
  refine⟨Q.len,Q.nd,λa m z=>?_,λa m=>?_,λk a e=>?_⟩
  ·rcases aq.mp z with rfl|z
   ·exact(Q.not_in D).2 m
   ·exact Q.nh a m z
  ·rcases aq.mp m with rfl|m
   ·rw[qS];simp
   ·exact xD a (Q.ht a m)
  ·obtain⟨ds,vs,S,U,h3⟩:=Q.at_ k a e;exact⟨ds,vs,S,by rw[pj (rD U D)];exact U,h3.mv LZ⟩
 have e2:nX X.K (upd H s.heap.objs.size (C.ho X.prog X.w s.heap.objs.size)) (s.heap.objs.size::XV) μ (qe (σ++aM ext.length KM) (p9 (⟨it0,g,ts⟩::cs))) (qe (a_++aM ext.length KM) (p9 (⟨it0,g,ts⟩::cs))):=by
  refine⟨by rw[D6,D6,aB,aB,e1.len];simp,λi d h=>?_⟩;obtain⟨g1,g2⟩:=G9 _ _ _ _ h;have hi:i<σ.length:=by
   by_cases hi:i<σ.length
   ·exact hi
   ·rw[br 'o',eJ] at g1;split at g1<;>cases g1
  rw[aG hi] at g1;obtain⟨v,S,U⟩:=e1.at_ i d g1;exact⟨v,by rw[Ka _ _ _ g2,aG (by rw[<- e1.len];exact hi)];exact S,U.mv LZ⟩
 have MN:∀b∈B,rS y [] (upd H s.heap.objs.size (C.ho X.prog X.w s.heap.objs.size)) b:=λb L=>by
  obtain⟨f0,f1,f2,f3,f4,f5⟩:=yj b L;have S:=IB.ok.exf;refine⟨by rw[pj (qZ b L)];exact f0,?_,?_,.inl ?_,?_,?_⟩
  ·exact(S b (by rw[<- l];exact L)).1
  ·rw[<- l];exact λz=>IB.ok.exfs b (by rw[<- l];exact L) (by rw[<- l];exact z)
  ·rw[<- l];exact L
  ·exact(S b (by rw[<- l];exact L)).2
  ·rw[<- l];exact λp hp=>absurd (show p∈([]:List (af×Obj)) from hp) 'd'
 have g_:tn 0 (Gz F s.heap scope.names):=T.keep _ _ _ st λb _ o e=>TV _ _ _ _ _ e;have T':xt y.prog y.w y.K tg J B it tn:=by rw[Z,eW,G];exact T
 have Vg:∀(qf rR:St)H1 e_ H2 pe,ZB a_ ext.length (p9 (⟨it0,g,ts⟩::cs)) s.heap.objs.size H qf H1 e_->(∀j,j∉p9 (⟨it0,g,ts⟩::cs)->rR[j]?=qf[j]?)->Ea s.heap.objs.size H1 e_ H2 pe->ZB a_ ext.length (p9 (⟨it0,g,ts⟩::cs)) s.heap.objs.size H rR H2 pe:=
  λqf rR H1 e_ H2 pe ⟨z1,z2,Gd,o,z3,z4⟩ k1 x1=>⟨λj hj=>(k1 j hj).trans (z1 j hj),z2,Gd,o,z3.trans x1,z4⟩
 have key:=QK (X:=y) W (A:=s.heap.objs.size) (XV:=XV) (gens:=⟨tg,iter,ifs,0⟩::gs) (scope:=scope) (pos:=pos) (em:=em) (k:=0) (c:=⟨it0,g,ts⟩) (cs:=cs) ex ec rfl (by rw[G];exact b1) b2 Vg (QA W ex ec (sl:=p9 (⟨it0,g,ts⟩::cs)) Vg (b4 _ _) b3 (λj m=>aw _ m) 1 rfl) (by
   cases b3 with
   |nil=>exact .inl rfl
   |cons _ _ _ _ _=>exact .inr ⟨_,_,_,rfl⟩) T' [] { s with heap:=Gz F s.heap scope.names } (qe (a_++aM ext.length KM) (p9 (⟨it0,g,ts⟩::cs))) (upd H s.heap.objs.size (C.ho X.prog X.w s.heap.objs.size)) μ (qe (σ++aM ext.length KM) (p9 (⟨it0,g,ts⟩::cs))) O [] (src.size O)
   (λs'=>PR X C Y1 a_ H XV μ s.heap.objs.size (s.heap.objs.size+1) KB O2 s') g_ MN (by rw[G];exact sa.mv LZ) ⟨λj hj=>Ka _ _ _ hj,D,μ,_,.refl,λa m=>by
    obtain⟨k,e⟩:=List.getElem?_of_mem m;obtain⟨_,vs,_,U,_⟩:=Q.at_ k a e;exact⟨vs,U⟩⟩ ⟨IB,by rw[G];exact e2,by rw[G];exact c2,by rw[G,Z,eW];exact W.g0⟩ ?_
 ·have E_:=RF (X:=y) W (gens:=⟨tg,iter,ifs,0⟩::gs) (scope:=scope) (pos:=pos) (env:=y.env) rfl T' 0 g_ key;rw[Z,eW,eA] at E_;exact eC E_ λr s' ⟨f,hr,q⟩=>by subst hr;exact hRR f s' q
 ·rw[hw];intro s' ph H' c_ V x' c' g' l' k';rw[G] at c';rw[G,Z,eW] at g';have xe:Ext H μ H' c_:=⟨x'.pre,λb o h n ht=>x'.kept b o (by rw[pj (rD h D)];exact h) n (rD h D) ht,λb m=>(x'.fresh b m).imp id λz=>by
   by_cases q:b=s.heap.objs.size
   ·rw[q];exact D
   ·rw[pj q] at z;exact z,λb h=>x'.there b (xD b h),λP t=>x'.tab P (t.upd (.inl D))⟩
  have un:Un (qN X.stack) B H H' s.heap s'.heap:=by
   have:=V.base;rw[<- l] at this;exact this
  have os:s'.os=s.os:=by
   have:=V.os;rw[<- l] at this;exact this
  have hok:HOk X.prog X.w H' s'.heap:=by
   have:=V.hok;rw[Z,eW] at this;exact this
  have IX:L2.Inv X Y1 a_ H' s':=I.call' os un hok V.bare λb L=>by
   obtain⟨f0,f1,f2,f3,f4,f5⟩:=yj b L;exact⟨f3,f1,f4,f5⟩
  have R:∀b,b<s.heap.objs.size->b≠s.heap.objs.size+1:=λb h=>bu (jz h);refine⟨⟨H',c_,IX,xe,c',D,?_,g'⟩,?_,?_,?_,λx c e=>?_,λp hp=>?_⟩
  ·have:=V.free;rw[B7] at this;exact this
  ·obtain⟨m,hn,_⟩:=V.loc;rw[B7] at hn;exact⟨m,hn⟩
  ·exact(R _ I.lt).symm
  ·exact aF I.sz (eB _)
  ·obtain⟨v,z⟩:=I.cell x c e;exact R _ z.lt
  ·exact R _ (aI (I.pin p hp).1)
end
section
variable{X:Cx}{Ex:Nat->Hp->Prop}
def XY{α:Type}{r:R α}{a:α}{O:Ow}(h:yP r=.ok a O):r=.ok a O:=by
 cases r with
 |ok _ _=>exact h
 |exc _ _=>cases h
 |bad=>cases h
def ZP{α:Type}{r:R α}{c:Nat}{O:Ow}(h:yP r=.exc c O):False:=by cases r<;>cases h
def GB(C:vA)(Ex:Nat->Hp->Prop)(K:ai)(P:aD)(w:aR)(H:Hp)(XV μ:List af)(r:R (List D))(Q:af->Hp->Prop):Prop:=match r with
 |.ok KB O'=>∀L H' c_,H L=KM->Ext H μ H' c_->nV K H' (L::XV) c_ O'->C.G K P w L XV H' c_ KB->Q L H'
 |.exc c O'=>∀H' c_,Ext H μ H' c_->nV K H' XV c_ O'->Ex c H'
 |.bad=>False
def Ext.none{H H':Hp}{μ a:List af}(e:Ext H μ H' a){L:af}(h:H' L=jf):H L=jf:=by
 cases q:H L with
 |none=>rfl
 |some o=>exact absurd h (e.there L (by rw[q];simp))
def Ht{C:vA}(co:Bd C){em:Em}{r a:aO}{i:List aO}{B:List bJ}{scope:bS}{pos o9:Pos}{ext:List au}{it0:DI}{g:Tg}{ts:List DT}{cs:List Cl}{d:List (af×Obj)}{l:St}{H:Hp}{s:ag}{XV μ:List af}{σ:Sg}{O:Ow}
  {use:Option (ae->Sem Unit)} {Q:ae->ag->Prop} (o8:X.calm=qb) (hi:s_ X Ex r a it0) (F:xJ X.env.scope scope (X.N++ext) (p9 (⟨it0,g,ts⟩::cs)))
  (sZ:∀cells h s' H' o,L2.Inv X d l H' s'->(∀b∈o,rS X d H' b)->(∃P,Ext H μ H' P)->PG (ql X (X.N++ext) scope cells h s' H' o) r (g.rd X.K)/\cj (λe t=>qQ (ql X (X.N++ext) scope cells h s' H' o) p_ e t) i ts/\oo (ql X (X.N++ext) scope cells h s' H' o) B cs/\∀A XV k,(⟨r,a,i,0⟩::B:List bJ)[k]?=KM->zq (ql X (X.N++ext) scope cells h s' H' o) (ZB l ext.length (p9 (⟨it0,g,ts⟩::cs)) A H') C A XV (C.ex (⟨r,a,i,0⟩::B) scope pos) (⟨r,a,i,0⟩::B) em k [])
  (hs:∀x,bT a X.env x=pure x) (I:L2.Inv X d l H s) (R:nX X.K H XV μ σ l) (c1:nV X.K H XV μ O)
  (q:GB C Ex X.K X.prog X.w H XV μ (Bj ext.length it0 g ts cs em σ O)
   (λ(L:af)H'=>∀s' h,L2.Inv X d l H' s'->(∃m,s'.heap.Ns h m)->H' h=KM->h≠X.env.locals->X.s₀.heap.objs.size<=h->(∀x c,X.env.cells.lookup x=KF c->c≠h)->(∀p∈X.pn++d,p.1≠h)->
    compPost (av X.prog X.w) X.A X.xe use Q (.ref L) h (.ok .next) s')):
  ar (av X.prog X.w) X.A (comprehension (C.ex (⟨r,a,i,0⟩::B) scope pos) scope X.env o9 C.new qj (eval a X.env) use) Q X.xe s:=by
 have pI:∀y∈scope.names,y.2=.free->∃c,X.env.cells.lookup y.1=KF c:=λy hy hf=>by
  obtain⟨n,k⟩:=y;subst hf;exact I.ok.has n (F.frees _ hy rfl)
 refine wpAny_comprehension_free (co.cl _ _ _) hs (Lh pI) F.kind (λx hx hl=>?_) ?_
 ·obtain⟨n,k⟩:=x;subst hl;exact xZ F.nd hx
 unfold Bj at q;cases j:it0 σ O with
 |bad=>rw[j] at q;exact ah q
 | exc S O'=>
  rw[j] at q;refine o_ (hi.out d s l H (λJ D=>False) I ⟨XV,μ,σ,O,R,c1,by rw[j];exact q⟩) λv s1 U=>o_ U λFb V W=>?_;obtain⟨it,o,tn,J,H2,e,Y,T,pO,Z,z⟩:=W;exact z.elim
 | ok src O2=>
  rw[j] at q;refine o_ (hi.out d s l H (λJ D=>∃E,Ext H μ D E/\nV X.K D XV E O2/\n8 X.K J src D XV E) I ⟨XV,μ,σ,O,R,c1,by rw[j];exact λJ D E x c sa=>⟨E,x,c,sa⟩⟩) λv s1 U=>o_ U λFb V W=>?_;obtain⟨it,o,tn,J,H2,e,Y,T,pO,Z,pe,G,c2,sa⟩:=W;subst e;have p:GB C Ex X.K X.prog X.w H XV μ (yP (qy src (ui ⟨it0,g,ts⟩ cs em (qe (σ++aM ext.length KM) (p9 (⟨it0,g,ts⟩::cs)))) (src.size O2) 0 O2 [])) _:=q;cases M:yP (qy src (ui ⟨it0,g,ts⟩ cs em (qe (σ++aM ext.length KM) (p9 (⟨it0,g,ts⟩::cs)))) (src.size O2) 0 O2 []) with
  |bad=>rw[M] at p;exact ah p
  |exc S O'=>exact(ZP M).elim
  | ok KB O3=>
   rw[M] at p;refine za3 co o8 F (λcells h=>sZ cells h _ _ _ Y Z ⟨_,G⟩) Y (R.ext G) c2 T pO Z sa (XY M) λf s' u=>?_;obtain⟨H',P,I',x',S,nL,nC,gv⟩:=u.inv;have:=p (V.heap.objs.size) H' P (G.none nL) (G.trans x') S gv s' (V.heap.objs.size+1) I' u.ns nC u.loc u.young u.cel u.pns;cases use<;>exact this
def TC(c:nV K H (L::XV) μ O)(a:L∉XV)(h:H L=KF (.lst vs))(q:nW K H (L::XV) μ ds vs):Y2 K H XV μ (.lst ds) (.ref L):=by exact⟨L,vs,rfl,.inl ⟨.inl h,a,λm=>c.nh L m 'd'⟩,q.mv .unhide⟩
mutual
theorem Y2.swap:∀{d:D}{v:V},Y2 K H (L::XV) μ d v->Y2 K H XV (μ++[L]) d v
 |.non,_,h=>h
 |.bl _,_,h=>h
 |.int _,_,h=>h
 |.str _,_,h=>h
 | .lst ds,v,h=>by
  unfold Y2 at h ⊢;obtain⟨a,c,r,l,q⟩:=h;refine⟨a,c,r,l.imp (λz=>⟨z.1,λm=>z.2.1 (ak _ m),λm=>?_⟩) id,nW.swap q⟩;rcases aS.mp m with m|m
  ·exact z.2.2 m
  ·exact z.2.1 (by simp at m;simp[m])
 | .tup ds,v,h=>by
  unfold Y2 at h ⊢;obtain⟨a,c,r,l,q⟩:=h;refine⟨a,c,r,l.imp (λz=>⟨z.1,λm=>z.2.1 (ak _ m),λm=>?_⟩) id,nW.swap q⟩;rcases aS.mp m with m|m
  ·exact z.2.2 m
  ·exact z.2.1 (by simp at m;simp[m])
 | .own k,v,h=>by
  unfold Y2 at h ⊢;obtain⟨a,r,q⟩:=h;exact⟨a,r,by rw[aG (al.mp q).1];exact q⟩
 | .dct,v,h=>by
  unfold Y2 at h ⊢;obtain⟨a,r,q,b,e⟩:=h;refine⟨a,r,q,λm=>b (ak _ m),λm=>?_⟩;rcases aS.mp m with m|m
  ·exact e m
  ·exact b (by simp at m;simp[m])
 | .exn C,v,h=>by
  unfold Y2 at h ⊢;obtain⟨a,f,r,g,q,b,e⟩:=h;refine⟨a,f,r,g,q,λm=>b (ak _ m),λm=>?_⟩;rcases aS.mp m with m|m
  ·exact e m
  ·exact b (by simp at m;simp[m])
 | .tab P,v,h=>by
  unfold Y2 at h ⊢;exact h
 | .map ks ds,v,h=>by
  unfold Y2 at h ⊢;obtain⟨a,c,r,q,b,e,i,d⟩:=h;refine⟨a,c,r,q,λm=>b (ak _ m),λm=>?_,i,nW.swap d⟩;rcases aS.mp m with m|m
  ·exact e m
  ·exact b (by simp at m;simp[m])
 |.adr _,_,h=>h
theorem nW.swap:∀{ds:List D}{vs:List V},nW K H (L::XV) μ ds vs->nW K H XV (μ++[L]) ds vs
 |[],_,h=>h
 | d::ds,vs,h=>by
  unfold nW at h ⊢;obtain⟨v,r,a,b,c⟩:=h;exact⟨v,r,a,Y2.swap b,nW.swap c⟩
end
def nV.swap(c:nV K H (L::XV) μ O)(f:L∉XV)(h:H L=KF (.lst vs))(q:nW K H (L::XV) μ ds vs):nV K H XV (μ++[L]) (O++[ds]):=by
 have g:L∉μ:=λm=>c.nh L m 'd';refine⟨by simp[c.len],?_,λa m=>?_,λa m=>c.ht a (ak _ m),λk a e=>?_⟩
 ·rw[fU];refine⟨c.nd,by simp,λa i b j=>?_⟩;have:b=L:=⇑j
  subst this;rintro rfl;exact g i
 ·rcases aS.mp m with m|m
  ·exact λz=>c.nh a m (ak _ z)
  ·have:a=L:=⇑m
   subst this;exact f
 ·by_cases d:k<μ.length
  ·rw[aG d] at e;obtain⟨l,n,o,p,r⟩:=c.at_ k a e;exact⟨l,n,by rw[aG (by rw[<- c.len];exact d)];exact o,p,r.swap⟩
  ·rw[br 'o'] at e;have s:k-μ.length=0:=by
    have:=(al.mp e).1;simp at this;lia
   rw[s] at e;simp at e;subst e;refine⟨ds,vs,?_,h,q.swap⟩;have:k=O.length:=by have:=c.len;lia
   subst this;simp
def Ext.grow(e:Ext H μ H' c_)(h:H L=jf):Ext H μ H' (c_++[L]):=by
 obtain⟨a,rfl⟩:=e.pre;refine⟨⟨a++[L],by simp⟩,e.kept,λb m=>?_,e.there,e.tab⟩;rcases aS.mp m with m|m
 ·exact e.fresh b m
 ·have:b=L:=⇑m
  subst this;exact .inr h
def vU(o:Bool)(r:R (List D)):R D:=r.bnd λKB O1=>if o=qb then .ok (.own O1.length) (O1++[KB]) else .ok (.lst KB) O1
def RU(f:nV K H XV μ O)(q:qt Ex K H XV μ (vU o r) Q)(h:∀L H',Q (.ref L) H'->Q1 L H'):GB (A4 elt) Ex K P w H XV μ r Q1:=by
 cases r with
 |bad=>exact q
 |exc c' O'=>exact q
 | ok KB O'=>
  intro L H' g a x c ⟨i,b,d⟩;have e:L∉XV:=λm=>f.ht L m a;cases o with
  |false=>exact h L H' (post.ok (q) x c.unhide (TC c e b d))
  |true=>exact h L H' (post.ok (q) (x.grow a) (c.swap e b d) (Lr c.len))
def zcd(k:nV K H XV μ O)(b:nX K H XV μ σ a_)(q:n6 Ex K H XV μ ((vU o r).bnS λd O1=>.nx (σ.set i (KF d)) O1) E)(h:∀L H',E.nx (a_.set i (KF (.ref L))) H'->Q1 L H'):
  GB (A4 elt) Ex K P w H XV μ r Q1:=by
 cases r with
 |bad=>exact q
 |exc c' O'=>exact q
 | ok KB O'=>
  intro L H' e a x c ⟨l,f,g⟩;have j:L∉XV:=λm=>k.ht L m a;cases o with
  | false=>
   exact h L H' (q _ H' e x ((b.ext x).set (TC c j f g) i) c.unhide)
  | true=>
   exact h L H' (q _ H' (e++[L]) (x.grow a) ((b.ext (x.grow a)).set (Lr c.len) i) (c.swap j f g))
def Jz{d f a:aO}{b:List aO}{h:List bJ}{scope:bS}{pos:Pos}{ext:List au}{g:Tg}{ts:List DT}{cs:List Cl}{te:DE}{Z:af->Hp->St->Hp->List af->Prop}
  (i:∀cells C s H c,PG (ql X (X.N++ext) scope cells C s H c) f (g.rd X.K)/\cj (λe t=>qQ (ql X (X.N++ext) scope cells C s H c) p_ e t) b ts/\oo (ql X (X.N++ext) scope cells C s H c) h cs/\PD (ql X (X.N++ext) scope cells C s H c) p_ d te) (cells Cn s H c):
  PG (ql X (X.N++ext) scope cells Cn s H c) f (g.rd X.K)/\cj (λe t=>qQ (ql X (X.N++ext) scope cells Cn s H c) p_ e t) b ts/\oo (ql X (X.N++ext) scope cells Cn s H c) h cs/\∀A XV k,(⟨f,a,b,0⟩::h:List bJ)[k]?=KM->zq (ql X (X.N++ext) scope cells Cn s H c) (Z A H) (A4 d) A XV ((A4 d).ex (⟨f,a,b,0⟩::h) scope pos) (⟨f,a,b,0⟩::h) (zW te) k []:=
 let ⟨h1,h2,h3,h4⟩:=i cells Cn s H c
 ⟨h1,h2,h3,λ_ _ _ j=>zez rfl h4.z j⟩
def pK(o:Bool)(ext:Nat)(it0:DI)(g:Tg)(ts:List DT)(cs:List Cl)(te:DE):DE:=λσ O=>vU o (Bi ext it0 g ts cs te σ O)
def ZQ(o:Bool)(ext:List au)(d:X.calm=qb)(f:s_ X Ex tg iter it0)(h:xJ X.env.scope scope (X.N++ext) (p9 (⟨it0,g,ts⟩::cs)))
  (i:∀cells C s H a,PG (ql X (X.N++ext) scope cells C s H a) tg (g.rd X.K)/\cj (λe t=>qQ (ql X (X.N++ext) scope cells C s H a) p_ e t) ifs ts/\oo (ql X (X.N++ext) scope cells C s H a) gs cs/\PD (ql X (X.N++ext) scope cells C s H a) p_ elt te)
  (j:∀x,bT iter X.env x=pure x:=by intro _;rfl):PD X Ex (.ListComp elt (⟨tg,iter,ifs,0⟩::gs) scope pos) (pK o ext.length it0 g ts cs te):=by refine⟨?_⟩;rintro b s F H Q I ⟨k,G,J,O,l,c,q⟩;unfold pK at q;rw[<- Ld] at q;refine Ht (KC elt) d f h (λcells n s H a _ _ _=>Jz i cells n s H a) j I l c (RU c q λL p r M C u v w y z A B=>?_);obtain⟨m,D⟩:=v;exact⟨m,D,λP E=>⟨.ref L,p,Inv.bare u E w y z A B,rfl,r⟩⟩
def z7W(o:Bool)(ext:List au)(r:X.calm=qb)(u:X.N.Nodup)(w:X.N[i]?=KF y)(f:X.env.scope.names.lookup y=KF .local)
  (A:s_ X Ex tg iter it0) (B:xJ X.env.scope scope (X.N++ext) (p9 (⟨it0,g,ts⟩::cs)))
  (D:∀cells C s H b,PG (ql X (X.N++ext) scope cells C s H b) tg (g.rd X.K)/\cj (λe t=>qQ (ql X (X.N++ext) scope cells C s H b) p_ e t) ifs ts/\oo (ql X (X.N++ext) scope cells C s H b) gs cs/\PD (ql X (X.N++ext) scope cells C s H b) p_ elt te)
  (F:swapsWith (.ListComp elt (⟨tg,iter,ifs,0⟩::gs) scope pos) (KF (.Name y py)) sD.line X.env=pure qb)
  (G:∀x,bT iter X.env x=pure x:=by intro _;rfl):tX X Ex (.Assign [.Name y py] (.ListComp elt (⟨tg,iter,ifs,0⟩::gs) scope pos) sD) (pS i (pK o ext.length it0 g ts cs te)):=by
 refine⟨?_⟩;rintro h s a_ H E I ⟨c,J,j,O,k,l,q⟩;rw[kG _ _ _ _ F];refine aa (fg (aa ?_));have q:n6 Ex X.K H c J ((vU o (Bi ext.length it0 g ts cs te j O)).bnS λd M=>.nx (j.set i (KF d)) M) E:=q;rw[<- Ld] at q;refine aa (bZ (Ht (KC elt) r A B (λcells P s H b _ _ _=>Jz D cells P s H b) G I k l (zcd l k q λL Q R S C T U V n W p Y=>?_)) (λ_ S Z=>ao (ao Z)) λ_ _ e=>e);obtain⟨m,hn⟩:=U;refine jx (KW (v:=.ref L) T u w (.inl f) rfl (λqK Nu x_=>?_) (.inr f));obtain⟨a,BF,ha⟩:=x_;have M3:C≠a:=by
  rcases ha with z|z
  ·rw[z];exact n
  ·exact λe=>p y a z e.symm
 refine⟨m,hn.sameBut BF M3,λh' BG=>?_⟩;exact⟨_,Q,Inv.bare Nu BG V n W p Y,R⟩
end
noncomputable def pM{α β:Type}(f:α->Option β):List α->Option (List β)
 |[]=>KF []
 | x::xs=>match f x,pM f xs with
  |some p,KF ps=>KF (p::ps)
  |_,_=>KM
def yw(cs:l_):Option d6:=if cs.all (· < 1114112)=qb then KF (.str ⟨cs.toArray⟩) else KM
def qA(O:Ow):Nat->D->Option d6
 | 0,d=>match d with
  |.non=>KF .none
  |.bl b=>KF (.bool b)
  |.int i=>KF (.int i)
  |.str cs=>yw cs
  |_=>KM
 | n+1,d=>match d with
  |.non=>KF .none
  |.bl b=>KF (.bool b)
  |.int i=>KF (.int i)
  |.str cs=>yw cs
  |.lst ds=>(pM (qA O n) ds).map .list
  |.tup ds=>(pM (qA O n) ds).map .tuple
  | .own k=>match O[k]? with
   |some ds=>(pM (qA O n) ds).map .list
   |none=>KM
  |.dct=>KM
  |.exn _=>KM
  |.tab _=>KM
  |.map _ _=>KM
  |.adr _=>KM
section
variable{X:Cx}{Y1:List (af×Obj)}{a_:St}{H:Hp}{s:ag}{XV μ:List af}{O:Ow}
theorem HJ(I:L2.Inv X Y1 a_ H s)(f:∀(d:D)(v:V)(u:ae)(p:d6),Y2 X.K H XV μ d v->RelV v u->qA O n d=KF p->∃b,Reads s.heap u p b/\p.canLay0=qb/\p.depth<=n):
  ∀(ds:List D)(vs:List V)(c:List ae)(a:List d6),nW X.K H XV μ ds vs->nY vs c->pM (qA O n) ds=KF a->∃b,ReadsAll s.heap c a b/\mj a=qb/\mU a<=n
 | [],vs,c,a,h,r,e=>by
  unfold nW at h;subst h;cases r;cases e;exact⟨[],.nil,rfl,ck _⟩
 | d::ds,vs,c,a,h,r,e=>by
  obtain⟨v,t,rfl,g,i⟩:=h;cases r with
  | cons r1 r2=>
   unfold pM at e;split at e
   ·rename_i p j k l;cases e;obtain⟨b,m,o,q⟩:=f d v _ p g r1 k;obtain⟨w,x,y,z⟩:=HJ I f ds t _ j i r2 l;refine⟨b++w,.cons m x,?_,?_⟩
    ·unfold mj;rw[o,y];rfl
    ·unfold mU;exact Nat.max_le.mpr ⟨q,z⟩
   ·cases e
def Tq(e:yw cs=KF p):∃a,Reads s.heap (.str ⟨cs.toArray⟩ t) p a/\p.canLay0=qb/\p.depth<=n:=by
 unfold yw at e;split at e
 ·rename_i b;cases e;exact⟨[],.str _ _,by unfold i7 PyData.strOk;simpa using b,ck _⟩
 ·cases e
def Ap(I:L2.Inv X Y1 a_ H s)(c:nV X.K H XV μ O):∀(n:Nat)(d:D)(v:V)(u:ae)(p:d6),Y2 X.K H XV μ d v->RelV v u->qA O n d=KF p->∃B,Reads s.heap u p B/\p.canLay0=qb/\p.depth<=n:=by
 intro n
 induction n with
 | zero=>
  intro d v u p h r e;cases d with
  |non=>unfold Y2 at h;subst h;cases r;cases e;exact⟨[],.none,rfl,ck _⟩
  |bl b=>unfold Y2 at h;subst h;cases r;cases e;exact⟨[],.bool _,rfl,ck _⟩
  |int b=>unfold Y2 at h;subst h;obtain⟨t,rfl⟩:=r;cases e;exact⟨[],.int _ _,rfl,ck _⟩
  | str cs=>
   unfold Y2 at h;subst h;obtain⟨t,rfl⟩:=r;exact Tq (e)
  |_=>cases e
 | succ n ih=>
  intro d v u p h r e;cases d with
  |non=>unfold Y2 at h;subst h;cases r;cases e;exact⟨[],.none,rfl,ck _⟩
  |bl b=>unfold Y2 at h;subst h;cases r;cases e;exact⟨[],.bool _,rfl,ck _⟩
  |int b=>unfold Y2 at h;subst h;obtain⟨t,rfl⟩:=r;cases e;exact⟨[],.int _ _,rfl,ck _⟩
  | str cs=>
   unfold Y2 at h;subst h;obtain⟨t,rfl⟩:=r;exact Tq (e)
  | lst f=>
   obtain⟨a,i,rfl,l,q⟩:=h;cases r;have e:(pM (qA O n) f).map fw=KF p:=e;cases g:pM (qA O n) f with
   |none=>rw[g] at e;cases e
   | some ps=>
    rw[g] at e;cases e;obtain⟨j,m,⟨o,k,w,x,F,y⟩,C⟩:=I.list l.sq;obtain⟨B,z,A,E⟩:=HJ I ih f i j ps q m g;exact⟨_,.list w x y ⇑z,by unfold i7;exact A,by unfold lT;lia⟩
  | tup f=>
   obtain⟨a,i,rfl,l,q⟩:=h;cases r;have e:(pM (qA O n) f).map gT=KF p:=e;cases g:pM (qA O n) f with
   |none=>rw[g] at e;cases e
   | some ps=>
    rw[g] at e;cases e;obtain⟨j,m,⟨o,w,x,k,y⟩,C⟩:=I.tuple l.sq;obtain⟨B,z,A,E⟩:=HJ I ih f i j ps q m g;exact⟨_,.tuple w x y ⇑z,by unfold i7;exact A,by unfold lT;lia⟩
  | own k=>
   obtain⟨a,rfl,G⟩:=h;cases r;obtain⟨f,i,J,L,M⟩:=c.at_ k a G;have e:(match O[k]? with|some f=>(pM (qA O n) f).map fw|none=>KM)=KF p:=e;rw[J] at e;cases g:pM (qA O n) f with
   |none=>simp only[g] at e;cases e
   | some ps=>
    simp only[g] at e;cases e;obtain⟨j,m,⟨o,N,w,x,F,y⟩,C⟩:=I.list (.of L);obtain⟨B,z,A,E⟩:=HJ I ih f i j ps M m g;exact⟨_,.list w x y ⇑z,by unfold i7;exact A,by unfold lT;lia⟩
  |dct=>cases e
  |exn _=>cases e
  |tab _=>cases e
  |map _ _=>cases e
  |adr _=>cases e
end
def py(O:Ow)(d:D):Option d6:=qA O 8 d
def zF(K:ai)(f:d6->d6->Option Bool):R2:=λv w H Q=>∃XV μ O x y a b k,nV K H XV μ O/\Y2 K H XV μ x v/\Y2 K H XV μ y w/\py O x=KF a/\py O y=KF b/\f a b=KF k/\Q (.bl k) H
def pA(f:d6->d6->Option Bool):Ow->D->D->R D:=λO x y=>match py O x,py O y with
 | some a,KF b=>match f a b with
  |some k=>.ok (.bl k) O
  |none=>.bad
 |_,_=>.bad
section
variable{X:Cx}{Ex:Nat->Hp->Prop}
def zp:r9 X Ex (zF X.K f) (pA f):=by
 intro H d e O x y v w Q c g h q;unfold pA at q;split at q
 ·rename_i a b i j;split at q
  ·rename_i k l;exact⟨d,e,O,x,y,a,b,k,c,g,h,i,j,l,post.here q c uj⟩
  ·exact ah q
 ·exact ah q
def qC:d6->d6->Option Bool:=λa b=>KF (be a b)
def rW:d6->d6->Option Bool:=λa b=>KF (!PyData.eqv a b)
def Ay:d6->d6->Option Bool:=λa b=>match b with
 |.list xs=>KF (xs.any λy=>be y a)
 |.tuple xs=>KF (xs.any λy=>be y a)
 |_=>KM
def Ci:d6->d6->Option Bool:=λa b=>match b with
 |.list xs=>KF (!xs.any λy=>be y a)
 |.tuple xs=>KF (!xs.any λy=>be y a)
 |_=>KM
def Hi(a:p.canLay0=qb)(b:p.depth<=8):nK p=qb:=by unfold nK;rw[a,decide_eq_true (show p.depth<=64 by lia)];rfl
def Ki(e:X.A.units+64<cLine):qm X (cm .Eq) (zF X.K qC):=by intro d s E H x y v u Q I f g h;obtain⟨i,F,O,j,l,a,b,k,c,m,n,o,p,r,q⟩:=h;obtain⟨G,t,w,z⟩:=Ap I c 8 j x v a m f o;obtain⟨J,B,C,D⟩:=Ap I c 8 l y u b n g p;cases r;exact PyProof.Rows.eq_dataH t B (Hi w z) (Hi C D) e ⟨.bl _,H,I,rfl,q⟩
def G_(e:X.A.units+64<cLine):qm X (cm .NotEq) (zF X.K rW):=by intro d s E H x y v u Q I f g h;obtain⟨i,F,O,j,l,a,b,k,c,m,n,o,p,r,q⟩:=h;obtain⟨G,t,w,z⟩:=Ap I c 8 j x v a m f o;obtain⟨J,B,C,D⟩:=Ap I c 8 l y u b n g p;cases r;exact PyProof.Rows.ne_dataH t B (Hi w z) (Hi C D) e ⟨.bl _,H,I,rfl,q⟩
def GI{A:aU}{n m:Nat}(h:m<=8)(a:A.units+64<cLine):A.units+1+min n m<cLine:=by lia
def Z8(e:X.A.units+64<cLine):qm X (cm .In) (zF X.K Ay):=by
 intro f s D H x y v u Q I n o h;obtain⟨p,E,O,r,t,a,b,k,c,w,z,B,C,d,q⟩:=h;obtain⟨F,g,i,j⟩:=Ap I c 8 r x v a w n B;obtain⟨G,l,m,J⟩:=Ap I c 8 t y u b z o C;cases b with
 |list xs=>cases d;exact SeqAt.in_list_reads l g m i (GI j e) ⟨.bl _,H,I,rfl,q⟩
 |tuple xs=>cases d;exact SeqAt.in_tuple_reads l g m i (GI j e) ⟨.bl _,H,I,rfl,q⟩
 |_=>cases d
def zdX(e:X.A.units+64<cLine):qm X (cm .NotIn) (zF X.K Ci):=by
 intro f s D H x y v u Q I n o h;obtain⟨p,E,O,r,t,a,b,k,c,w,z,B,C,d,q⟩:=h;obtain⟨F,g,i,j⟩:=Ap I c 8 r x v a w n B;obtain⟨G,l,m,J⟩:=Ap I c 8 t y u b z o C;cases b with
 |list xs=>cases d;exact SeqAt.notIn_list_reads l g m i (GI j e) ⟨.bl _,H,I,rfl,q⟩
 |tuple xs=>cases d;exact SeqAt.notIn_tuple_reads l g m i (GI j e) ⟨.bl _,H,I,rfl,q⟩
 |_=>cases d
end
end DL
namespace DL
open PySem L2
section
variable{e:aO}
noncomputable def sR(O:Ow):D->Option (List D)
 |.lst ds=>KF ds
 |.own k=>O[k]?
 |_=>KM
def Av:D->Option (List D)
 |.tup ds=>KF ds
 |_=>KM
def uB(a:nV K H XV μ O)(h:Y2 K H XV μ d v)(e:sR O d=KF ds):∃p vs,v=.ref p/\qr K H p vs/\nW K H XV μ ds vs:=by
 cases d with
 | lst xs=>
  obtain⟨p,vs,rfl,l,q⟩:=h;cases e;exact⟨p,vs,rfl,l.sq,q⟩
 | own k=>
  obtain⟨p,rfl,b⟩:=h;obtain⟨i,vs,c,f,g⟩:=a.at_ k p b;have e:O[k]?=KF ds:=e;rw[c] at e;cases e;exact⟨p,vs,rfl,.of f,g⟩
 |_=>cases e
def Ai(h:Y2 K H XV μ d v)(e:Av d=KF ds):∃p vs,v=.ref p/\rH K H p vs/\nW K H XV μ ds vs:=by
 cases d with
 | tup xs=>
  obtain⟨p,vs,rfl,l,q⟩:=h;cases e;exact⟨p,vs,rfl,l.sq,q⟩
 |_=>cases e
def zmB:Ow->D->D->R D:=λO x y=>match x,y with
 |.str s,.str t=>if s.length+t.length<=4000000 then .ok (.str (s++t)) O else .bad
 |_,_=>.bad
end
def R4(h:nW K H XV μ ds vs)(e:atI ds i=KF d):∃v,atI vs i=KF v/\Y2 K H XV μ d v:=by
 unfold atI at e ⊢;rw[<- h.length];cases q:ixN ds.length i with
 |none=>rw[q] at e;cases e
 |some j=>rw[q] at e;exact h.get e
def pX:Ow->D->D->R D:=λO x y=>match y with
 | .int i=>match sR O x with
  | some ds=>match atI ds i with
   |some d=>.ok d O
   |none=>.bad
  | none=>match Av x with
   | some ds=>match atI ds i with
    |some d=>.ok d O
    |none=>.bad
   | none=>match x with
    | .str cs=>if cs.length<=4000000 then match atI cs i with
      |some ch=>.ok (.str [ch]) O
      |none=>.bad
     else .bad
    |_=>.bad
 |_=>.bad
section
variable{X:Cx}{Ex:Nat->Hp->Prop}{pos:Pos}{a b c e:aO}{ta tb:DE}
def XD:r9 X Ex (UD X.K) pX:=by
 intro H o A O x y v w Q c g n q;unfold pX at q;split at q
 ·rename_i i;unfold Y2 at n;subst n;split at q
  ·rename_i r e;obtain⟨p,h,rfl,j,k⟩:=uB c g e;split at q
   ·rename_i d f;obtain⟨z,l,m⟩:=R4 k f;exact .inl ⟨p,h,i,z,rfl,rfl,j,l,post.here q c m⟩
   ·exact ah q
  ·split at q
   ·rename_i r e;obtain⟨p,h,rfl,j,k⟩:=Ai g e;split at q
    ·rename_i d f;obtain⟨z,l,m⟩:=R4 k f;exact .inr (.inl ⟨p,h,i,z,rfl,rfl,j,l,post.here q c m⟩)
    ·exact ah q
   ·split at q
    ·rename_i s _ _;unfold Y2 at g;subst g;obtain⟨t,q⟩:=post.ite q;split at q
     ·rename_i u f;refine .inr (.inr ⟨_,i,u,rfl,rfl,?_,?_,post.here q c Kf⟩)
      ·show s.toArray.size<=_;rw[aP];exact xX t
      ·simpa using f
     ·exact ah q
    ·exact ah q
 ·exact ah q
def Ov(d:PD X Ex a ta)(f:PD X Ex b tb)(g:Q6 b):PD X Ex (.Subscript a b pos) (h_ pX ta tb):=rl (WM X6 d.out f.out g) (GQ XD)
def pf(f:Ow->List D->R D)(t:DA):DE:=λσ O=>(t σ O).bnd λxs O1=>f O1 xs
def uA(X:Cx)(Ex:Nat->Hp->Prop)(r:List V->Hp->VK->Prop)(f:Ow->List D->R D):Prop:=∀(H:Hp)(XV μ:List af)(O:Ow)(xs:List D)(vs:List V)(Q:VK),nV X.K H XV μ O->nW X.K H XV μ xs vs->qt Ex X.K H XV μ (f O xs) Q->r vs H Q
def O8(h:uA X Ex r f)(XV μ:List af)(σ:Sg)(O:Ow)(g:St)(H:Hp)(Q:VK)(i:nX X.K H XV μ σ g)(j:nV X.K H XV μ O)(q:qt Ex X.K H XV μ (pf f t σ O) Q):Ig r (t6 Ex X.K t) g H Q:=
 t6.go i j q λk l m n o s x c d p=>h n XV o l k m Q c d p
def zeo{x:au}{g:String}{p:Pos}{d:List aO}{r:List V->Hp->VK->Prop}{f:Ow->List D->R D}{t:DA}(i:oh X (.builtin g) r)(h:uA X Ex r f)(j:Gl X x)(k:X.mg x=KM)(l:bg x=KF (.builtin g))(m:sI X Ex (e::d) t)
  (n:x ≠ "__name__":=by decide) (o:qP x:=by decide) (q:aA (e::d) X.env=(qj,eval e X.env)::aA d X.env:=by rfl) (s:(backTo pos (aA d X.env)).any (·.1)=qj:=by rfl):
  PD X Ex (.Call (.Name x p) (e::d) [] pos) (pf f t):=rl (Ei i j k l m.out n o q s) (O8 h)
def K0(d:oh X (.type T) r)(h:uA X Ex r f)(g:Gl X x)(i:X.mg x=KM)(j:bg x=KF (.type T))(k:sI X Ex (e::es) t)
  (l:x ≠ "__name__":=by decide) (m:qP x:=by decide) (n:aA (e::es) X.env=(qj,eval e X.env)::aA es X.env:=by rfl) (o:(backTo pos (aA es X.env)).any (·.1)=qj:=by rfl):
  PD X Ex (.Call (.Name x p) (e::es) [] pos) (pf f t):=rl (SA d g i j k.out l m n o) (O8 h)
def qB:Ow->List D->R D:=λO xs=>match xs with
 | [x]=>match sR O x with
  |some ds=>.ok (.int ds.length) O
  | none=>match Av x with
   |some ds=>.ok (.int ds.length) O
   | none=>match x with
    |.str cs=>if cs.length<=4000000 then .ok (.int cs.length) O else .bad
    |_=>.bad
 |_=>.bad
def PB:uA X Ex (λxs H Q=>∃x n,xs=[x]/\NB X.K x H n/\Q (.int n) H) qB:=by
 intro H l o O xs r Q c d q;unfold qB at q;split at q
 ·rename_i x;obtain⟨v,rfl,f⟩:=tO d;split at q
  ·rename_i h e;obtain⟨p,i,rfl,j,k⟩:=uB c f e;exact⟨_,h.length,rfl,.inl ⟨i,j,k.length⟩,post.here q c sv⟩
  ·split at q
   ·rename_i h e;obtain⟨p,i,rfl,j,k⟩:=Ai f e;exact⟨_,h.length,rfl,.inr ⟨i,j,k.length⟩,post.here q c sv⟩
   ·split at q
    ·rename_i g _ _;unfold Y2 at f;subst f;obtain⟨m,q⟩:=post.ite q;refine⟨_,g.length,rfl,⟨?_,?_⟩,post.here q c sv⟩
     ·show g.toArray.size<=_;rw[aP];exact xX m
     ·show g.length=g.toArray.size;rw[aP]
    ·exact ah q
 ·exact ah q
noncomputable def Ju:Ow->List D->R D:=λO xs=>match xs with
 |[.int i]=>.ok (.int i) O
 |[.bl k]=>.ok (.int (if k then 1 else 0)) O
 |_=>.bad
def XF:uA X Ex (λxs H Q=>(∃i,xs=[.int i]/\Q (.int i) H) \/ ∃k,xs=[.bl k]/\Q (.int (if k then 1 else 0)) H) Ju:=by
 intro H g h O xs j Q c d q;unfold Ju at q;split at q
 ·obtain⟨v,rfl,f⟩:=tO d;unfold Y2 at f;subst f;exact .inl ⟨_,rfl,post.here q c sv⟩
 ·obtain⟨v,rfl,f⟩:=tO d;unfold Y2 at f;subst f;exact .inr ⟨_,rfl,post.here q c sv⟩
 ·exact ah q
def zr:Ow->List D->R D:=λO xs=>match xs with
 | [x]=>match sR O x with
  |some ds=>.ok (.tup ds) O
  | none=>match Av x with
   |some ds=>.ok (.tup ds) O
   |none=>.bad
 |_=>.bad
def zee:uA X Ex (λxs H Q=>∃p f,xs=[.ref p]/\((qr X.K H p f/\∀l,H l=KM->Q (.ref l) (upd H l (.tup f)))\/(rH X.K H p f/\Q (.ref p) H))) zr:=by
 intro H m o O xs r Q c d q;unfold zr at q;split at q
 ·rename_i x;obtain⟨v,rfl,g⟩:=tO d;split at q
  ·rename_i n e;obtain⟨p,h,rfl,i,k⟩:=uB c g e;exact⟨p,h,rfl,.inl ⟨i,λl j=>post.ok q (.laid j) (c.laid j) (Y2.newT c j k)⟩⟩
  ·split at q
   ·rename_i n e;obtain⟨p,h,rfl,i,k⟩:=Ai g e;refine⟨p,h,rfl,.inr ⟨i,post.here q c ?_⟩⟩;cases x with
    |tup f=>cases e;exact g
    |_=>cases e
   ·exact ah q
 ·exact ah q
def DM:Ow->List D->R D:=λO xs=>match xs with
 |[.int i,.int j]=>.ok (.int (if j>i then j else i)) O
 |_=>.bad
def Cu:Ow->List D->R D:=λO xs=>match xs with
 |[.int i,.int j]=>.ok (.int (if j<i then j else i)) O
 |_=>.bad
def zfV:uA X Ex (λxs H Q=>∃i j,xs=[.int i,.int j]/\Q (.int (if j>i then j else i)) H) DM:=by
 intro H h k O xs l Q c d q;unfold DM at q;split at q
 ·obtain⟨v,w,rfl,f,g⟩:=Ct d;unfold Y2 at f g;subst f;subst g;exact⟨_,_,rfl,post.here q c sv⟩
 ·exact ah q
def YV:uA X Ex (λxs H Q=>∃i j,xs=[.int i,.int j]/\Q (.int (if j<i then j else i)) H) Cu:=by
 intro H h k O xs l Q c d q;unfold Cu at q;split at q
 ·obtain⟨v,w,rfl,f,g⟩:=Ct d;unfold Y2 at f g;subst f;subst g;exact⟨_,_,rfl,post.here q c sv⟩
 ·exact ah q
end
abbrev pD:=List D->Ow->R D
noncomputable def Ga(K:ai)(Ec:XK->Nat->Hp->Prop)(n:Nat)(F:pD):Sp:=λvs H Q E=>vs.length=n/\∃XV μ ds O,nW K H XV μ ds vs/\nV K H XV μ O/\qt (Ec E) K H XV μ (F ds O) Q
abbrev Je:XK->Nat->Hp->Prop:=λ_ _ _=>False
section
variable{X:Cx}{CX:vp}{k:Nat}{f:af}{fd:dB}{ps:List au}{E:XK}{Ec:XK->Nat->Hp->Prop}{x:au}{p pos:Pos}{e:aO}{es:List aO}{t:DA}{F:pD}{n:Nat}
noncomputable def o6(n:Nat)(F:pD)(t:DA):DE:=λσ O=>(t σ O).bnd λds O1=>if ds.length=n then F ds O1 else .bad
def N5(G:oj X.prog X.w X.K X.mg X.base CX k f fd ps (Ga X.K Ec n F))(d:nZ k X.A)(g:Gl X x)(h:X.mg x=KF (.ref f))(i:cR X.K (.ref f)=qb)(j:Binds X.K fd ps [])(l:Ag CX X E)(m:sI X (Ec E) (e::es) t)
  (o:qP x:=by decide) (r:aA (e::es) X.env=(qj,eval e X.env)::aA es X.env:=by rfl) (s:(backTo pos (aA es X.env)).any (·.1)=qj:=by rfl):
  PD X (Ec E) (.Call (.Name x p) (e::es) [] pos) (o6 n F t):=
 rl (Kq G d g h i j .nil l m.out o r s) λa I J O L H Q u v q=>t6.go u v q λy z M N B P R C c b=>by
  obtain⟨D,b⟩:=post.ite b;refine⟨by rw[bL,<- c.length];exact D,a,B,y,z,?_,C,b⟩;rw[bL];exact c
end
noncomputable def fin(r:RS):R D:=match r with
 |.nx _ O=>.ok .non O
 |.rt d O=>.ok d O
 |.exc c O=>.exc c O
 |_=>.bad
def qx(n:Nat)(t:DS):pD:=λds O=>fin (t (ds.map KF++aM (n-ds.length) KM) O)
def EG(h:nW K H XV μ ds vs)(N:List au):nX K H XV μ (ds.map KF++aM (N.length-ds.length) KM) (L2.start N vs):=by
 unfold L2.start;have b:=h.length;refine⟨by simp[b],λi d e=>?_⟩;have a:i<ds.length:=by
  by_cases a:i<ds.length
  ·exact a
  ·rw[br ⇑a,eJ] at e;split at e<;>cases e
 rw[aG ⇑a,bO] at e;cases q:ds[i]? with
 |none=>rw[q] at e;cases e
 | some d'=>
  rw[q] at e;cases e;obtain⟨v,c,f⟩:=h.get q;exact⟨v,by rw[aG (by simp;lia),bO,c];rfl,f⟩
abbrev Dw(P:aD)(w:aR)(K:ai)(mg:au->Option ae)(base:aL)(N:List au)(qual:au)(scope:bS)(f:af)(k_:ae)(A:aU)(outer:List Env)(s:ag)(H:Hp)(E:XK):Cx:=
 (yB (λ_ _ _ _ _ _=>False) P w K mg base N qual scope f k_ A outer s H E).nox
def Xb{P:aD}{w:aR}{K:ai}{u:au->Option ae}{base:aL}{k:Nat}{f:af}{name a:au}{g:eu}{body:List cN}{scope:bS}{y z i B j ct F:ae}{C G:Option af}{I:Array (Option ae)}{N o:List au}{t:DS}
  (J:K.lookup f=KF ⟨F,G,.func (bd name a g body scope y z i B C j ct),I⟩) (L:cS K j a=qb) (S:rj N o scope)
  (M:∀(A:aU)(b:List Env)(s:ag)(H:Hp)(E:XK),nZ k (A.deeper (aT a scope s.heap.objs.size f j))->rn (Dw P w K u base N a scope f j A b s H E) p_ body t):
  oj P w K u base (λ_ _ _ _ _ _=>False) (k+1) f (bd name a g body scope y z i B C j ct) o (Ga K Je o.length (qx N.length t)):=by
 refine qv J L S (λR H Q E h=>h.1) λA b s H R Q E T h=>?_;obtain⟨W,p,U,D,O,d,c,q⟩:=h;refine⟨_,(M A b s H E T).out.nox,p,U,_,O,EG d N,c,?_⟩;unfold qx at q;generalize t (D.map KF++aM (N.length-D.length) KM) O=r at q;cases r with
 |nx σ O'=>exact λX l m x e n=>q .non l m x n zw
 |rt d' O'=>exact λv l m x n r=>q v l m x n r
 |bk σ O'=>exact ah q
 |ct σ O'=>exact ah q
 |exc n O'=>exact λl m x V=>q l m x V
 |bad=>exact ah q
noncomputable def uM:D->String
 |.non => "NoneType"
 |.bl _ => "bool"
 |.int _ => "int"
 |.str _ => "str"
 |.lst _ => "list"
 |.own _ => "list"
 |.tup _ => "tuple"
 |.dct => "dict"
 |.exn _ => "exception"
 |.tab _ => "bool"
 |.map _ _ => "dict"
 |.adr _ => "function"
def xr(t c:String):Bool:=t==c||(t == "bool" && c == "int")
section
variable{X:Cx}{Ex:Nat->Hp->Prop}{pos:Pos}{a b c e:aO}{ta te:DE}{Y1:List (af×Obj)}{a_:St}{H:Hp}{s:ag}{XV μ:List af}{O:Ow}
def xy:List String:=["NoneType", "bool", "int", "str", "list", "tuple", "dict"]
def yI(K:ai){t c:String}(d:t∈xy)(f:c∈["int", "bool", "str", "list", "tuple", "dict"]):aV K (.type t) (.type c)=KF (xr t c):=by simp only[xy,aq,bG,or_false] at d f;rcases d with rfl|rfl|rfl|rfl|rfl|rfl|rfl<;>rcases f with rfl|rfl|rfl|rfl|rfl|rfl<;>first|rfl|decide
def TQ{v:V}{u:ae}{d:D}(I:L2.Inv X Y1 a_ H s)(F:nV X.K H XV μ O)(h:Y2 X.K H XV μ d v)(r:RelV v u)(G:(uM d == "function")=qj):∃(T:ae)(A:aL->Prop),PySem.W.KitX X.K u T A/\A s.heap/\u ≠ .builtin "__main__.__loader__#opaque"/\∀c∈(["int", "bool", "str", "list", "tuple", "dict"]:List String),aV X.K T (.type c)=KF (xr (uM d) c):=by
 cases d with
 |non=>unfold Y2 at h;subst h;cases r;exact⟨.type "NoneType",_,ml,eE,(λz=>nomatch z),λc f=>yI X.K (by simp[xy]) f⟩
 |bl _=>unfold Y2 at h;subst h;cases r;exact⟨.type "bool",_,mm,eE,(λz=>nomatch z),λc f=>yI X.K (by simp[xy]) f⟩
 |int _=>unfold Y2 at h;subst h;obtain⟨t,rfl⟩:=r;exact⟨.type "int",_,PySem.W.kitx_int,eE,(λz=>nomatch z),λc f=>yI X.K (by simp[xy]) f⟩
 |str _=>unfold Y2 at h;subst h;obtain⟨t,rfl⟩:=r;exact⟨.type "str",_,PySem.W.kitx_str,eE,(λz=>nomatch z),λc f=>yI X.K (by simp[xy]) f⟩
 | lst x=>
  obtain⟨p,m,rfl,l,q⟩:=h;cases r;obtain⟨B,E,⟨o,n,j,i,_⟩,_⟩:=I.list l.sq;exact⟨.type "list",_,mn,⟨o,j,i⟩,(λz=>nomatch z),λc f=>yI X.K (by simp[xy]) f⟩
 | own k=>
  obtain⟨p,rfl,J⟩:=h;cases r;obtain⟨x,m,_,i,_⟩:=F.at_ k p J;obtain⟨B,E,⟨o,n,j,i,_⟩,_⟩:=I.list (.of i);exact⟨.type "list",_,mn,⟨o,j,i⟩,(λz=>nomatch z),λc f=>yI X.K (by simp[xy]) f⟩
 | tup x=>
  obtain⟨p,m,rfl,l,q⟩:=h;cases r;obtain⟨B,E,⟨o,j,i,_⟩,_⟩:=I.tuple l.sq;exact⟨.type "tuple",_,PySem.W.kitx_tuple,⟨o,j,i⟩,(λz=>nomatch z),λc f=>yI X.K (by simp[xy]) f⟩
 | dct=>
  obtain⟨p,rfl,w,_⟩:=h;cases r;obtain⟨_,_,m,_,o,L,M,j,i,_⟩:=Rd.ok w I.hok;exact⟨.type "dict",_,mo,⟨o,j,i.1⟩,(λz=>nomatch z),λc f=>yI X.K (by simp[xy]) f⟩
 |tab _=>unfold Y2 at h;obtain⟨rfl,_⟩:=h;cases r;exact⟨.type "bool",_,mm,eE,(λz=>nomatch z),λc f=>yI X.K (by simp[xy]) f⟩
 | map ks x=>
  obtain⟨p,m,rfl,w,_⟩:=h;cases r;obtain⟨_,_,m,_,o,L,M,j,i,_⟩:=Rd.ok (.inr w) I.hok;exact⟨.type "dict",_,mo,⟨o,j,i.1⟩,(λz=>nomatch z),λc f=>yI X.K (by simp[xy]) f⟩
 |adr _=>cases G
 | exn C=>
  obtain⟨p,N,rfl,⟨k,g⟩,w,_⟩:=h;cases r;obtain⟨y,_⟩:=Rd.ok w I.hok;refine⟨_,_,P8 k,g _ y,(λz=>nomatch z),λc f=>?_⟩;rw[k.kit c f];simp at f;rcases f with rfl|rfl|rfl|rfl|rfl|rfl<;>rfl
def Dg:List String:=["int", "bool", "str", "list", "tuple", "dict"]
def zcs:oh X (.builtin "isinstance") (λxs H Q=>∃x C XV μ O d,xs=[x,.ty C]/\C∈Dg/\nV X.K H XV μ O/\Y2 X.K H XV μ d x/\(uM d == "function")=qj/\Q (.bl (xr (uM d) C)) H):=by intro Y1 s t H xs v Q I r h;obtain⟨x,C,XV,μ,O,d,rfl,f,g,i,j,q⟩:=h;obtain⟨u,w,rfl,k,l⟩:=A8 r;cases l;obtain⟨T,y,Z,p,m,n⟩:=TQ I g i k j;exact wT I (jZ Z I.kIn p (n _ f) m λo z=>⟨.bl _,H,I.tok o,rfl,q⟩)
def uf(C:String)(t:DE):DE:=λσ O=>(t σ O).bnd λd O1=>if (uM d == "function")=qb then .bad else .ok (.bl (xr (uM d) C)) O1
def GN(i:PD X Ex a ta)(j:n∈Dg)(k:Gl X "isinstance")(l:X.mg "isinstance" = KM)(m:bg "isinstance" = KF (.builtin "isinstance"))(o:Gl X C)(t:X.mg C=KM)(u:bg C=KF (.type n))(w:C ≠ "__name__":=by decide)
  (y:qP C:=by decide) (g:aA [a,.Name C p'] X.env=(qj,eval a X.env)::aA [.Name C p'] X.env:=by rfl) (z:aA [.Name C p'] X.env=[(qj,eval (.Name C p') X.env)]:=by rfl) (A:(backTo pos (aA [.Name C p'] X.env)).any (·.1)=qj:=by rfl):
  PD X Ex (.Call (.Name "isinstance" p) [a,.Name C p'] [] pos) (uf n ta):=
 rl (Ei (zcs) k l m (xB i.out (xB (G3 (v:=.ty n) o t u rfl w y) Ba z) g) 's' 's' g A) λXV μ I O a_ H Q B D q=>rd.go B D q λd E v J F K x h r f=>by
  obtain⟨G,f⟩:=post.iteN f;exact⟨v,n,XV,F,E,d,rfl,j,h,r,G,post.here f h uj⟩
noncomputable def AM(to:DE)(t:DA):DE:=λσ O=>(to σ O).bnd λx O1=>match x with
 | .own k=>(t σ O1).bnd λys O2=>match ys,O2[k]? with
  |[y],KF ds=>if ds.length<4000000 then .ok .non (O2.set k (ds++[y])) else .bad
  |_,_=>.bad
 |_=>.bad
def zc8(n:PD X Ex o to)(u:sI X Ex (e::es) t)(z:attributeBase o "append" X.env (eval o X.env)=eval o X.env:=by rfl)
  (B:((backTo o9 (aA (e::es) X.env)).all (λx=>!x.1)&&(backToKw o9 (keywordEach [] X.env)).all (λx=>x.1.isSome)&&decide ((e::es).length+([]:List fy).length+(if ([]:List fy).isEmpty then 0 else 1)<30))=qb:=by rfl)
  (C:(apos.endLine==o9.line)=qb:=by rfl) (D:aA (e::es) X.env=(qj,eval e X.env)::aA es X.env:=by rfl) (E:(backTo o9 (aA es X.env)).any (·.1)=qj:=by rfl):
  PD X Ex (.Call (.Attribute o "append" apos) (e::es) [] o9) (AM to t):=
 rl (GD jU kE PySem.F.type_list_append SN n.out u.out z B C D E) λXV μ σ O a_ H Q G I q=>rd.go G I q λd O1 v H1 e_ J x h r p=>by
  cases d with
  | own k=>
   have K:=r;obtain⟨A,rfl,L⟩:=r;obtain⟨ds,M,h1,N,h3⟩:=h.at_ k A L;refine⟨.inl ⟨rfl,M,.of N⟩,t6.go J h p λys O2 ws H2 P e3 R i S f=>?_⟩;split at f
   ·rename_i y B5 T;obtain⟨U,f⟩:=post.ite f;obtain⟨w,rfl,V⟩:=tO S;have g:P[k]?=KF A:=by
     have:=K.ext R;obtain⟨A',W,Y⟩:=this;cases W;exact Y
    obtain⟨F1,Z,j,l,m⟩:=i.at_ k A g;rw[T] at j;cases j;refine⟨A,Z,w,rfl,rfl,l,aY (by rw[<- m.length];exact U) 's',?_⟩;exact post.ok f (.put (aX g) ⟨_,l⟩) (i.put g (m.append (.cons V .nil))) zw
   ·exact ah f
  |_=>exact ah p
def Cp(te to ti:DE):DS:=λσ O=>(te σ O).bnS λy O1=>(to σ O1).bnS λx O2=>(ti σ O2).bnS λi O3=>match x,i with
 | .own k,.int i=>match O3[k]? with
  | some ds=>match ixN ds.length i with
   |some j=>.nx σ (O3.set k (ds.set j y))
   |none=>.bad
  |none=>.bad
 |_,_=>.bad
def Z6(t:PD X Ex e te)(z:PD X Ex o to)(B:PD X Ex i ti)(C:∀v,assign (.Subscript o i pos) X.env v=(do
   let ov <- holding [v] (eval o X.env);let iv <- holding [v,ov] (eval i X.env)
   standAt pos
   holding [v,ov,iv] (setItem ov iv v)
   release [v,ov,iv] []):=by intro _;rfl)(D:gn [.Subscript o i pos] e sD.line X.env=pure qj:=by rfl)(F:gp [.Subscript o i pos] e X.env=pure KM:=by rfl)
  (G:(gh [.Subscript o i pos] X.env).map (·.2)=[assign (.Subscript o i pos) X.env]:=by rfl):tX X Ex (.Assign [.Subscript o i pos] e sD) (Cp te to ti):=
 yG (JZ t.out (X3 z.out B.out ze2 C) D F G) λXV μ σ O E a_ H I J q=>rd.goS I J q λy O1 v H1 e_ K x1 L M N=>rd.goS K L N λx O2 u H2 pe P Q R S T=>rd.goS P R T λii O3 w H3 U V l n W d=>by
  split at d
  ·rename_i k j;split at d
   ·rename_i ds Y;split at d
    ·rename_i m Z;have g:=S.ext l;obtain⟨A,rfl,f⟩:=g;subst W;obtain⟨F1,Ar,p,h,r⟩:=n.at_ k A f;rw[Y] at p;cases p;refine⟨A,Ar,j,m,rfl,rfl,h,by rw[<- r.length];exact Z,?_⟩;exact d a_ _ U (.put (aX f) ⟨_,h⟩) (V.ext (.put (aX f) ⟨_,h⟩)) (n.put f (r.set ((M.ext Q).ext l) m))
    ·exact ah d
   ·exact ah d
  ·exact ah d
def yU:List D->Option (List Bool)
 |[]=>KF []
 |.bl b::r=>(yU r).map (b :: ·)
 |_=>KM
theorem J3:∀{ds:List D}{vs:List V}{bs:List Bool},nW K H XV μ ds vs->yU ds=KF bs->vs=bs.map V.bl
 |[],vs,bs,h,e=>by unfold nW at h;subst h;cases e;rfl
 | d::ds,vs,bs,h,e=>by
  obtain⟨v,r,rfl,f,g⟩:=h;cases d with
  | bl b=>
   unfold yU at e;cases q:yU ds with
   |none=>rw[q] at e;cases e
   | some cs=>
    rw[q] at e;cases e;unfold Y2 at f;subst f;rw[J3 g q];rfl
  |_=>cases e
def z_:Ow->List D->R D:=λO xs=>match xs with
 | [x]=>match sR O x with
  | some ds=>match yU ds with
   |some bs=>.ok (.bl (bs.all id)) O
   |none=>.bad
  |none=>.bad
 |_=>.bad
def Cg:Ow->List D->R D:=λO xs=>match xs with
 | [x]=>match sR O x with
  | some ds=>match yU ds with
   |some bs=>.ok (.bl (bs.any id)) O
   |none=>.bad
  |none=>.bad
 |_=>.bad
def W6:uA X Ex (λxs H Q=>∃(p:af)(bs:List Bool),xs=[.ref p]/\qr X.K H p (bs.map V.bl)/\Q (.bl (bs.all id)) H) z_:=by
 intro H XV μ O xs j Q c d q;unfold z_ at q;split at q
 ·rename_i x;obtain⟨v,rfl,f⟩:=tO d;split at q
  ·rename_i k e;obtain⟨p,l,rfl,g,h⟩:=uB c f e;split at q
   ·rename_i bs i;refine⟨p,bs,rfl,?_,post.here q c uj⟩;rw[<- J3 h i];exact g
   ·exact ah q
  ·exact ah q
 ·exact ah q
def Xs:uA X Ex (λxs H Q=>∃(p:af)(bs:List Bool),xs=[.ref p]/\qr X.K H p (bs.map V.bl)/\Q (.bl (bs.any id)) H) Cg:=by
 intro H XV μ O xs j Q c d q;unfold Cg at q;split at q
 ·rename_i x;obtain⟨v,rfl,f⟩:=tO d;split at q
  ·rename_i k e;obtain⟨p,l,rfl,g,h⟩:=uB c f e;split at q
   ·rename_i bs i;refine⟨p,bs,rfl,?_,post.here q c uj⟩;rw[<- J3 h i];exact g
   ·exact ah q
  ·exact ah q
 ·exact ah q
def zcA(bs:List Bool):(a9 bs.length).all (λi=>bs.getD i qb)=bs.all id:=by
 rw[eF,aH,aH];constructor
 ·intro h b f;obtain⟨i,d,e⟩:=dU.mp f;have:=h i ⇑d;rw[bE,aC d,e] at this;exact this
 ·intro h i d;have d:i<bs.length:=⇑d
  rw[bE,aC d];exact h _ (el d)
def zb9(bs:List Bool):(a9 bs.length).any (λi=>bs.getD i qb)=bs.any id:=by
 rw[eF,er,er];constructor
 ·rintro⟨i,d,h⟩;have d:i<bs.length:=⇑d
  rw[bE,aC d] at h;exact⟨_,el d,h⟩
 ·rintro⟨b,f,h⟩;obtain⟨i,d,e⟩:=dU.mp f;exact⟨i,by simpa using d,by rw[bE,aC d,e];exact h⟩
def QP{bs:List Bool}{d:List ae}(r:nY (bs.map V.bl) d){i:Nat}{v:ae}(h:d.toArray[i]?=KF v):v=.bool (bs.getD i qb):=by
 have h:d[i]?=KF v:=⇑h
 have f:i<bs.length:=by
  have:=r.length;have:=(al.mp h).1;simp at *;lia
 obtain⟨u,g,j⟩:=r.get (by rw[bO,aC f];rfl);rw[h] at g;cases g;cases j;rw[bE,aC f];rfl
def zbf(j:X.calm=qb):oh X (.builtin "all") (λxs H Q=>∃(p:af)(bs:List Bool),xs=[.ref p]/\qr X.K H p (bs.map V.bl)/\Q (.bl (bs.all id)) H):=by
 intro Y1 s z H xs B Q I r h;obtain⟨p,bs,rfl,k,q⟩:=h;obtain⟨u,rfl,l⟩:=uy r;cases l;obtain⟨d,g,f,C⟩:=I.list k;have m:d.toArray.size=bs.length:=by have:=g.length;simp at *;lia
 have t:p≠s.heap.objs.size:=by obtain⟨o,n,e,_⟩:=f;exact bu (aI e)
 refine wT I (call_all_walk (fo f.isList ?_));refine⟨s.heap.objs.size,_,_,d.toArray.size,_,_,λi=>bs.getD i qb,rfl,kY (show X.A.in1.handled=KM from I.ok.hd j) _ p t d.toArray,⟨⟨_,aN _ rfl,rfl,rfl⟩,f.isList.push _⟩,λi v D E F w x=>?_,λG J y L=>?_⟩
 ·rw[QP g w];exact c8 x
 ·rw[m,zcA];exact⟨.bl _,H,I.kept λb o e=>y b o (by simpa using bu (aI e)) (aj _ e),rfl,q⟩
def zbs(j:X.calm=qb):oh X (.builtin "any") (λxs H Q=>∃(p:af)(bs:List Bool),xs=[.ref p]/\qr X.K H p (bs.map V.bl)/\Q (.bl (bs.any id)) H):=by
 intro Y1 s z H xs B Q I r h;obtain⟨p,bs,rfl,k,q⟩:=h;obtain⟨u,rfl,l⟩:=uy r;cases l;obtain⟨d,g,f,C⟩:=I.list k;have m:d.toArray.size=bs.length:=by have:=g.length;simp at *;lia
 have t:p≠s.heap.objs.size:=by obtain⟨o,n,e,_⟩:=f;exact bu (aI e)
 refine wT I (call_any_walk (fo f.isList ?_));refine⟨s.heap.objs.size,_,_,d.toArray.size,_,_,λi=>bs.getD i qb,rfl,kY (show X.A.in1.handled=KM from I.ok.hd j) _ p t d.toArray,⟨⟨_,aN _ rfl,rfl,rfl⟩,f.isList.push _⟩,λi v D E F w x=>?_,λG J y L=>?_⟩
 ·rw[QP g w];exact c8 x
 ·rw[m,zb9];exact⟨.bl _,H,I.kept λb o e=>y b o (by simpa using bu (aI e)) (aj _ e),rfl,q⟩
end
section
variable{X:Cx}{Ex:Nat->Hp->Prop}{pos:Pos}{a b c e o:aO}{ta tb te to:DE}{Y1:List (af×Obj)}{a_:St}{H:Hp}{s:ag}{XV μ:List af}{O:Ow}
def OF(K:ai):R2:=λx y H Q=>∃l b xs zs,x=.ref l/\y=.ref b/\qr K H l xs/\qr K H b zs/\xs.length+zs.length<=q9/\∀p,H p=KM->Q (.ref p) (upd H p (.lst (xs++zs)))
def Zc:qm X (d9 .Add) (OF X.K):=by
 intro Y1 s P H x y v u Q I m n h;obtain⟨l,b,R,S,rfl,rfl,p,r,T,q⟩:=h;cases m;cases n;obtain⟨d,g,t,U⟩:=I.list p;obtain⟨f,i,w,V⟩:=I.list r;obtain⟨⟨W,Y,Z,z⟩,A,j,B,C,D⟩:=t;obtain⟨⟨c2,d2,t2,E⟩,G,k,J,L,M⟩:=w;subst B C D J L M;have N:d.toArray++f.toArray=(d++f).toArray:=by simp
 have l1:=g.length;have l2:=i.length;refine jj ⟨_,j,rfl⟩ ⟨_,k,rfl⟩ PySem.noFill_list_add PySem.seq_list_add PySem.F.slot_list_add PySem.F.entry_list_add (PySem.F.args_list_add_2 _ _)
  (PyProof.Rows.list_addW l b d.toArray f.toArray A G KM KM z E (by simp;lia)) ⟨j,k,?_⟩
 rw[N];exact⟨.ref _,_,I.lnew (g.append i) (by rw[aB];lia),rfl,q _ I.fresh⟩
def rg:Ow->D->D->R D:=λO x y=>match x,y with
 |.int i,.int j=>.ok (.int (i+j)) O
 |.str p,.str q=>if p.length+q.length<=4000000 then .ok (.str (p++q)) O else .bad
 |.tup xs,.tup ys=>if xs≠[]/\xs.length+ys.length<=4000000 then .ok (.tup (xs++ys)) O else .bad
 | x,y=>match sR O x,sR O y with
  |some xs,KF ys=>if xs.length+ys.length<=4000000 then .ok (.lst (xs++ys)) O else .bad
  |_,_=>.bad
def JE(K:ai):R2:=λx y H Q=>(∃i j,x=.int i/\y=.int j/\Q (.int (i+j)) H)\/(∃i j,x=.str i/\y=.str j/\i.length+j.length<=q9/\Q (.str (i++j)) H)\/Oy K x y H Q\/OF K x y H Q
def Qp:qm X (d9 .Add) (JE X.K):=qm.or Xh (qm.or zal (qm.or zfJ Zc))
def Q4:r9 X Ex (JE X.K) rg:=by
 intro H XV μ O x y v w Q c d g q;unfold rg at q;split at q
 ·unfold Y2 at d g;subst d;subst g;exact .inl ⟨_,_,rfl,rfl,post.here q c sv⟩
 ·rename_i p j;unfold Y2 at d g;subst d;subst g;obtain⟨k,q⟩:=post.ite q;refine .inr (.inl ⟨_,_,rfl,rfl,?_,?_⟩)
  ·show p.toArray.size+j.toArray.size<=_;simp;exact xX k
  ·have e:((⟨p.toArray⟩:au)++(⟨j.toArray⟩:au))=⟨(p++j).toArray⟩:=by
    show(⟨p.toArray++j.toArray⟩:au)=_;simp
   rw[e];exact post.here q c Kf
 ·rename_i C D;have m:=d;obtain⟨p,n,rfl,A,h⟩:=d;obtain⟨r,t,rfl,B,i⟩:=g;obtain⟨⟨E,k⟩,q⟩:=post.ite q;have u:=h.length;have z:=i.length;refine .inr (.inr (.inl ⟨p,r,n,t,rfl,rfl,A.sq,B.sq,?_,xX 'o',?_,?_⟩))
  ·rintro rfl;exact E (cx.mp u)
  ·rintro rfl;have:=cx.mp z;subst this;rw[bL] at q;exact post.here q c m
  ·intro _ l f;exact post.ok q (.laid f) (c.laid f) (Y2.newT c f (h.append i))
 ·split at q
  ·rename_i C D u z;obtain⟨p,n,rfl,F,h⟩:=uB c d u;obtain⟨r,t,rfl,G,i⟩:=uB c g z;obtain⟨k,q⟩:=post.ite q;have A:=h.length;have B:=i.length;exact .inr (.inr (.inr ⟨p,r,n,t,rfl,rfl,F,G,xX 'o',λl f=>post.ok q (.laid f) (c.laid f) (Y2.newL c f (h.append i))⟩))
  ·exact ah q
def PU(d:PD X Ex a ta)(f:PD X Ex b tb):PD X Ex (.BinOp a .Add b pos) (h_ rg ta tb):=JC Qp Q4 d f
noncomputable def NU(i:Int):l_:=((toString i:au)).cps.toList
def GF:Ow->List D->R D:=λO xs=>match xs with
 |[.int i]=>if i.natAbs<2 ^ 64 then .ok (.str (NU i)) O else .bad
 |_=>.bad
def zaj(h:n<2 ^ 64):n.log2<1920:=by
 by_cases d:n=0
 ·subst d;decide
 ·have:=(Nat.log2_lt d).mpr h;lia
def D_(x:au):(⟨x.cps.toList.toArray⟩:au)=x:=by cases x;simp
def zg4:uA X Ex (λxs H Q=>∃i,xs=[.int i]/\i.natAbs.log2<1920/\Q (.str (toString i)) H) GF:=by
 intro H XV μ O xs h Q c d q;unfold GF at q;split at q
 ·rename_i i;obtain⟨v,rfl,f⟩:=tO d;unfold Y2 at f;subst f;obtain⟨g,q⟩:=post.ite q;refine⟨i,rfl,zaj g,post.here q c ?_⟩;unfold Y2 NU;rw[D_]
 ·exact ah q
def UC(g:au->au->Option V):V->List V->Hp->VK->Prop:=λx xs H Q=>∃i j v,x=.str i/\xs=[.str j]/\g i j=KF v/\Q v H
def NR(i j:au):Option V:=KF (.int (bQ i j 0 i.length (i.length+1)).length)
def zdU:Jb X "str.count" (UC NR):=by intro Y1 s k H x l v m Q I d f h;obtain⟨i,j,w,rfl,rfl,g,q⟩:=h;obtain⟨t,rfl⟩:=d;obtain⟨u,rfl,n,rfl⟩:=uy f;cases g;exact SC.count ⟨.int _,H,I.tok _,⟨_,rfl⟩,q⟩
def Jo(i j:l_):Option D:=KF (.int (bQ ⟨i.toArray⟩ ⟨j.toArray⟩ 0 i.length (i.length+1)).length)
noncomputable def Nk(g:l_->l_->Option D)(to:DE)(t:DA):DE:=λσ O=>(to σ O).bnd λx O1=>match x with
 | .str i=>(t σ O1).bnd λys O2=>match ys with
  | [.str j]=>match g i j with
   |some d=>.ok d O2
   |none=>.bad
  |_=>.bad
 |_=>.bad
def Wq{t:DA}{h:List aO}{f k:Pos}{name:au}{n:String}{y:au->au->Option V}{g:l_->l_->Option D}(l:Slot "str" name n)(A:typeOf (.builtin n)=pure (.type "method_descriptor"))(B:Jb X n (UC y))
  (u:∀i j d,g i j=KF d->∃v,y ⟨i.toArray⟩ ⟨j.toArray⟩=KF v/\∀K H XV μ,Y2 K H XV μ d v) (C:PD X Ex o to) (E:sI X Ex (e::h) t) (F:attributeBase o name X.env (eval o X.env)=eval o X.env:=by rfl)
  (G:((backTo k (aA (e::h) X.env)).all (λx=>!x.1)&&(backToKw k (keywordEach [] X.env)).all (λx=>x.1.isSome)&&decide ((e::h).length+([]:List fy).length+(if ([]:List fy).isEmpty then 0 else 1)<30))=qb:=by rfl)
  (I:(f.endLine==k.line)=qb:=by rfl) (J:aA (e::h) X.env=(qj,eval e X.env)::aA h X.env:=by rfl) (L:(backTo k (aA h X.env)).any (·.1)=qj:=by rfl):
  PD X Ex (.Call (.Attribute o name f) (e::h) [] k) (Nk g to t):=
 rl (GD ig l A B C.out E.out F G I J L) λXV μ Z O a_ H Q M N q=>rd.go M N q λd O1 v H1 e_ P x R r p=>by
  cases d with
  | str i=>
   subst r;refine⟨rfl,t6.go P R p λys O2 ws H2 pe e3 x3 S T m=>?_⟩;split at m
   ·rename_i j;obtain⟨w,rfl,z⟩:=tO T;unfold Y2 at z;subst z;split at m
    ·rename_i d U;obtain⟨v,W,Y⟩:=u _ _ _ U;exact⟨_,_,v,rfl,rfl,W,post.here m S (Y _ _ _ _)⟩
    ·exact ah m
   ·exact ah m
  |_=>exact ah p
def XZ:∀i j d,Jo i j=KF d->∃v,NR ⟨i.toArray⟩ ⟨j.toArray⟩=KF v/\∀K H XV μ,Y2 K H XV μ d v:=λi j d h=>by
 cases h;have e:(⟨i.toArray⟩:au).length=i.length:=by show i.toArray.size=_;simp
 exact⟨_,rfl,λ_ _ _ _=>by unfold Y2;rw[e]⟩
def DV:List D->Option (List au)
 |[]=>KF []
 |.str cs::r=>(DV r).map (⟨cs.toArray⟩ :: ·)
 |_=>KM
theorem Qn:∀{ds:List D}{vs:List V}{f:List au},nW K H XV μ ds vs->DV ds=KF f->vs=f.map V.str
 |[],vs,f,h,e=>by unfold nW at h;subst h;cases e;rfl
 | d::ds,vs,f,h,e=>by
  unfold nW at h;obtain⟨v,r,rfl,g,i⟩:=h;cases d with
  | str cs=>
   unfold DV at e;cases q:DV ds with
   |none=>rw[q] at e;cases e
   | some zs=>
    rw[q] at e;cases e;unfold Y2 at g;subst g;rw[Qn i q];rfl
  |_=>cases e
def Lg:∀{d:List au}{f:List ae},nY (d.map V.str) f->kS f d:=by
 intro d
 induction d with
 |nil=>intro f r;rw[jL] at r;cases r;exact .nil
 | cons y d ih=>
  intro f r;cases r with
  | cons r1 r2=>
   obtain⟨t,e⟩:=r1;subst e;exact .cons y t (ih r2)
noncomputable def WH(K:ai):V->List V->Hp->VK->Prop:=λx xs H Q=>∃i p ys,x=.str i/\xs=[.ref p]/\(qr K H p (ys.map V.str)\/rH K H p (ys.map V.str))/\i.length<=16/\(ys.map (·.length)).sum+ys.length<=1048576/\Q (.str (Txt.join i ys)) H
def YT:Jb X "str.join" (WH X.K):=by
 intro Y1 s A H x B v C Q I l m h;obtain⟨i,p,D,rfl,rfl,sq,g,j,q⟩:=h;obtain⟨t,rfl⟩:=l;obtain⟨u,rfl,n⟩:=uy m;cases n;rcases sq with sq|sq
 ·obtain⟨r,d,f,w⟩:=I.list sq;exact wT I (PyProof.Rows.join_listW f.isList (Lg d) g j λy k z=>⟨.str _,H,I.tok k,⟨_,rfl⟩,q⟩)
 ·obtain⟨r,d,f,w⟩:=I.tuple sq;exact wT I (PyProof.Rows.join_tupleW f (Lg d) g j λy k z=>⟨.str _,H,I.tok k,⟨_,rfl⟩,q⟩)
def GH(to:DE)(t:DA):DE:=λσ O=>(to σ O).bnd λx O1=>match x with
 | .str i=>(t σ O1).bnd λys O2=>match ys with
  | [z]=>match (match sR O2 z with|some ds=>KF ds|none=>Av z) with
   | some ds=>match DV ds with
    |some zs=>if i.length<=16/\(zs.map (·.length)).sum+zs.length<=1048576 then .ok (.str (Txt.join ⟨i.toArray⟩ zs).cps.toList) O2 else .bad
    |none=>.bad
   |none=>.bad
  |_=>.bad
 |_=>.bad
def ZC(C:PD X Ex o to)(D:sI X Ex (e::es) t)(E:attributeBase o "join" X.env (eval o X.env)=eval o X.env:=by rfl)
  (G:((backTo o9 (aA (e::es) X.env)).all (λx=>!x.1)&&(backToKw o9 (keywordEach [] X.env)).all (λx=>x.1.isSome)&&decide ((e::es).length+([]:List fy).length+(if ([]:List fy).isEmpty then 0 else 1)<30))=qb:=by rfl)
  (I:(apos.endLine==o9.line)=qb:=by rfl) (J:aA (e::es) X.env=(qj,eval e X.env)::aA es X.env:=by rfl) (L:(backTo o9 (aA es X.env)).any (·.1)=qj:=by rfl):
  PD X Ex (.Call (.Attribute o "join" apos) (e::es) [] o9) (GH to t):=
 rl (GD ig PySem.F.slot_str_join PySem.F.type_str_join YT C.out D.out E G I J L) λXV μ σ O a_ H Q j M q=>rd.go j M q λd O1 v H1 e_ N x P r p=>by
  cases d with
  | str i=>
   unfold Y2 at r;subst r;refine⟨rfl,t6.go N P p λys R f u S e3 x3 A T g=>?_⟩;split at g
   ·rename_i z;obtain⟨w,rfl,B⟩:=tO T;split at g
    ·rename_i U n;split at g
     ·rename_i V y;obtain⟨⟨k,W⟩,g⟩:=post.ite g;have h:∃p f,w=.ref p/\(qr X.K u p f\/rH X.K u p f)/\nW X.K u XV S U f:=by
       cases j:sR R z with
       | some es=>
        rw[j] at n;cases n;obtain⟨p,f,k,l,m⟩:=uB A B j;exact⟨p,f,k,.inl l,m⟩
       | none=>
        rw[j] at n;obtain⟨p,f,k,l,m⟩:=Ai B n;exact⟨p,f,k,.inr l,m⟩
      obtain⟨Y,f,rfl,l,m⟩:=h;have Z:=Qn m y;subst Z;refine⟨_,Y,V,rfl,rfl,l,?_,W,post.here g A ?_⟩
      ·show i.toArray.size<=16;simpa using k
      ·unfold Y2;rw[D_]
     ·exact ah g
    ·exact ah g
   ·exact ah g
  |_=>exact ah p
abbrev DO:=Sg->Ow->R (Option Int)
noncomputable def Bv(Ex:Nat->Hp->Prop)(K:ai)(t:DO):TO:=λa_ H Q=>∃XV μ σ O,nX K H XV μ σ a_/\nV K H XV μ O/\post Ex K (λ_ _(d v:Option Int)=>d=v) H XV μ (t σ O) Q
structure zY(X:Cx)(Ex:Nat->Hp->Prop)(e:Option aO)(t:DO):Prop where
 out:PO X e (Bv Ex X.K t)
def v7:DO:=λ_ O=>.ok KM O
def xx(t:DE):DO:=λσ O=>(t σ O).bnd λd O1=>match d with
 |.int i=>.ok (KF i) O1
 |_=>.bad
def PO.imp{e:Option aO}{t t':TO}(h:PO X e t)(f:∀σ H Q,t' σ H Q->t σ H Q):PO X e t':=λY1 s σ H Q I q=>h Y1 s σ H Q I (f σ H Q q)
def zdf:zY X Ex KM v7:=zY.mk <| PO.imp YK λa_ H Q ⟨XV,μ,f,O,g,d,q⟩=>post.here q d rfl
def Rx(h:PD X Ex e te):zY X Ex (KF e) (xx te):=zY.mk <| PO.imp (Z9 h.out) λa_ H Q ⟨XV,μ,k,O,f,g,q⟩=>rd.go f g q λd l v m n t x j r p=>by
 cases d with
 |int i=>unfold Y2 at r;subst r;exact⟨i,rfl,post.here p j rfl⟩
 |_=>exact ah p
def Bv.go{i j:Type}{l:Hp->List af->i->j->Prop}{t:DO}{XV μ:List af}{σ:Sg}{O:Ow}{a_:St}{H:Hp}{Q1:Option Int->Hp->Prop}{k:Option Int->Ow->R i}{Q:j->Hp->Prop}(m:nX X.K H XV μ σ a_)(n:nV X.K H XV μ O)
  (q:post Ex X.K l H XV μ ((t σ O).bnd k) Q)
  (f:∀v O1 g h,nX X.K g XV h σ a_->Ext H μ g h->nV X.K g XV h O1->post Ex X.K l g XV h (k v O1) Q->Q1 v g):Bv Ex X.K t a_ H Q1:=
 ⟨XV,μ,σ,O,m,n,post.bnd q λd O1 v g h x c r p=>by
  subst r;exact f d O1 g h (m.ext x) x c p⟩
def VT:V->Option Int->Option Int->Hp->VK->Prop:=λx lo hi H Q=>∃i,x=.str i/\i.length<=q9/\Q (.str (Txt.slice i lo hi)) H
def za9{h:aL}{sl:af}{m n:ae}{lo p:Option Int}(r:h.IsSliceOf sl m n .none)(v:gP m lo)(q:gP n p):∃l u:Option (Int×Tok),h.IsSlice sl l u KM/\l.map (·.1)=lo/\u.map (·.1)=p:=by
 obtain⟨d,g,f,k⟩:=r;cases v with
 | none=>
  cases q with
  |none=>exact⟨KM,KM,⟨d,g,f,k⟩,rfl,rfl⟩
  |int j t=>exact⟨KM,KF (j,t),⟨d,g,f,k⟩,rfl,rfl⟩
 | int i t=>
  cases q with
  |none=>exact⟨KF (i,t),KM,⟨d,g,f,k⟩,rfl,rfl⟩
  |int j t'=>exact⟨KF (i,t),KF (j,t'),⟨d,g,f,k⟩,rfl,rfl⟩
def PY:vN X VT:=by intro Y1 s p H x v r w y z A Q I d f g j h;obtain⟨i,rfl,m,q⟩:=h;obtain⟨t,rfl⟩:=d;obtain⟨l,u,n,rfl,rfl⟩:=za9 f g j;refine⟨"str",_,PySem.F.slot_str_getitem.lookup,kU s i t,?_⟩;exact wT I (wpAny_getItem_str_slice n rfl (post_val_or_str ⟨aF (Txt.slice_le i _ _) m,λB k C=>⟨.str _,H,I.tok k,⟨_,rfl⟩,q⟩⟩))
def AO(xs:List D)(lo hi:Option Int):List D:=(xs.drop (HT.sIx xs.length 0 lo)).take (HT.sIx xs.length xs.length hi-HT.sIx xs.length 0 lo)
def M8(O:Ow)(x:D)(lo hi:Option Int):R D:=match x with
 |.str i=>if i.length<=4000000 then .ok (.str (Txt.slice ⟨i.toArray⟩ lo hi).cps.toList) O else .bad
 |.tup ds=>if HT.sIx ds.length 0 lo=0/\HT.sIx ds.length ds.length hi=ds.length then .bad else .ok (.tup (AO ds lo hi)) O
 | x=>match sR O x with
  |some ds=>.ok (.lst (AO ds lo hi)) O
  |none=>.bad
def Dv(te:DE)(tl th:DO):DE:=λσ O=>(te σ O).bnd λx O1=>(tl σ O1).bnd λlo O2=>(th σ O2).bnd λhi O3=>M8 O3 x lo hi
def Ek{K:ai}{ds:List D}{vs:List V}(h:nW K H XV μ ds vs)(lo d:Option Int):nW K H XV μ (AO ds lo d) (Cd vs lo d):=by unfold AO Cd;rw[h.length];exact nW.take _ (nW.drop _ h)
def W8{lo w:Option aO}{y z:DO}{A:Pos}(B:PD X Ex e te)(m:zY X Ex lo y)(C:zY X Ex w z):PD X Ex (.Subscript e (.Slice lo w KM A) pos) (Dv te y z):=
 rl (R5 (vN.or PY (vN.or P5 QT)) B.out m.out C.out) λXV μ V O a_ H Q D E q=>rd.go D E q λd W v Y Z F x G r p=>Bv.go F G p λl O2 H2 pe I J K L=>Bv.go I K L λu O3 H3 yt e4 M h f=>by
  have j:=(r.ext J).ext M;unfold M8 at f;split at f
  ·rename_i i;unfold Y2 at j;subst j;obtain⟨m.out,f⟩:=post.ite f;refine .inl ⟨_,rfl,?_,post.here f h ?_⟩
   ·show i.toArray.size<=_;rw[aP];exact xX m.out
   ·unfold Y2;rw[D_]
  ·rename_i N;obtain⟨n,t,rfl,P,k⟩:=j;split at f
   ·exact ah f
   ·rename_i R;refine .inr (.inl ⟨n,t,rfl,P.sq,by rw[<- k.length];exact R,λS g=>post.ok f (.laid g) (h.laid g) (Y2.newT h g (Ek k l u))⟩)
  ·split at f
   ·rename_i N T;obtain⟨n,t,rfl,U,k⟩:=uB h j T;exact .inr (.inr ⟨n,t,rfl,U,λS g=>post.ok f (.laid g) (h.laid g) (Y2.newL h g (Ek k l u))⟩)
   ·exact ah f
def Gw:Ow->D->D->R D:=λO x y=>match x,y with
 |.str i,.str j=>.ok (.bl (!(bQ ⟨j.toArray⟩ ⟨i.toArray⟩ 0 j.length 1).isEmpty)) O
 |_,_=>.bad
def Zp:r9 X Ex (λx y H Q=>∃i j,x=.str i/\y=.str j/\Q (.bl (!(bQ j i 0 j.length 1).isEmpty)) H) Gw:=by
 intro H XV μ O x y v w Q c d f q;unfold Gw at q;split at q
 ·rename_i i j;unfold Y2 at d f;subst d;subst f;refine⟨_,_,rfl,rfl,post.here q c ?_⟩;have e:(⟨j.toArray⟩:au).length=j.length:=by show j.toArray.size=_;simp
  rw[e];exact uj
 ·exact ah q
end
def qg(K:ai)(mg:au->Option ae)(x:au)(st:cN):Prop:=∃f fd,mg x=KF (.ref f)/\L2.Fun K x x st f fd
structure Callee(P:aD)(w:aR)(K:ai)(mg:au->Option ae)(base:aL)(x:au)(k n:Nat)(F:pD):Prop where
 ex:∃f fd ps,mg x=KF (.ref f)/\cR K (.ref f)=qb/\Binds K fd ps []/\oj P w K mg base AJ k f fd ps (Ga K Je n F)
def Pf(c:Callee X.prog X.w X.K X.mg X.base x k n F)(a:nZ j X.A)(b:k<=j)(d:Gl X x)(g:sI X p_ (e::es) t)
  (h:qP x:=by decide) (i:aA (e::es) X.env=(qj,eval e X.env)::aA es X.env:=by rfl) (l:(backTo pos (aA es X.env)).any (·.1)=qj:=by rfl):
  PD X p_ (.Call (.Name x p) (e::es) [] pos) (o6 n F t):=by obtain⟨f,r,s,m,o,q,G⟩:=c.ex;exact N5 (G.mono b) a d m o q OG g h i l
def M6(h:qg K mg x st)(S:rj N ps (pF st))
  (l:∀(e c g:ae)(i:Option af)(b j:ae)(d:List ae),d.length=ps.length->bindArgs (bd x x (uF st) (rV st) (pF st) .none e c g i b j) ⟨d,[]⟩=pure (ps.zip d))
  (m:∀(f:af)(b:ae)(A:aU)(a:List Env)(s:ag)(H:Hp)(E:XK),nZ k (A.deeper (aT x (pF st) s.heap.objs.size f b))->rn (Dw P w K mg base N x (pF st) f b A a s H E) p_ (rV st) t):
  Callee P w K mg base x (k+1) ps.length (qx N.length t):=by obtain⟨f,n,o,F⟩:=h;refine⟨f,n,ps,o,F.kp,F.binds l,?_⟩;obtain⟨u,v,e,c,g,i,b,j,y,rfl,p,q⟩:=F.ex;exact Xb p q S λA a s H E r=>m f b A a s H E r
def Callee.imp(c:Callee P w K mg base x k n F)
  (h:∀ds O H XV μ Q,nV K H XV μ O->qt p_ K H XV μ (G ds O) Q->qt p_ K H XV μ (F ds O) Q):Callee P w K mg base x k n G:=by obtain⟨f,b,e,g,i,j,l⟩:=c.ex;refine⟨f,b,e,g,i,j,l.imp λo H Q E ⟨m,XV,μ,ds,O,d,a,q⟩=>⟨m,XV,μ,ds,O,d,a,h ds O H XV μ Q a q⟩⟩
def Callee.bad(c:Callee P w K mg base x k n F):Callee P w K mg base x k n (λ_ _=>.bad):=
 c.imp λ_ _ _ _ _ _ _ q=>ah q
def frz(O:Ow)(n:Nat):Nat->D->Option D
 | 0,d=>match d with
  |.own k=>if k<n then KF (.own k) else KM
  |.lst _=>KM
  |.tup _=>KM
  |.map _ _=>KM
  |d=>KF d
 | f+1,d=>match d with
  | .own k=>if k<n then KF (.own k) else match O[k]? with
   |some ds=>(pM (frz O n f) ds).map .lst
   |none=>KM
  |.lst ds=>(pM (frz O n f) ds).map .lst
  |.tup ds=>(pM (frz O n f) ds).map .tup
  |.map _ _=>KM
  |d=>KF d
def xp(n:Nat)(r:R D):R D:=match r with
 | .ok d O=>match frz O n 8 d,pM (pM (frz O n 8)) (O.take n) with
  |some d',KF O'=>.ok d' O'
  |_,_=>.bad
 |r=>r
section
variable{K:ai}{H:Hp}{XV μ ν:List af}{O:Ow}{n:Nat}
theorem Eu(b:∀d d' v,f d=KF d'->Y2 K H XV μ d v->Y2 K H XV c_ d' v):∀(ds a:List D)(vs:List V),pM f ds=KF a->nW K H XV μ ds vs->nW K H XV c_ a vs
 |[],a,vs,e,h=>by cases e;unfold nW at h ⊢;exact h
 | d::ds,a,vs,e,h=>by
  unfold pM at e;split at e
  ·rename_i p c g i;cases e;obtain⟨v,r,rfl,j,k⟩:=h;exact .cons (b d p v g j) (Eu b ds c r i k)
  ·cases e
def OP(c:nV K H XV (μ++ν) O)(S:μ.length=n):∀(f:Nat)(d d':D)(v:V),frz O n f d=KF d'->Y2 K H XV (μ++ν) d v->Y2 K H XV μ d' v:=by
 have s:∀{a:af},a∉μ++ν->a∉μ:=λh m=>h (bN _ m);have u:∀{k:Nat}{v:V},k<n->Y2 K H XV (μ++ν) (.own k) v->Y2 K H XV μ (.own k) v:=λ{k v}w h=>by
  obtain⟨a,rfl,e⟩:=h;rw[aG 'o'] at e;exact⟨a,rfl,e⟩
 have B:∀{v:V},Y2 K H XV (μ++ν) .dct v->Y2 K H XV μ .dct v:=λ{v}h=>by
  obtain⟨a,rfl,r,x,y⟩:=h;exact⟨a,rfl,r,x,s y⟩
 have E:∀{C:Nat}{v:V},Y2 K H XV (μ++ν) (.exn C) v->Y2 K H XV μ (.exn C) v:=λ{C v}h=>by
  obtain⟨a,G,rfl,g,r,x,y⟩:=h;exact⟨a,G,rfl,g,r,x,s y⟩
 intro f
 induction f with
 | zero=>
  intro d d' v e h;cases d with
  | own k=>
   unfold frz at e;dsimp only at e;split at e
   ·rename_i w;cases e;exact u w h
   ·cases e
  |lst o=>cases e
  |tup o=>cases e
  |dct=>cases e;exact B h
  |map ks o=>cases e
  |adr _=>cases e;unfold Y2 at h ⊢;exact h
  |exn C=>cases e;exact E h
  |tab P=>cases e;unfold Y2 at h ⊢;exact h
  |non=>cases e;unfold Y2 at h ⊢;exact h
  |bl b=>cases e;unfold Y2 at h ⊢;exact h
  |int i=>cases e;unfold Y2 at h ⊢;exact h
  |str i=>cases e;unfold Y2 at h ⊢;exact h
 | succ f ih=>
  intro d d' v e h;cases d with
  | own k=>
   unfold frz at e;dsimp only at e;split at e
   ·rename_i w;cases e;exact u w h
   ·rename_i w;obtain⟨a,rfl,A⟩:=h;obtain⟨o,t,I,J,L⟩:=c.at_ k a A;rw[I] at e;dsimp only at e;cases p:pM (frz O n f) o with
    |none=>rw[p] at e;cases e
    | some ps=>
     rw[p] at e;cases e;refine⟨a,t,rfl,.inl ⟨.inl J,c.nh a (aX A),λm=>?_⟩,Eu ih o ps t p L⟩;obtain⟨j,F,M⟩:=dU.mp m;have N:(μ++ν)[j]?=KF a:=by rw[aG F,aC F,M]
     obtain⟨T,Q⟩:=al.mp N;obtain⟨U,R⟩:=al.mp A;have:=(jJ c.nd).mp (Q.trans R.symm);lia
  | lst o=>
   unfold frz at e;dsimp only at e;obtain⟨a,t,rfl,l,q⟩:=h;cases p:pM (frz O n f) o with
   |none=>rw[p] at e;cases e
   | some ps=>
    rw[p] at e;cases e;exact⟨a,t,rfl,l.imp (λz=>⟨z.1,z.2.1,s z.2.2⟩) id,Eu ih o ps t p q⟩
  | tup o=>
   unfold frz at e;dsimp only at e;obtain⟨a,t,rfl,l,q⟩:=h;cases p:pM (frz O n f) o with
   |none=>rw[p] at e;cases e
   | some ps=>
    rw[p] at e;cases e;exact⟨a,t,rfl,l.imp (λz=>⟨z.1,z.2.1,s z.2.2⟩) id,Eu ih o ps t p q⟩
  |dct=>cases e;exact B h
  |map ks o=>cases e
  |adr _=>cases e;unfold Y2 at h ⊢;exact h
  |exn C=>cases e;exact E h
  |tab P=>cases e;unfold Y2 at h ⊢;exact h
  |non=>cases e;unfold Y2 at h ⊢;exact h
  |bl b=>cases e;unfold Y2 at h ⊢;exact h
  |int i=>cases e;unfold Y2 at h ⊢;exact h
  |str i=>cases e;unfold Y2 at h ⊢;exact h
theorem KD{α β:Type}{f:α->Option β}:∀{l:List α}{r:List β},pM f l=KF r->r.length=l.length
 |[],r,e=>by cases e;rfl
 | x::l,r,e=>by
  unfold pM at e;split at e
  ·rename_i p b c a;cases e;simp[KD a]
  ·cases e
theorem RY{α β:Type}{f:α->Option β}:∀{l:List α}{r:List β}{k:Nat}{y:β},pM f l=KF r->r[k]?=KF y->∃x,l[k]?=KF x/\f x=KF y
 |[],r,k,y,e,h=>by cases e;simp at h
 | x::l,r,k,y,e,h=>by
  unfold pM at e;split at e
  ·rename_i p g a b;cases e;cases k with
   |zero=>simp at h;subst h;exact⟨x,by simp,a⟩
   |succ k=>obtain⟨z,c,d⟩:=RY b ⇑h;exact⟨z,by simpa using c,d⟩
  ·cases e
def R8{j:Nat->Hp->Prop}{r:R D}{Q:VK}(g:μ.length=n)(q:qt j K H XV μ (xp n r) Q):qt j K H XV μ r Q:=by
 cases r with
 |bad=>exact q
 |exc c O'=>exact q
 | ok d O'=>
  intro v l G x c h;obtain⟨ν,rfl⟩:=x.pre;have b:qt j K H XV μ (match frz O' n 8 d,pM (pM (frz O' n 8)) (O'.take n) with|some d',KF O2=>.ok d' O2|_,_=>.bad) Q:=q;cases i:frz O' n 8 d with
  |none=>rw[i] at b;exact ah b
  | some d'=>
   cases f:pM (pM (frz O' n 8)) (O'.take n) with
   |none=>rw[i,f] at b;exact ah b
   | some O2=>
    rw[i,f] at b;have u:Ext H μ l μ:=⟨⟨[],by simp⟩,x.kept,λ_ m=>.inl m,x.there,x.tab⟩;have o:=c.len.symm;have w:nV K l XV μ O2:=by
     refine⟨?_,(fU.mp c.nd).1,λa m=>c.nh a (bN _ m),c.ht,λk a e=>?_⟩
     ·rw[KD f,bK,o,aB,g];lia
     ·have y:=(al.mp e).1;obtain⟨z,p,A,B,C⟩:=c.at_ k a (by rw[aG y];exact e);have s:k<O2.length:=by rw[KD f,bK,o,aB,g];lia
      obtain⟨E,t,F⟩:=RY f (aC s);have:E=z:=by
       rw[jk,qL 'o',A] at t;cases t;rfl
      subst this;exact⟨_,p,aC s,B,Eu (OP c g 8) _ _ p F C⟩
    exact b v l μ u w (OP c g 8 d d' v i h)
end
def Cm(F:pD):pD:=λds O=>xp O.length (F ds O)
def Callee.frz(c:Callee P w K mg base x k n F):Callee P w K mg base x k n (Cm F):=
 c.imp λd O H a e Q b q=>R8 b.len q
noncomputable def NC(sc scope:bS)(N':List au)(sl:l_):Bool:=
 (match scope.kind with|.function=>qb|_=>qj)&&decide ((scope.names.map (·.1)).Nodup)&&(scope.names.all λy=>!(y.2 == .free)||sc.names.lookup y.1==KF .cell||sc.names.lookup y.1==KF .free) &&
 (N'.zipIdx.all λp=>!((scope.names.any λy=>y.1==p.1&&y.2 == .local)||(scope.names.any λy=>y.1==p.1&&y.2 == .cell))||sl.contains p.2)
def GS(h:NC sc scope N' sl=qb):xJ sc scope N' sl:=by
 unfold NC at h;simp only[bi,decide_eq_true_eq,aH] at h;obtain⟨⟨⟨a,b⟩,c⟩,d⟩:=h;refine⟨?_,b,λy f g=>?_,λi x j k=>?_⟩
 ·cases e:scope.kind<;>rw[e] at a<;>first|rfl|cases a
 ·have:=c y f;rw[g] at this;simpa using this
 ·have l:(x,i)∈N'.zipIdx:=by
   rw[List.mem_zipIdx_iff_getElem?];exact j
  have h:=d _ l;have n:((scope.names.any λy=>y.1==x&&y.2 == .local)||(scope.names.any λy=>y.1==x&&y.2 == .cell))=qb:=by
   rw[gH];exact k.imp (λm=>er.mpr ⟨_,m,by simp⟩) λm=>er.mpr ⟨_,m,by simp⟩
  rw[n] at h;simpa using h
structure Jl(mg:au->Option ae)(x:au)(cs:l_):Prop where
 ex:∃t,mg x=KF (.str ⟨cs.toArray⟩ t)
section
variable{X:Cx}{Ex:Nat->Hp->Prop}{pos:Pos}{a b c e:aO}{ta:DE}{Y1:List (af×Obj)}{a_:St}{H:Hp}{s:ag}{XV μ:List af}{O:Ow}
def QN(h:Jl X.mg x cs)(d:Gl X x:=by rfl)(f:qP x:=by decide):PD X Ex (.Name x pos) (dC (.str cs)):=by obtain⟨t,h⟩:=h.ex;exact zdZ cs d h rfl f
def GJ(C C':String)(t:DE):DE:=λσ O=>(t σ O).bnd λd O1=>if (uM d == "function")=qb then .bad else .ok (.bl (xr (uM d) C||xr (uM d) C')) O1
def zd1:oh X (.builtin "isinstance") (λxs H Q=>∃x p C f XV μ O d,xs=[x,.ref p]/\rH X.K H p [.ty C,.ty f]/\C∈Dg/\f∈Dg/\nV X.K H XV μ O/\Y2 X.K H XV μ d x/\(uM d == "function")=qj/\Q (.bl (xr (uM d) C||xr (uM d) f)) H):=by
 intro Y1 s G H xs J Q I r h;obtain⟨x,L,C,f,XV,μ,O,d,rfl,l,m,g,o,t,v,q⟩:=h;obtain⟨u,M,rfl,w,y⟩:=A8 r;cases y;obtain⟨T,N,Z,p,z,i⟩:=TQ I o t w v;obtain⟨P,A,⟨⟨R,S,U,V⟩,B,j,n,k⟩,Y⟩:=I.tuple l;simp only at j k;subst j k;obtain⟨v1,v2,rfl,D,E⟩:=A8 A;cases D;cases E;refine wT I (PySem.W.kia_tup (b:=xr (uM d) C||xr (uM d) f) Z I.kIn p B ?_ z λF pP=>⟨.bl _,H,I.tok F,rfl,q⟩);unfold m9;rw[i _ m];cases xr (uM d) C with
 |true=>rfl
 | false=>
  dsimp only;unfold m9;rw[i _ g];cases xr (uM d) f<;>rfl
def YZ(j:PD X Ex a ta)(k:n∈Dg)(m:n'∈Dg)(o:Gl X "isinstance")(t:X.mg "isinstance" = KM)(u:bg "isinstance" = KF (.builtin "isinstance"))(w:Gl X C)(y:X.mg C=KM)(z:bg C=KF (.type n))
  (A:Gl X C') (B:X.mg C'=KM) (D:bg C'=KF (.type n')) (E:C ≠ "__name__":=by decide) (F:qP C:=by decide) (G:C' ≠ "__name__":=by decide) (I:(C'==("__debug__":au))=qj:=by decide)
  (h:aA [a,.Tuple [.Name C p',.Name C' zG] kt pt] X.env=(qj,eval a X.env)::aA [.Tuple [.Name C p',.Name C' zG] kt pt] X.env:=by rfl) (J:aA [.Tuple [.Name C p',.Name C' zG] kt pt] X.env=[(qj,eval (.Tuple [.Name C p',.Name C' zG] kt pt) X.env)]:=by rfl)
  (K:(backTo pos (aA [.Tuple [.Name C p',.Name C' zG] kt pt] X.env)).any (·.1)=qj:=by rfl) (L:aA [.Name C p',.Name C' zG] X.env=(qj,eval (.Name C p') X.env)::aA [.Name C' zG] X.env:=by rfl) (M:aA [.Name C' zG] X.env=[(qj,eval (.Name C' zG) X.env)]:=by rfl):
  PD X Ex (.Call (.Name "isinstance" p) [a,.Tuple [.Name C p',.Name C' zG] kt pt] [] pos) (GJ n n' ta):=
 rl (Ei (zd1 (X:=X)) o t u (xB j.out (xB (PZ (xB (G3 (v:=.ty n) w y z rfl E F) (xB (G3 (v:=.ty n') A B D rfl G I) Ba M) L)) Ba J) h) 's' 's' h K) λXV μ U O a_ H Q N P q=>rd.go N P q λd R v V S W x i r g=>by
  obtain⟨T,g⟩:=post.iteN g;exact⟨by show 2<=q9;decide,λl f=>⟨v,l,n,n',XV,S,R,d,rfl,.of qS,k,m,i.laid f,r.ext (.laid f),T,post.ok g (.laid f) (i.laid f) uj⟩⟩
def yp:Ow->D->D->R D:=λO x y=>match y with
 |.str _=>Gw O x y
 |_=>pA Ay O x y
def y7:Ow->D->D->R D:=λO x y=>match y with
 | .str _=>match Gw O x y with
  |.ok (.bl b) O1=>.ok (.bl (!b)) O1
  |_=>.bad
 |_=>pA Ci O x y
def Pk(d:X.A.units+64<cLine):qm X (cm .In) (λx y H Q=>zF X.K Ay x y H Q \/ ∃i j,x=.str i/\y=.str j/\Q (.bl (!(bQ j i 0 j.length 1).isEmpty)) H):=qm.or (Z8 d) zbT
def OV:r9 X Ex (λx y H Q=>zF X.K Ay x y H Q \/ ∃i j,x=.str i/\y=.str j/\Q (.bl (!(bQ j i 0 j.length 1).isEmpty)) H) yp:=by
 intro H XV μ O x y v w Q c d f q;unfold yp at q;split at q
 ·exact .inr (Zp H XV μ O _ _ v w Q c d f q)
 ·exact .inl (zp H XV μ O x y v w Q c d f q)
def QD(d:X.A.units+64<cLine):qm X (cm .NotIn) (λx y H Q=>zF X.K Ci x y H Q \/ ∃i j,x=.str i/\y=.str j/\Q (.bl (!(!(bQ j i 0 j.length 1).isEmpty))) H):=qm.or (zdX d) z6U
def QI:r9 X Ex (λx y H Q=>zF X.K Ci x y H Q \/ ∃i j,x=.str i/\y=.str j/\Q (.bl (!(!(bQ j i 0 j.length 1).isEmpty))) H) y7:=by
 intro H XV μ O x y v w Q c d f q;unfold y7 at q;split at q
 ·rename_i g;cases x with
  | str i=>
   unfold Y2 at d f;subst d;subst f;refine .inr ⟨_,_,rfl,rfl,post.here q c ?_⟩;have e:(⟨g.toArray⟩:au).length=g.length:=by show g.toArray.size=_;simp
   rw[e];exact uj
  |_=>exact ah q
 ·exact .inl (zp H XV μ O x y v w Q c d f q)
end
section
variable{X:Cx}{Y1:List (af×Obj)}{a_:St}{H:Hp}{s:ag}
def Inv.turns(ch:List af)(I:L2.Inv X Y1 a_ H s)(k:∀b o,b∉ch->s.heap.get? b=KF o->h'.get? b=KF o)(d:∀b∈ch,rS X Y1 H b)(j:0<t':=by first|assumption|exact Inv.tk ‹_›):L2.Inv X Y1 a_ H { s with heap:=h',toks:=t' }:=by
 have f:∀b u,H b=KF u->b∉ch:=λb u e z=>by rw[(d b z).1] at e;cases e
 have g:Un (qN X.stack) ch H H s.heap h':=⟨λb o e _ _ n=>k b o n e,λb o e _ _ n=>⟨o.slots,k b o n e⟩,λ_ _ _ n _=>n,λb o e n=>⟨o,k b o n e⟩,λ_ _ e=>e,λ_ _ _ e=>e,λb l e=>⟨#[],by rw[e];simp⟩⟩;have a:HOk X.prog X.w H h':=λb u e=>(I.hok b u e).stay (λc v h q=>k c v (by
  rcases h with z|z
  ·rw[z];exact f b u e
  ·exact f c _ z) q) (λ_ q=>q) λ_ _ q=>q
 exact I.call g a I.bare λb i=>let ⟨_,f1,_,f3,f4,f5⟩:=d b i;⟨f3,f1,f4,f5⟩
end
def Itz(K:ai)(l m:af):It:=
 ⟨λi H=>∃xs ys x y,qr K H l xs/\qr K H m ys/\xs[i]?=KF x/\ys[i]?=KF y,
   λi H v H'=>∃p x y,H p=KM/\v=.ref p/\(∀xs,qr K H l xs->xs[i]?=KF x)/\(∀ys,qr K H m ys->ys[i]?=KF y)/\H'=upd H p (.tup [x,y]),
   λi H=>∃xs ys,qr K H l xs/\qr K H m ys/\(xs.length<=i\/ys.length<=i)⟩
def oE(K:ai)(src:Src)(a:af)(H:Hp)(XV μ:List af):Prop:=∀hid' H' c_ O',Mv H XV μ H' hid' c_->nV K H' hid' c_ O'->∃ds vs,qr K H' a vs/\nW K H' hid' c_ ds vs/\∀i,src.get O' i=ds[i]?
section
variable{K:ai}{H:Hp}{XV μ:List af}
def oE.val(l:LstAt K H XV μ a vs)(q:nW K H XV μ ds vs):oE K (.val ds) a H XV μ:=λb d e f m c=>⟨ds,vs,(l.mv m).sq,q.mv m,λ_=>rfl⟩
def oE.own(d:μ[k]?=KF a):oE K (.own k) a H XV μ:=by
 intro e p q f m c;obtain⟨g,rfl⟩:=m.pre;have h:(μ++g)[k]?=KF a:=by rw[aG (al.mp d).1];exact d
 obtain⟨b,j,l,n,o⟩:=c.at_ k a h;exact⟨b,j,.of n,o,λi=>by show(match f[k]? with|some b=>b[i]?|none=>KM)=_;rw[l]⟩
def oE.mv(h:oE K src a H XV μ)(e:Mv H XV μ H1 xl e_):oE K src a H1 xl e_:=λb d f g m c=>h b d f g (e.trans m) c
def n8.zip(E:oE K s1 a H XV μ)(F:oE K s2 b H XV μ):n8 K (Itz K a b) (.zip s1 s2) H XV μ:=by
 intro e n o f m c i;obtain⟨G,g,h,q,I⟩:=E e n o f m c;obtain⟨J,j,k,r,L⟩:=F e n o f m c;show match (match s1.get f i,s2.get f i with|some x,KF y=>KF (D.tup [x,y])|_,_=>KM) with|some d=>_|none=>_
 rw[I,L];cases s:G[i]? with
 | none=>
  exact⟨g,j,h,k,.inl (by rw[<- q.length];exact ba.mp s)⟩
 | some x=>
  cases t:J[i]? with
  | none=>
   exact⟨g,j,h,k,.inr (by rw[<- r.length];exact ba.mp t)⟩
  | some y=>
   obtain⟨v,u,M⟩:=q.get s;obtain⟨w,A,N⟩:=r.get t;refine⟨⟨g,j,v,w,h,k,u,A⟩,λz R O=>?_⟩;obtain⟨p,S,T,l,rfl,P,Q,rfl⟩:=O;have B:=P g h;rw[u] at B;cases B;have C:=Q j k;rw[A] at C;cases C;exact⟨.laid l,c.laid l,Y2.newT c l (.cons M (.cons N .nil))⟩
end
noncomputable def Om:D->Option Src
 |.lst ds=>KF (.val ds)
 |.own k=>KF (.own k)
 |_=>KM
def zmH(t:DA):DI:=λσ O=>(t σ O).bnd λxs O1=>match xs with
 | [x,y]=>match Om x,Om y with
  |some p,KF q=>.ok (.zip p q) O1
  |_,_=>.bad
 |_=>.bad
section
variable{X:Cx}{Ex:Nat->Hp->Prop}{c e:aO}{Y1:List (af×Obj)}{H:Hp}{s:ag}{XV μ:List af}{O:Ow}
def zdW:bg "zip" = KF (.type "zip"):=by boot_by_name
def Pw{i j:Nat}{x y:au}{d f g:Pos}{h:Nat}(k:X.calm=qb)(b:X.N.Nodup)(l:X.N[i]?=KF x)(m:X.N[j]?=KF y)(n:Loc X.env.scope x)(o:Loc X.env.scope y)
  (p:X.fn x=qb\/X.env.scope.names.lookup x=KF .local) (a:X.fn y=qb\/X.env.scope.names.lookup y=KF .local):PG X (.Tuple [.Name x d,.Name y f] h g) ((Tg.two i j).rd X.K):=
 Yc k (Sh (Hd b l n p) (Sh (Hd b m o a) zg0))
def xw:List D->Option (List Int)
 |[]=>KF []
 |.int i::r=>(xw r).map (i :: ·)
 |_=>KM
theorem J8:∀{ds:List D}{vs:List V}{ns:List Int},nW K H XV μ ds vs->xw ds=KF ns->vs=ns.map V.int
 |[],vs,ys,h,e=>by unfold nW at h;subst h;cases e;rfl
 | d::ds,vs,ys,h,e=>by
  obtain⟨v,r,rfl,a,b⟩:=h;cases d with
  | int i=>
   unfold xw at e;cases q:xw ds with
   |none=>rw[q] at e;cases e
   | some zs=>
    rw[q] at e;cases e;unfold Y2 at a;subst a;rw[J8 b q];rfl
  |_=>cases e
def A2:Ow->List D->R D:=λO xs=>match xs with
 | [.str cs]=>match kH ⟨cs.toArray⟩ with
  |some n=>if cs.length<=640 then .ok (.int n) O else .bad
  |none=>.bad
 |xs=>Ju O xs
def zaI:oh X (.type "int") (λxs H Q=>∃x n,xs=[.str x]/\kH x=KF n/\x.length<=640/\Q (.int n) H):=by intro Y1 s d H xs f Q I r h;obtain⟨x,n,rfl,a,b,q⟩:=h;obtain⟨u,rfl,t,rfl⟩:=uy r;exact PySem.W.KIN.call_text a b ⟨.int _,H,I.tok _,⟨_,rfl⟩,q⟩
noncomputable def Oe:List V->Hp->VK->Prop:=λxs H Q=>((∃i,xs=[.int i]/\Q (.int i) H) \/ ∃k,xs=[.bl k]/\Q (.int (if k then 1 else 0)) H) \/ ∃x n,xs=[.str x]/\kH x=KF n/\x.length<=640/\Q (.int n) H
def zcl:oh X (.type "int") Oe:=oh.or zcO zaI
def Y3:uA X Ex Oe A2:=by
 intro H XV μ O i b Q c d q;unfold A2 at q;split at q
 ·rename_i f;obtain⟨v,rfl,a⟩:=tO d;unfold Y2 at a;subst a;split at q
  ·rename_i n g;obtain⟨h,q⟩:=post.ite q;refine .inr ⟨_,n,rfl,g,?_,post.here q c sv⟩;show f.toArray.size<=640;simpa using h
  ·exact ah q
 ·exact .inl (XF H XV μ O _ b Q c d q)
end
def Callee.self(c:Callee P w K mg base x k n F):Callee P w K mg base x k n F:=c
section
variable{X:Cx}{Ex:Nat->Hp->Prop}{pos F2:Pos}{e o i:aO}{ti:DE}{Y1:List (af×Obj)}{a_:St}{H:Hp}{s:ag}{XV μ:List af}{O:Ow}
def Rc:tX X Ex (.Pass pos) rT:=yG Zk λXV μ c O E a_ H a b q=>q a_ H μ .refl a b
def AW(tab:List (Int×Int)):List (Key×V):=tab.map λkv=>(gz kv.1,V.int kv.2)
noncomputable def tY(tab:List (Int×Int))(i:Int):Option Int:=(tab.find? λkv=>kv.1==i).map (·.2)
def DH(tab:List (Int×Int))(i:Int):Option Int:=match tw (zt [] (AW tab)) (gz i) with
 |some (.int v)=>KF v
 |_=>KM
def N9(at_:List (Int×Int)->Int->Option Int)(tab:List (Int×Int))(t:DE):DE:=λσ O=>(t σ O).bnd λx O1=>match x with
 | .int i=>match at_ tab i with
  |some v=>.ok (.int v) O1
  |none=>.bad
 |_=>.bad
def Gp:List (Int×Int)->DE->DE:=N9 DH
def Gg:List (Int×Int)->DE->DE:=N9 tY
theorem T5:∀{tab:List (Int×Int)},Q (tab.map λkv=>(V.int kv.1,V.int kv.2)) H->D0 (tab.map λkv=>(tC (.int kv.1),tC (.int kv.2))) σ H Q
 |[],h=>h
 | kv::r,h=>by
  show D0 (r.map λkv=>(tC (.int kv.1),tC (.int kv.2))) σ H λa b=>Q ((V.int kv.1,V.int kv.2)::a) b;exact T5 (tab:=r) h
def Yp(tab:List (Int×Int))(h:F8 X F2 keys values zE)(c:zE=tab.map λkv=>(tC (.int kv.1),tC (.int kv.2)))(l:keys.all (·.isSome)=qb)(m:keys.length=values.length)(h0:keys≠[])(n:keys.length<=15)(t:tab.length<=15)
  (u:X.A.units+1<cLine) (x:PD X Ex i ti) (y:B9 i):PD X Ex (.Subscript (.Dict keys values F2) i pos) (Gp tab ti):=
 rl (Y5 u (Z_ h l m h0 n) x.out y) λXV μ J O a_ H Q z g q=>λp f=>by
  subst c;refine T5 ⟨qS,AW tab,by simp[AW,kV],by simpa [AW] using t,?_⟩;rw[Y9];have k:Ext H μ (upd H p (.dK (zt [] (AW tab)))) μ:=.laid f;refine rd.go (z.ext k) (g.laid f) (post.ext q k) λd B v C D L E F r a=>?_;cases d with
  | int j=>
   unfold Y2 at r;subst r;have a:qt Ex X.K C XV D (match DH tab j with|some v=>.ok (.int v) B|none=>.bad) Q:=a;cases b:DH tab j with
   |none=>rw[b] at a;exact ah a
   | some v=>
    rw[b] at a;have G:tw (zt [] (AW tab)) (gz j)=KF (.int v):=by
     unfold DH at b;split at b
     ·rename_i w I;cases b;exact I
     ·cases b
    refine⟨p,.int v,rfl,.inl ⟨zt [] (AW tab),gz j,.inl (E.keep p _ qS (g.not_in f).2),rfl,G.symm⟩,post.here a F sv⟩
  |_=>exact ah a
noncomputable def Gr:List DictEntry->List (Int×Int)->Bool
 |[],[]=>qb
 |e::es,(k,v)::r=>(match e.key with|.int i _=>i==k|_=>qj)&&(e.hash==hashInt k)&&(match e.val with|.int i _=>i==v|_=>qj)&&Gr es r
 |_,_=>qj
def Gf(o:Obj)(tab:List (Int×Int)):Bool:=(match o.cls with|.type n=>n == "dict"|_=>qj)&&o.dict.isNone&&o.slots.isEmpty&&decide ((tab.map (·.1)).Nodup)&&(match o.data with|.dict es _=>Gr es.toList tab|_=>qj)
structure AK(K:ai)(mg:au->Option ae)(x:au)(tab:List (Int×Int)):Prop where
 ex:∃e o,mg x=KF (.ref e)/\K.lookup e=KF o/\Gf o tab=qb/\(e==sysModules)=qj
theorem Tx:∀{f:List DictEntry}{tab:List (Int×Int)},Gr f tab=qb->∃a:List (Int×ae),Pairs (intKind P w) f a/\(∀e∈f,∃k,(intKind P w).is k e.key=qb/\e.hash=(intKind P w).hash k)/\a.map (·.1)=tab.map (·.1)/\
  ∀i,(valueAt a i).isSome=(tY tab i).isSome/\∀v,tY tab i=KF v->∃t,valueAt a i=KF (.int v t)
 |[],[],_=>⟨[],.nil,by simp,rfl,λi=>⟨rfl,λv h=>by cases h⟩⟩
 |[],_::_,h=>by cases h
 |_::_,[],h=>by cases h
 | e::f,(k,v)::r,h=>by
  obtain⟨b,key,x⟩:=e;unfold Gr at h;simp at h;obtain⟨⟨⟨c,g⟩,d⟩,y⟩:=h;split at c
  ·rename_i i t;split at d
   ·rename_i j u;have c:i=k:=⇑c
    have g:b=hashInt k:=⇑g
    have d:j=v:=⇑d
    subst c d;obtain⟨a,p,z,A,l⟩:=Tx y;have n:(intKind P w).is i (.int i t)=qb:=by show h9 i (.int i t)=qb;simp[h9]
    refine⟨(i,.int j u)::a,.cons n rfl p,λe he=>?_,by simp[A],λq=>?_⟩
    ·rcases aq.mp he with rfl|he
     ·exact⟨i,n,g⟩
     ·exact z e he
    ·unfold valueAt tY;by_cases m:i=q
     ·subst m;simp
     ·have B:(decide ((i,ny j u).1=q))=qj:=⇑m
      have C:((i,j).1==q)=qj:=⇑m
      rw[eD,eD,B,C];exact l q
   ·cases d
  ·cases c
def zdm{P:aD}{w:aR}{o:Obj}{tab:List (Int×Int)}(h:Gf o tab=qb):∃f:Int->Option ae,(∀(b:aL)(e:af),b.get? e=KF o->b.MapOf (intKind P w) e f)/\∀i,(f i).isSome=(tY tab i).isSome/\∀v,tY tab i=KF v->∃t,f i=KF (.int v t):=by
 obtain⟨m,k,l,c⟩:=o;unfold Gf at h;simp at h;obtain⟨⟨⟨⟨a,q⟩,r⟩,u⟩,d⟩:=h;split at a
 ·rename_i n;have a:n = "dict":=⇑a
  split at d
  ·rename_i x y;obtain⟨z,p,A,B,g⟩:=Tx d;refine⟨valueAt z,λb e j=>?_,g⟩;refine Heap.DictOf.mapOf ⟨_,x,y,j,⟨?_,?_,?_⟩,rfl,?_,p,by rw[B];exact u⟩
   ·show cI n=_;rw[a]
   ·simpa using q
   ·simpa using r
   ·intro e j;exact A e ⇑j
  ·cases d
 ·cases a
def Qw(h:AK X.K X.mg x tab):∃e,X.mg x=KF (.ref e)/\(e==sysModules)=qj/\∃f:Int->Option ae,(∀(Y1:List (af×Obj))(a_:St)(H:Hp)(s:ag),L2.Inv X Y1 a_ H s->s.heap.MapOf (intKind X.prog X.w) e f)/\
  ∀i,(f i).isSome=(tY tab i).isSome/\∀v,tY tab i=KF v->∃t,f i=KF (.int v t):=by obtain⟨e,o,b,c,d,g⟩:=h.ex;obtain⟨f,m,a⟩:=zdm d;exact⟨e,b,g,f,λY1 a_ H s I=>m _ e (I.kIn e o c),a⟩
def La(i:Int)(t:Tok):(intKind P w).is i (.int i t)=qb:=by show h9 i (.int i t)=qb;simp[h9]
def ZA(h:AK X.K X.mg x tab)(B:Gl X x)(C:PD X Ex i ti)(D:B9 i)(E:qP x:=by decide):PD X Ex (.Subscript (.Name x p) i pos) (Gg tab ti):=by
 obtain⟨e,F,V,f,G,k⟩:=Qw h;refine⟨?_⟩;rintro Y1 s a_ H Q I ⟨XV,μ,W,O,J,L,q⟩;refine Kb gG.lookup D (Hf (v:=.ref e) B F rfl E Y1 s a_ H (λv l=>v=.ref e/\l=H) I ⟨rfl,rfl⟩ |> λz=>o_ z λu N ⟨v,l,P,m,R,S⟩=>?_);subst R S;cases m;refine o_ (C.out Y1 N a_ l _ P (rd.go J L q (Q1:=λy b=>∃XV c g d,nV X.K b XV c g/\Y2 X.K b XV c d y/\qt Ex X.K b XV c (match d with|.int i=>(match tY tab i with|some v=>.ok (.int v) g|none=>.bad)|_=>.bad) Q)
  λd g y b c Y Z n r a=>⟨XV,c,g,d,n,r,a⟩)) λu T ⟨y,b,A,m,XV,c,g,d,n,r,a⟩=>?_
 have M:=G Y1 a_ b T A;cases d with
 | int j=>
  unfold Y2 at r;subst r;obtain⟨t,rfl⟩:=m;have a:qt Ex X.K b XV c (match tY tab j with|some v=>.ok (.int v) g|none=>.bad) Q:=a;cases w:tY tab j with
  |none=>rw[w] at a;exact ah a
  | some v=>
   rw[w] at a;obtain⟨t',U⟩:=(k j).2 v w;exact⟨M.typeIs,jN (La j t) M U ⟨.int v,b,A.tok _,⟨_,rfl⟩,post.here a n sv⟩⟩
 |_=>exact ah a
def CF(neg:Bool)(tab:List (Int×Int))(t:DE):DE:=λσ O=>(t σ O).bnd λx O1=>match x with
 |.int i=>.ok (.bl (if neg=qb then !(tY tab i).isSome else (tY tab i).isSome)) O1
 |_=>.bad
def RZ(a:Bool)(h:AK X.K X.mg x tab)(B:Gl X x)(C:PD X Ex i ti)(D:qP x:=by decide):PC X (if a=qb then .NotIn else .In) i (.Name x p) (rd Ex X.K (CF a tab ti)):=by
 obtain⟨e,E,A,f,F,n⟩:=Qw h;rintro Y1 s a_ H Q I ⟨XV,μ,W,O,G,J,q⟩;refine o_ (C.out Y1 s a_ H _ I (rd.go G J q (Q1:=λy c=>∃XV g k d,nV X.K c XV g k/\Y2 X.K c XV g d y/\qt Ex X.K c XV g (match d with|.int i=>.ok (.bl (if a=qb then !(tY tab i).isSome else (tY tab i).isSome)) k|_=>.bad) Q)
  λd k y c g Y Z l r b=>⟨XV,g,k,d,l,r,b⟩)) λu L ⟨y,c,N,P,XV,g,k,d,l,r,b⟩=>?_
 refine o_ (Hf (v:=.ref e) B E rfl D Y1 L a_ c (λv R=>v=.ref e/\R=c) N ⟨rfl,rfl⟩) λw S ⟨v,m,z,T,U,V⟩=>?_;subst U V;cases T;have M:=F Y1 a_ m S z;cases d with
 | int j=>
  unfold Y2 at r;subst r;obtain⟨t,rfl⟩:=P;have b:qt Ex X.K m XV g (.ok (.bl (if a=qb then !(tY tab j).isSome else (tY tab j).isSome)) k) Q:=b;rw[<- (n j).1] at b;cases a with
  |false=>exact wpAny_in_of (La j t) A M ⟨.bl _,m,z.tok _,rfl,post.here b l uj⟩
  |true=>exact wpAny_notIn_of (La j t) A M ⟨.bl _,m,z.tok _,rfl,post.here b l uj⟩
 |_=>exact ah b
def zaZ(h:AK X.K X.mg x tab)(a:Gl X x)(b:PD X Ex i ti)(c:qP x:=by decide)(d:behindInMarks .NotIn (.Name x p)=qj:=by rfl):PD X Ex (.Compare i [.NotIn] [.Name x p] pos) (CF qb tab ti):=⟨XN (RZ qb h a b c) d⟩
def WN(a:nX X.K H XV μ σ a_)(b:nV X.K H XV μ O)(q:xv Ex X.K H XV μ (pV td σ O) Q):tB (rd Ex X.K td) a_ H Q:=
 Si (λXV μ σ O a_ H Q a b q=>⟨XV,μ,σ,O,a,b,q⟩) XV μ σ O a_ H Q a b q
def z9U(h:AK X.K X.mg x tab)(a:Gl X x)(b:PD X Ex i ti)(c:qP x:=by decide)(d:behindInMarks .NotIn (.Name x p)=qj:=by rfl):qQ X Ex (.Compare i [.NotIn] [.Name x p] pos) (pV (CF qb tab ti)):=
 G0 (XJ (RZ qb h a b c) d) λXV μ j O a_ H Q f g q=>WN f g q
end
end DL
namespace DL
open PySem L2 PyProof.Rows
noncomputable def ux:List D->Option j_
 |[]=>KF []
 |.str cs::r=>(ux r).map (cs :: ·)
 |_=>KM
section
variable{H:Hp}{XV μ:List af}
theorem Hg{K:ai}:∀{ds:List D}{vs:List V}{a:j_},nW K H XV μ ds vs->ux ds=KF a->vs=a.map λcs=>V.str ⟨cs.toArray⟩
 |[],vs,ys,h,e=>by unfold nW at h;subst h;cases e;rfl
 | d::ds,vs,ys,h,e=>by
  unfold nW at h;obtain⟨v,r,rfl,b,c⟩:=h;cases d with
  | str cs=>
   unfold ux at e;cases q:ux ds with
   |none=>rw[q] at e;cases e
   | some zs=>
    rw[q] at e;cases e;unfold Y2 at b;subst b;rw[Hg c q];rfl
  |_=>cases e
def OO:bg "len" = KF (.builtin "len"):=by boot_by_name
def Xl:bg "all" = KF (.builtin "all"):=by boot_by_name
def XC:bg "any" = KF (.builtin "any"):=by boot_by_name
def Px:bg "int" = KF (.type "int"):=by boot_by_name
def X4:bg "str" = KF (.type "str"):=by boot_by_name
def Kz:bg "tuple" = KF (.type "tuple"):=by boot_by_name
def QJ:bg "list" = KF (.type "list"):=by boot_by_name
def Yz:bg "max" = KF (.builtin "max"):=by boot_by_name
def JV:bg "min" = KF (.builtin "min"):=by boot_by_name
def KU:bg "sorted" = KF (.builtin "sorted"):=by boot_by_name
def Bn:bg "isinstance" = KF (.builtin "isinstance"):=by boot_by_name
def Y7:bg "bool" = KF (.type "bool"):=by boot_by_name
def Za:bg "dict" = KF (.type "dict"):=by boot_by_name
end
end DL
namespace DL
def Z0{α:Type}(a ds:List α)(d:α):(a++d::ds)[a.length]?=KF d:=by simp
theorem Td:∀(ds b a:List D)(f:Nat),ds.length<=f->(∀d∈ds,∀a:List D,a.length<4000000->step d O a=.ok (a++g d) O)->a.length+(ds.flatMap g).length+ds.length<4000000->
  qy (.val (b++ds)) step f b.length O a=.ok (a++ds.flatMap g) O
 | [],b,a,f,_,_,_=>by
  cases f<;>(unfold qy;simp[Src.get])
 |d::ds,b,a,0,h,_,_=>by simp at h
 | d::ds,b,a,f+1,h,hs,hl=>by
  unfold qy;have e:Src.get (.val (b++d::ds)) O b.length=KF d:=Z0 b ds d;rw[e];simp only[fV,aB,a7] at hl;show((step d O a).bnd λc i=>qy (.val (b++d::ds)) step f (b.length+1) i c)=_;rw[hs d am a 'o'];show qy (.val (b++d::ds)) step f (b.length+1) O (a++g d)=_;have:=Td ds (b++[d]) (a++g d) f ⇑h (λj k=>hs j (ak _ k)) (by rw[aB];lia);rw[bh,List.singleton_append,aB,e9] at this;rw[this];simp
def zjL(n:it0 σ O=.ok (.val ds) O)(u:ds.length<1900000)
  (q:∀d∈ds,uw ts ((qe (qe (σ++aM ext KM) [i]) [i]).set i (KF d)) O=.ok (p d) O) (r:∀d∈ds,p d=qb->te ((qe (qe (σ++aM ext KM) [i]) [i]).set i (KF d)) O=.ok (e d) O) (o:Bool):
  pK o ext it0 (.one i) ts [] te σ O=vU o (.ok ((ds.filter p).map e) O):=by
 unfold pK Bi;rw[n];show vU o (yP (qy (.val ds) _ ds.length 0 O []))=_;have c:∀d∈ds,∀a:List D,a.length<4000000->Ad ⟨it0,.one i,ts⟩ [] te (qe (σ++aM ext KM) (p9 [⟨it0,.one i,ts⟩])) d O a=.ok (a++(if p d=qb then [e d] else [])) O:=by
  intro d j a s;show(match Tg.put (.one i) d (qe (qe (σ++aM ext KM) [i]) [i]) with|some qf=>(uw ts qf O).bnd λb k=>if b=qb then vX [] te qf k a else .ok a k|none=>.bad)=_;show(uw ts ((qe (qe (σ++aM ext KM) [i]) [i]).set i (KF d)) O).bnd _=_;rw[q d j];show(if p d=qb then vX [] te _ O a else .ok a O)=_;by_cases f:p d=qb
  ·rw[qL f,qL f];unfold vX;rw[r d j f];show(if a.length<4000000 then _ else _)=_;rw[qL s]
  ·rw[q0 f,q0 f];simp
 have m:∀l:List D,(l.flatMap λd=>if p d=qb then [e d] else [])=(l.filter p).map e:=by
  intro l
  induction l with
  |nil=>rfl
  | cons x l ih=>
   rw[fV,ih,eM];by_cases h:p x=qb
   ·rw[qL h,qL h];rfl
   ·rw[q0 h,q0 h];rfl
 have g:((ds.filter p).map e).length<=ds.length:=by rw[ax];exact bo _ _
 have w:=Td ds [] [] ds.length (aE _) c (by rw[m];simp at g ⊢;lia);rw[gJ,m,gJ] at w;have t:qy (.val ds) (Ad ⟨it0,.one i,ts⟩ [] te (qe (σ++aM ext KM) (p9 [⟨it0,.one i,ts⟩]))) ds.length 0 O []=.ok ((ds.filter p).map e) O:=w;rw[t];rfl
theorem Ti(I:Nat->Sg->Ow->Prop)(h:∀i σ O d,I i σ O->ds[i]?=KF d->∃σ' a,step d σ O=.nx σ' a/\I (i+1) σ' a):
  ∀(f i:Nat)(σ:Sg)(O:Ow),I i σ O->ds.length<=i+f->i<=ds.length->∃σ' a,vY (.val ds) step f i σ O=.nx σ' a/\I ds.length σ' a
 | 0,i,σ,O,hI,h1,h2=>by
  have:i=ds.length:=by lia
  subst this;refine⟨σ,O,?_,hI⟩;unfold vY;have e:Src.get (.val ds) O ds.length=KM:=by simp[Src.get]
  rw[e]
 | f+1,i,σ,O,hI,h1,h2=>by
  unfold vY;have b:Src.get (.val ds) O i=ds[i]?:=rfl;rw[b];cases e:ds[i]? with
  | none=>
   have:i=ds.length:=by have:=ba.mp e;lia
   subst this;exact⟨σ,O,rfl,hI⟩
  | some d=>
   obtain⟨σ',a,c,g⟩:=h i σ O d hI e;dsimp only;rw[c];exact Ti I h f (i+1) σ' a g 'o' (by have:=(al.mp e).1;lia)
theorem SW(I:Nat->Ow->List D->Prop)(h:∀i O a d,I i O a->ds[i]?=KF d->∃b c,step d O a=.ok b c/\I (i+1) c b):
  ∀(f i:Nat)(O:Ow)(a:List D),I i O a->ds.length<=i+f->i<=ds.length->∃b c,qy (.val ds) step f i O a=.ok b c/\I ds.length c b
 | 0,i,O,a,hI,h1,h2=>by
  have:i=ds.length:=by lia
  subst this;refine⟨a,O,?_,hI⟩;unfold qy;have e:Src.get (.val ds) O ds.length=KM:=by simp[Src.get]
  rw[e]
 | f+1,i,O,a,hI,h1,h2=>by
  unfold qy;have g:Src.get (.val ds) O i=ds[i]?:=rfl;rw[g];cases e:ds[i]? with
  | none=>
   have:i=ds.length:=by have:=ba.mp e;lia
   subst this;exact⟨a,O,rfl,hI⟩
  | some d=>
   obtain⟨b,c,j,k⟩:=h i O a d hI e;dsimp only;rw[j];exact SW I h f (i+1) c b k 'o' (by have:=(al.mp e).1;lia)
theorem CK{α:Type}{f:α->Option α}:∀{l:List α},(∀x∈l,f x=KF x)->pM f l=KF l
 |[],_=>rfl
 | x::l,h=>by
  unfold pM;rw[h x am,CK λy a=>h y (ak _ a)]
section
variable{σ σ':Sg}{O O1 O2:Ow}{t u ta tb:DE}{tA:DA}{x y:D}{b:Bool}{ds:List D}
def pB(h:t σ O=.ok x O1):b_ t f_ σ O=.ok [x] O1:=by show((t σ O).bnd _)=_;rw[h];rfl
def qT(a:t σ O=.ok x O1)(c:u σ O1=.ok y O2):b_ t (b_ u f_) σ O=.ok [x,y] O2:=by show((t σ O).bnd _)=_;rw[a];show((b_ u f_ σ O1).bnd _)=_;rw[pB c];rfl
def Hv(a:t σ O=.ok x O1)(c:tA σ O1=.ok ds O2):b_ t tA σ O=.ok (x::ds) O2:=by show((t σ O).bnd _)=_;rw[a];show((tA σ O1).bnd _)=_;rw[c];rfl
def DZ(h:tA σ O=.ok ds O1)(a:ds.length=n):o6 n F tA σ O=F ds O1:=by show((tA σ O).bnd _)=_;rw[h];show(if ds.length=n then _ else _)=_;rw[qL a]
def zen(h:tA σ O=.ok ds O1):pf f tA σ O=f O1 ds:=by show((tA σ O).bnd _)=_;rw[h];rfl
def OY(a:ta σ O=.ok x O1)(c:tb σ O1=.ok y O2):h_ f ta tb σ O=f O2 x y:=by show((ta σ O).bnd _)=_;rw[a];show((tb σ O1).bnd _)=_;rw[c];rfl
def tP(h:t σ O=.ok (.bl b) O1):pV t σ O=.ok b O1:=by show((t σ O).bnd _)=_;rw[h];rfl
def yJ(h:t σ O=.ok (.bl b) O1):sN t σ O=.ok b O1:=by show((t σ O).bnd _)=_;rw[h];rfl
def Al(h:c σ O=.ok b O1):xU c σ O=.ok (!b) O1:=by show((c σ O).bnd _)=_;rw[h];rfl
def tJ(h:t σ O=.ok (.lst ds) O1):pY t σ O=.ok (.val ds) O1:=by show((t σ O).bnd _)=_;rw[h];rfl
def Kj(h:t σ O=.ok (.tup ds) O1):pY t σ O=.ok (.val ds) O1:=by show((t σ O).bnd _)=_;rw[h];rfl
def G6(h:t σ O=.ok x O1):pS i t σ O=.nx (σ.set i (KF x)) O1:=by show((t σ O).bnS _)=_;rw[h];rfl
def uE(h:t σ O=.ok x O1):pL t σ O=.rt x O1:=by show((t σ O).bnS _)=_;rw[h];rfl
def Rp(h:t σ O=.ok x O1):yE t σ O=.nx σ O1:=by show((t σ O).bnS _)=_;rw[h];rfl
def yF(h:c σ O=.ok b O1):rX c a d σ O=if b=qb then a σ O1 else d σ O1:=by show((c σ O).bnS _)=_;rw[h];rfl
def G8(h:a σ O=.nx σ' O1):pd a d σ O=d σ' O1:=by show(match a σ O with|.nx σ' O'=>_|r=>r)=_;rw[h]
def Zy(h:a σ O=.rt x O1):pd a d σ O=.rt x O1:=by show(match a σ O with|.nx σ' O'=>_|r=>r)=_;rw[h]
def Z7(h:it σ O=.ok src O1):uL it g body σ O=vY src (λd σ O=>match g.put d σ with|some σ'=>body σ' O|none=>.bad) (src.size O1) 0 σ O1:=by show((it σ O).bnS _)=_;rw[h];rfl
def zx(h:tA σ O=.ok [.int (n:Nat)] O1)(c:n<100000):rU tA σ O=.ok (.val ((a9 n).map λ(i:Nat)=>D.int (i:Int))) O1:=by
 have a:-1000000<=((n:Nat):Int)/\((n:Nat):Int)<=1000000:=by constructor<;>lia
 unfold rU;rw[h];dsimp only[R.bnd];rw[qL a];unfold P4;have d:(((n:Nat):Int)-0).toNat=n:=by lia
 congr 2;refine lC λi _=>?_;rw[Int.zero_add]
def KH(h:cs.length<=4000000):qB O [.str cs]=.ok (.int cs.length) O:=by show(if cs.length<=4000000 then R.ok (D.int cs.length) O else R.bad)=_;rw[qL h]
def zfQ{cs:l_}{i:Nat}(h:cs.length<=4000000)(a:i<cs.length):pX O (.str cs) (.int (i:Int))=.ok (.str [cs[i]]) O:=by show(if cs.length<=4000000 then (match L2.atI cs (i:Int) with|some ch=>R.ok (D.str [ch]) O|none=>R.bad) else R.bad)=_;rw[qL h,L2.atI_nat (aC a)]
def zfX(a:i<ds.length):pX O (.tup ds) (.int (i:Int))=.ok ds[i] O:=by show(match L2.atI ds (i:Int) with|some d=>R.ok d O|none=>R.bad)=_;rw[L2.atI_nat (aC a)]
def zu(a:i<ds.length):pX O (.lst ds) (.int (i:Int))=.ok ds[i] O:=by show(match L2.atI ds (i:Int) with|some d=>R.ok d O|none=>R.bad)=_;rw[L2.atI_nat (aC a)]
end
theorem RK{α:Type}{src:Src}{step:D->Ow->List D->R (List D)}{O:Ow}{inj:α->D}{g:α->List D}{all:List α}(j:∀i,src.get O i=(all.map inj)[i]?):∀(ds c:List α)(b:List D)(f:Nat),all=c++ds->ds.length<=f->
  (∀a∈ds,∀b:List D,b.length<4000000->step (inj a) O b=.ok (b++g a) O)->b.length+(ds.flatMap g).length+ds.length<4000000->qy src step f c.length O b=.ok (b++ds.flatMap g) O
 | [],c,b,f,ha,_,_,_=>by
  have e:src.get O c.length=KM:=by rw[j,ha];simp
  cases f<;>(unfold qy;rw[e];simp)
 |d::ds,c,b,0,_,h,_,_=>by simp at h
 | d::ds,c,b,f+1,ha,h,hs,hl=>by
  unfold qy;have e:src.get O c.length=KF (inj d):=by rw[j,ha];simp
  rw[e];simp only[fV,aB,a7] at hl;show((step (inj d) O b).bnd λk l=>qy src step f (c.length+1) l k)=_;rw[hs d am b 'o'];show qy src step f (c.length+1) O (b++g d)=_;have:=RK j ds (c++[d]) (b++g d) f (by rw[ha];simp) ⇑h (λm n=>hs m (ak _ n)) (by rw[aB];lia);rw[aB,e9] at this;rw[this];simp
theorem K6{α β:Type}(p:α->Bool)(e:α->β):∀l:List α,(l.flatMap λd=>if p d=qb then [e d] else [])=(l.filter p).map e
 |[]=>rfl
 | x::l=>by
  rw[fV,K6 p e l,eM];by_cases a:p x=qb
  ·rw[qL a,qL a];rfl
  ·rw[q0 a,q0 a];rfl
def CV{α:Type}{ext:Nat}{it0:DI}{g:Tg}{ts:List DT}{te:DE}{σ:Sg}{O O0:Ow}{src:Src}{l:List α}{inj:α->D}{p:α->Bool}{e:α->D}{τ:α->Sg}{o:Bool}(m:it0 σ O0=.ok src O)(n:∀i,src.get O i=(l.map inj)[i]?)(q:src.size O=l.length)(x:l.length<1900000)
  (r:∀a∈l,g.put (inj a) (qe (qe (σ++aM ext KM) (g.slots++[])) (g.slots++[]))=KF (τ a)) (s:∀a∈l,uw ts (τ a) O=.ok (p a) O) (t:∀a∈l,p a=qb->te (τ a) O=.ok (e a) O):
  pK o ext it0 g ts [] te σ O0=vU o (.ok ((l.filter p).map e) O):=by
 unfold pK Bi;rw[m];show vU o (yP (qy src _ (src.size O) 0 O []))=_;have d:∀a∈l,∀c:List D,c.length<4000000->Ad ⟨it0,g,ts⟩ [] te (qe (σ++aM ext KM) (p9 [⟨it0,g,ts⟩])) (inj a) O c=.ok (c++(if p a=qb then [e a] else [])) O:=by
  intro a j c u;show(match g.put (inj a) (qe (qe (σ++aM ext KM) (g.slots++[])) (g.slots++[])) with|some qf=>(uw ts qf O).bnd λb k=>if b=qb then vX [] te qf k c else .ok c k|none=>.bad)=_;rw[r a j];show(uw ts (τ a) O).bnd _=_;rw[s a j];show(if p a=qb then vX [] te _ O c else .ok c O)=_;by_cases f:p a=qb
  ·rw[qL f,qL f];unfold vX;rw[t a j f];show(if c.length<4000000 then _ else _)=_;rw[qL u]
  ·rw[q0 f,q0 f];simp
 have h:((l.filter p).map e).length<=l.length:=by rw[ax];exact bo _ _
 have w:=RK n l [] [] l.length rfl (aE _) d (by rw[K6];simp at h ⊢;lia);rw[K6,gJ] at w;have v:qy src (Ad ⟨it0,g,ts⟩ [] te (qe (σ++aM ext KM) (p9 [⟨it0,g,ts⟩]))) (src.size O) 0 O []=.ok ((l.filter p).map e) O:=by rw[q];exact w
 rw[v];rfl
section
variable{α:Type}{ext:Nat}{it0:DI}{i:Nat}{t:DT}{te:DE}{σ:Sg}{O O0:Ow}{l:List α}{inj:α->D}{p:α->Bool}{e:α->D}{τ:α->Sg}{o:Bool}
def KE{σ:Sg}{O:Ow}{b:Bool}(h:t σ O=.ok b O):uw [t] σ O=.ok b O:=by show((t σ O).bnd _)=_;rw[h];cases b<;>rfl
def xS(b:it0 σ O0=.ok (.val (l.map inj)) O)(c:l.length<1900000)(d:∀a,(qe (qe (σ++aM ext KM) [i]) [i]).set i (KF (inj a))=τ a)(f:∀a∈l,t (τ a) O=.ok (p a) O)(g:∀a∈l,p a=qb->te (τ a) O=.ok (e a) O):
  pK o ext it0 (.one i) [t] [] te σ O0=vU o (.ok ((l.filter p).map e) O):=
 CV b (λ_=>rfl) (by show(l.map inj).length=_;simp) c (λa _=>congrArg KF (d a)) (λa h=>KE (f a h)) g
def vZ(c:it0 σ O0=.ok (.val (l.map inj)) O)(d:l.length<1900000)(f:∀a,(qe (qe (σ++aM ext KM) [i]) [i]).set i (KF (inj a))=τ a)(h:∀a∈l,te (τ a) O=.ok (e a) O):
  pK o ext it0 (.one i) [] [] te σ O0=vU o (.ok (l.map e) O):=by have:=CV (o:=o) (g:=.one i) (ts:=[]) c (λ_=>rfl) (by show(l.map inj).length=_;simp) d (λa _=>congrArg KF (f a)) (λa b=>rfl) λa b _=>h a b;rw[this,i5.mpr (λ_ _=>rfl)]
end
def DY{α:Type}{it:DI}{i:Nat}{body:DS}{σ:Sg}{O0 O:Ow}{l:List α}{inj:α->D}(g:it σ O0=.ok (.val (l.map inj)) O)(I:Nat->Sg->Ow->Prop)(h:∀(k:Nat)a σ O,l[k]?=KF a->I k σ O->∃σ' b,body (σ.set i (KF (inj a))) O=.nx σ' b/\I (k+1) σ' b)(h0:I 0 σ O):
  ∃σ' b,uL it (.one i) body σ O0=.nx σ' b/\I l.length σ' b:=by
 obtain⟨σ',b,m,f⟩:=Ti (step:=λd σ O=>match Tg.put (.one i) d σ with|some σ'=>body σ' O|none=>.bad) I (λj σ O d n c=>by
  rw[bO] at c;cases e:l[j]? with
  |none=>rw[e] at c;cases c
  | some a=>
   rw[e] at c;cases c;exact h j a σ O e n) (l.map inj).length 0 σ O h0 'd' (ck _)
 rw[ax] at f;exact⟨σ',b,(Z7 g).trans m,f⟩
theorem Kv:∀l:List Bool,yU (l.map D.bl)=KF l
 |[]=>rfl
 | x::l=>by
  show(yU (l.map D.bl)).map (x :: ·)=_;rw[Kv l];rfl
def RM{α:Type}(O:Ow)(l:List α)(p:α->Bool):Cg O [.lst (l.map λa=>D.bl (p a))]=.ok (.bl (l.any p)) O:=by
 show(match yU (l.map λa=>D.bl (p a)) with|some bs=>R.ok (D.bl (bs.any id)) O|none=>R.bad)=_;have:(l.map λa=>D.bl (p a))=(l.map p).map D.bl:=by rw[bH];rfl
 rw[this,Kv];show R.ok (D.bl _) O=_;rw[List.any_map];rfl
def K1{α:Type}(O:Ow)(l:List α)(p:α->Bool):z_ O [.lst (l.map λa=>D.bl (p a))]=.ok (.bl (l.all p)) O:=by
 show(match yU (l.map λa=>D.bl (p a)) with|some bs=>R.ok (D.bl (bs.all id)) O|none=>R.bad)=_;have:(l.map λa=>D.bl (p a))=(l.map p).map D.bl:=by rw[bH];rfl
 rw[this,Kv];show R.ok (D.bl _) O=_;rw[List.all_map];rfl
end DL
namespace DL
open PySem L2
structure vM(h0:aL)(H:Hp)(h:aL)(a:af)(C:ae):Prop where
 ex:∃oe vs,h.get? a=KF oe/\(oe.cls=C/\oe.dict=KM)/\oe.data=.fields vs/\1<vs.size/\(vs[1]?=KF .none \/ ∃T oT ts,vs[1]?=KF (.ref T)/\T≠a/\h0.get? T=KM/\H T=KM/\h.get? T=KF oT/\oT.data=.fields ts/\ts[3]?=KF .none)
 new:h0.get? a=KM
 free:H a=KM
def zaN(o:Obj)(f):(o.mapFields f).dict=o.dict:=by obtain⟨c,d,a,b⟩:=o;cases a<;>rfl
structure Kp(h0:aL)(H:Hp)(fs:List af)(h h':aL):Prop where
 keep:∀b o,h.get? b=KF o->b∉fs->(H b≠KM\/h0.get? b≠KM)->h'.get? b=KF o
 slot:∀b o,h.get? b=KF o->b∈fs->∃sl,h'.get? b=KF { o with slots:=sl }
 there:∀b o,h.get? b=KF o->∃o',h'.get? b=KF o'
 size:h.objs.size<=h'.objs.size
section
variable{M:gE}{A:aU}{E:ae->ag->Prop}{s:ag}{base h0:aL}{H:Hp}{env:Env}{outer:List Env}{L a:af}{C:ae}{Q:Unit->ag->Prop}
def QM(R:A.frames=KF (env::outer))(y:s.heap.FunFrames base (env::outer))(S:env.frame=KF L)(B:s.heap.get? a=KF oe)(D:oe.cls=C/\oe.dict=KM)(t:oe.data=.fields vs)(n:1<vs.size)(k:h0.get? a=KM)(d:H a=KM)
  (T:∀b,s.heap.objs.size<=b->H b=KM) (U:∀b,s.heap.objs.size<=b->h0.get? b=KM) (h:∀h',Kp h0 H (qN (env::outer)) s.heap h'->vM h0 H h' a C->Q () { s with heap:=h' }):
  ar M A (do let f <- frameOf env;let g <- entryPlaceOf L hn;let b <- lD head f .none (di L) .none g;setField (.ref a) 1 b) (λ_ s'=>ar M A (setFlight (.ref a) KM) Q E s') E s:=by
 have l:a∉qN (env::outer):=λV=>by
  obtain⟨_,o,F,W⟩:=y.mem V;rw[B] at F;cases F;exact W vs t
 refine aa (wpAny_frameOf_fun R y S λc ⟨u,G,I⟩=>aa (wpAny_entryPlaceOf λg X=>?_));unfold lD newFields;refine aa (dL ?_ (X.sizeOk5 _ _ _ _ _));have J:c.get? a=KF oe:=(G a l).trans B;generalize Y:({ cls:=.type "traceback",dict:=KM,data:=.fields ([head,.ref L,.none,di L,.none]++(if g.isEmpty then aM 6 cH else g)).toArray }:Obj)=m;have p:m.data=.fields ([head,.ref L,.none,di L,.none]++(if g.isEmpty then aM 6 cH else g)).toArray:=by rw[<- Y]
 have K:=aj (h:=c) m J;refine f7 K t n ?_;have r:c.objs.size≠a:=dQ (aI J);have v:=dr t (·.setIfInBounds 1 (cZ c.objs.size));have w:=bX (fh (·.setIfInBounds 1 (cZ c.objs.size))) K (dO v);have N:((c.push m).update a (fh (·.setIfInBounds 1 (cZ c.objs.size)))).get? c.objs.size=KF m:=(bA _ _ (bB r)).trans (aN c (dO p));unfold setFlight;refine aa (bD w v (x:=.ref c.objs.size) (by simp[n]) ?_);rw[qL (show(cZ c.objs.size !=cH)=qb by simp)];have O:3<([head,.ref L,.none,di L,.none]++(if g.isEmpty then aM 6 cH else g)).toArray.size:=by simp only[aP,aB,a7,fJ];lia
 refine f7 N p O (h _ ?_ ?_)
 ·have j:∀b o,b≠a->c.get? b=KF o->(((c.push m).update a (fh (·.setIfInBounds 1 (cZ c.objs.size)))).update c.objs.size (fh (·.setIfInBounds 3 ((KM:Option af).elim cH λf=>di f)))).get? b=KF o:=λb o i e=>by
   rw[bA _ _ (dQ (aI e)),bA _ _ (bB i)];exact aj _ e
  refine⟨λb o e i Z=>j b o (λz=>?_) ((G b i).trans e),λb o e i=>?_,λb o e=>?_,?_⟩
  ·subst z;rcases Z with q|q
   ·exact q d
   ·exact q k
  ·obtain⟨P,q⟩:=I b o e;exact⟨P,j b _ (λz=>l (z▸i)) q⟩
  ·by_cases i:b=a
   ·subst i;exact⟨_,(bA _ _ r).trans w⟩
   ·obtain⟨P,q⟩:=I b o e;exact⟨_,j b _ i q⟩
  ·rw[fA,fA,cD,u];exact eB _
 ·refine⟨⟨_,_,(bA _ _ r).trans w,⟨(mq _ _).trans D.1,(zaN _ _).trans D.2⟩,v,by simpa using n,.inr ⟨c.objs.size,_,_,by simp[n],r,?_,T _ (by rw[u];exact aE _),bX _ N (dO (dr p _)),dr p _,?_⟩⟩,k,d⟩
  ·exact U _ (by rw[u];exact aE _)
  ·rw[ij];rw[qL O];rfl
def JW(y:A.frames=KF (env::outer))(t:s.heap.FunFrames base (env::outer))(u:env.frame=KF L)(x:vM h0 H s.heap a C)(B:∀b,s.heap.objs.size<=b->H b=KM)(D:∀b,s.heap.objs.size<=b->h0.get? b=KM)
  (h:∀h',Kp h0 H (qN (env::outer)) s.heap h'->vM h0 H h' a C->Q () { s with heap:=h' }):ar M A (noteFrame (.ref a) env) (λ_ s'=>ar M A (setFlight (.ref a) KM) Q E s') E s:=by
 obtain⟨⟨V,F,p,G,r,I,P⟩,f,d⟩:=x;unfold noteFrame;simp only[u];rcases P with v|⟨T,W,J,v,R,g,S,i,j,K⟩
 ·refine aa (bD p r v ?_);rw[q0 's'];exact QM y t u p G r I f d B D h
 ·refine aa (bD p r v ?_);rw[qL (show(cZ T !=cH)=qb by simp)];refine aa (bD i j K ?_);rw[q0 (show ¬ ((cH==di L)=qb) by simp[di])];refine aa (f7 i j (ef.mp K).1 ?_);have k:∀b,b≠T->(s.heap.update T (fh (·.setIfInBounds 3 cH))).get? b=s.heap.get? b:=λb c=>bA _ _ (bB c);have l:∀b o,s.heap.get? b=KF o->(∀F,o.data ≠ .fields F)->b≠T:=λb o c m z=>by
   subst z;rw[i] at c;cases c;exact m J j
  have w:(s.heap.update T (fh (·.setIfInBounds 3 cH))).objs.size=s.heap.objs.size:=fA ..;refine QM (s:={ s with heap:=s.heap.update T (fh (·.setIfInBounds 3 cH)) }) y (t.of_keeps λb o c m=>⟨o,(k b (l b o c m)).trans c,rfl⟩) u ((k a (bB R)).trans p) G r I f d (λb c=>B b (by rw[<- w];exact c)) (λb c=>D b (by rw[<- w];exact c)) λh' n U=>h h' ⟨λb o e c N=>?_,λb o e c=>?_,λb o e=>?_,by rw[<- w];exact n.size⟩ U
  ·refine n.keep b o ((k b λz=>?_).trans e) c N;subst z;rcases N with q|q
   ·exact q S
   ·exact q g
  ·refine n.slot b o ((k b λz=>?_).trans e) c;subst z;obtain⟨_,X,O,m⟩:=t.mem c;rw[i] at O;cases O;exact m J j
  ·by_cases c:b=T
   ·subst c;exact n.there b _ (bX _ i (dO (dr j _)))
   ·exact n.there b o ((k b c).trans e)
end
open PyProof.Rows (AllBare)
def qR(P:aD)(w:aR)(Cl:Nat->ae):vp:=λouter H s E e s'=>∃a c H',e=.ref a/\s'.os=s.os/\0<s'.toks/\f6 s'.gens/\Un (qN outer) [] H H' s.heap s'.heap/\HOk P w H' s'.heap/\vM s.heap H' s'.heap a (Cl c)/\E (Cl c) KM H'
abbrev Xk(Cl:Nat->ae)(E:XK):Nat->Hp->Prop:=λc H=>E (Cl c) KM H
def F7(X:Cx)(Ex:Nat->Hp->Prop)(Cl:Nat->ae):Prop:=∀(Y1:List (af×Obj))(σ:St)(H:Hp)(s:ag)(a:af)(c:Nat),Inv X Y1 σ H s->vM X.s₀.heap H s.heap a (Cl c)->Ex c H->X.xe (.ref a) s
def HOk.here(x:L2.HOk P w H h)(e:h.get? a=KM):H a=KM:=by
 cases q:H a with
 |none=>rfl
 | some o=>
  exfalso;have y:=x a o q;have b:∀u,h.get? a=KF u->False:=λu z=>by rw[e] at z;cases z
  cases o with
  |lst xs=>obtain⟨_,_,_,_,e⟩:=y;exact b _ e
  |tup xs=>obtain⟨_,_,_,_,e,_⟩:=y;exact b _ e
  |dK i_=>obtain⟨_,_,_,_,o,_,_,e,_⟩:=y;exact b _ e
  |dT i_=>obtain⟨_,_,_,_,o,_,_,e,_⟩:=y;exact b _ e
  |set S n=>obtain⟨o,_,_,_,e,_⟩:=y;exact b _ e
  |ins C dx fs=>obtain⟨_,_,_,e,_⟩:=y;exact b _ e
  |own y'=>obtain⟨_,e⟩:=y;exact b _ e
  |xd fs=>obtain⟨_,⟨_,_,_,e,_⟩,_⟩:=y;exact b _ e
  |rng lo hi=>obtain⟨_,_,_,e⟩:=y;exact b _ e
  |frz ob u=>obtain⟨e,_⟩:=y;exact b _ e
  |tbl ps=>exact b _ (show h.get? a=KF _ from y)
  |met f y'=>exact b _ (show h.get? a=KF _ from y)
  |ext φ=>obtain⟨_,⟨_,e⟩,_⟩:=y;exact b _ e
def Kp.hok(k:Kp h0 H fs h h')(x:L2.HOk P w H h)(c:∀b∈fs,H b=KM):L2.HOk P w H h':=λa o e=>
 (x a o e).stay (λb u hb q=>k.keep b u q (λz=>by
  rcases hb with rfl|hb
  ·rw[c _ z] at e;cases e
  ·rw[c _ z] at hb;cases hb) (.inl (by
  rcases hb with rfl|hb
  ·rw[e];exact λz=>nomatch z
  ·rw[hb];exact λz=>nomatch z))) (λ_ q=>q) λ_ _ q=>q
def vM.older(x:vM g H h a C)(k:∀b o,h0.get? b=KF o->∃j,g.get? b=KF j):vM h0 H h a C:=by
 have c:∀b,g.get? b=KM->h0.get? b=KM:=λb e=>by
  cases q:h0.get? b with
  |none=>rfl
  |some o=>obtain⟨j,z⟩:=k b o q;rw[e] at z;cases z
 obtain⟨⟨l,m,n,p,s,t,u⟩,i,d⟩:=x;refine⟨⟨l,m,n,p,s,t,u.imp id λ⟨T,v,w,g,y,f,r⟩=>⟨T,v,w,g,y,c T f,r⟩⟩,c a i,d⟩
section
variable{P:aD}{w:aR}{K:ai}{mg:au->Option ae}{base:aL}{N:List au}{qual:au}{scope:bS}{f:af}{cd:ae}{A:aU}{outer:List Env}{s:ag}{H:Hp}{E:XK}{Cl:Nat->ae}
def A_:F7 (yB (qR P w Cl) P w K mg base N qual scope f cd A outer s H E) (Xk Cl E) Cl:=by
 intro t Q k i a c I x q;generalize d:yB (qR P w Cl) P w K mg base N qual scope f cd A outer s H E=X at I x ⊢;have u:(A.deeper (aT qual scope s.heap.objs.size f cd)).frames=KF (aT qual scope s.heap.objs.size f cd::outer):=by have:=I.ok.frames;rw[<- d] at this;exact this
 have v:i.heap.FunFrames base (aT qual scope s.heap.objs.size f cd::outer):=by have:=I.stack;rw[<- d] at this;exact this
 have y:∀b∈qN (aT qual scope s.heap.objs.size f cd::outer),k b=KM:=by have:=I.stkFree;rw[<- d] at this;exact this
 have l:HOk P w k i.heap:=by have:=I.hok;rw[<- d] at this;exact this
 have j:Un (qN outer) [] H k s.heap i.heap:=by have:=I.base;rw[<- d] at this;exact this
 have B:i.os=s.os:=by have:=I.os;rw[<- d] at this;exact this
 have C:s.heap.objs.size<=i.heap.objs.size:=by have:=I.sz;rw[<- d] at this;exact this
 have R:k s.heap.objs.size=KM:=by have:=I.free;rw[<- d] at this;exact this
 have g:vM s.heap k i.heap a (Cl c):=by rw[<- d] at x;exact x
 have D:=I.bare;rw[<- d];show ar (av P w) (A.deeper (aT qual scope s.heap.objs.size f cd)) (leaving (aT qual scope s.heap.objs.size f cd) (.ref a)) (λ_ p=>qR P w Cl outer H s E (.ref a) p) (λF p=>qR P w Cl outer H s E F p) i;unfold leaving;refine aa (JW u v rfl g (λb h=>l.fresh h) (λb h=>iI (aF C h)) λS m G=>?_);refine⟨a,c,k,rfl,B,I.tk,D,?_,m.hok l y,G,q⟩;refine⟨λb o e n h g=>?_,λb o e n h g=>?_,λb o e n g=>j.free b o e n g,λb o e g=>?_,j.tups,j.frzs,j.tbls⟩
 ·refine m.keep b o (j.keep b o e n h g) (λz=>?_) (.inr (by rw[e];exact λz=>nomatch z));have J:b∈s.heap.objs.size::qN outer:=z;rcases aq.mp J with z2|z2
  ·exact absurd (aI e) (by rw[z2];exact bU _)
  ·exact h z2
 ·obtain⟨T,r⟩:=j.slot b o e n h g;obtain⟨L,M⟩:=m.slot b _ r (show b∈s.heap.objs.size::qN outer from ak _ h);exact⟨L,M⟩
 ·obtain⟨O,r⟩:=j.there b o e g;exact m.there b O r
end
section
variable{X:Cx}{Cl:Nat->ae}{E:XK}
def yK(g:X.ex=[])(h:F7 X (Xk Cl E) Cl):Ag (qR X.prog X.w Cl) X E:=by rintro d j H s e k I ⟨a,c,l,rfl,m,r,f,n,i,x,q⟩;have p:Inv X d j l k:=I.call' (ch:=[]) m n i f (λb z=>absurd z 'd');exact h d j l k a c p (x.older λb o e=>I.base.there b o e (by rw[g];simp)) q
def Sb:Ag (qR X.prog X.w Cl) X E0:=by rintro b g H s e h I ⟨a,c,i,rfl,j,k,d,l,f,x,q⟩;exact ah q
end
abbrev Gi:List ae:=[.type "ValueError",.type "Exception",.type "BaseException",.type "object"]
abbrev Jn(mg:au->Option ae)(base:aL)(x:au)(C:af):Prop:=PyProof.Rows.OwnCls x C Gi "ValueError.__new__" mg base
section
variable{X:Cx}{Ex:Nat->Hp->Prop}{Cl:Nat->ae}
def GV(c:Nat)(t:DA):DS:=λσ O=>(t σ O).bnS λxs O1=>if xs.length<=1000 then .exc c O1 else .bad
def zdt(I:Inv X Y1 σ H s)(b:X.ex=[])(m:Heap.MadeExcOf s.heap h' a C vs):vM X.s₀.heap H h' a C:=by
 obtain⟨t,c,d,e⟩:=m.there;refine⟨⟨_,_,c,⟨rfl,rfl⟩,rfl,by simp,.inl rfl⟩,?_,HOk.here I.hok m.new⟩;cases q:X.s₀.heap.get? a with
 |none=>rfl
 | some o=>
  obtain⟨f,z⟩:=I.base.there a o q (by rw[b];simp);rw[m.new] at z;cases z
def zaC(E:F7 X Ex Cl)(l:X.ex=[])(F:Cl c=.ref C)(f:Jn X.mg X.base x C)(G:X.calm=qb)(J:Gl X x)(L:sI X Ex (e::es) t)
  (M:qP x:=by decide) (he:aA (e::es) X.env=(qj,eval e X.env)::aA es X.env:=by rfl) (P:(backTo o9 (aA (e::es) X.env)).any (·.1)=qj:=by rfl) (n:∃y b,backTo o9 (aA (e::es) X.env)=(qj,y)::b:=by exact⟨_,_,rfl⟩):
  tX X Ex (.Raise (KF (.Call (.Name x np) (e::es) [] o9)) KM pos) (GV c t):=by
 refine⟨?_⟩;rintro d s u H D I ⟨g,v,w,O,Q,R,q⟩;obtain⟨bm,N,nm,S,bs,hdct,sn,sub,ab,col,dd,k0,k1,k2,k3,k5,mN,T,U,o,z⟩:=f.obj;refine wpAny_Raise_call_subU (nm:=nm) (q:=S) (N:=N) (bs:=bs) (hdct:=hdct) (sn:=sn) (sub:=sub) (ab:=ab) (col:=col) (dd:=dd) (k0:=k0) (k1:=k1) (k2:=k2) (k3:=k3) (k5:=k5) jt (bmB:=Gi) (by rfl) jt (z.hasType (by rfl)) (I.ok.hd G) P o (Ed I J f.bound ⟨rfl,?_⟩ M);have A:=L.out o9 d s u H (λp h=>p.length<=1000/\Ex c h) I ⟨g,v,w,O,Q,R,n6.bnS (q:n6 Ex X.K H g v (GV c t w O) D) λV O1 p h W x2 Y Z k=>by
  by_cases i:V.length<=1000
  ·rw[qL i] at k;exact⟨by rw[<- Z.length];exact i,k h W .refl Y⟩
  ·rw[q0 i] at k;exact ah k⟩
 obtain⟨y,b,hb⟩:=n;rw[hb] at A ⊢;refine ie (o_ A λus B ⟨p,h,j,r,i,hx⟩=>⟨rfl,aF (by rw[<- r.length];exact i) 's',j.bk _ _ T,U.keeps j.bk,z.keeps j.bk,λh' a m=>?_⟩);exact E d u h { B with heap:=h' } a c (j.kept (t':=B.toks) m.keeps) (by rw[F];exact zdt j l m) hx
end
abbrev tN(Cl:Nat->ae)(P:aD)(w:aR)(K:ai)(mg:au->Option ae)(base:aL)(N:List au)(qual:au)(scope:bS)(f:af)(k_:ae)(A:aU)(outer:List Env)(s:ag)(H:Hp)(E:XK):Cx:=
 yB (qR P w Cl) P w K mg base N qual scope f k_ A outer s H E
def Zw{Cl:Nat->ae}{P:aD}{w:aR}{K:ai}{c:au->Option ae}{base:aL}{N:List au}{b:au}{scope:bS}{f:af}{d:ae}{A:aU}{a:List Env}{s:ag}{H:Hp}{E:XK}:
  ji (av P w) (tN Cl P w K c base N b scope f d A a s H E).A (tN Cl P w K c base N b scope f d A a s H E).env (tN Cl P w K c base N b scope f d A a s H E).xe:=
 PassesOwn.leaving (Q₁:=λe g=>qR P w Cl a H s E e g) (E₁:=λh g=>qR P w Cl a H s E h g)
def XU{Cl:Nat->ae}{P:aD}{w:aR}{K:ai}{u:au->Option ae}{base:aL}{k:Nat}{f:af}{name a:au}{g:eu}{body:List cN}{scope:bS}{y z i B j ct F:ae}{C G:Option af}{I:Array (Option ae)}{N o:List au}{t:DS}
  (J:K.lookup f=KF ⟨F,G,.func (bd name a g body scope y z i B C j ct),I⟩) (L:cS K j a=qb) (S:rj N o scope)
  (M:∀(A:aU)(b:List Env)(s:ag)(H:Hp)(E:XK),nZ k (A.deeper (aT a scope s.heap.objs.size f j))->rn (tN Cl P w K u base N a scope f j A b s H E) (Xk Cl E) body t):
  oj P w K u base (qR P w Cl) (k+1) f (bd name a g body scope y z i B C j ct) o (Ga K (Xk Cl) o.length (qx N.length t)):=by
 refine qv J L S (λR H Q E h=>h.1) λA b s H R Q E T h=>?_;obtain⟨W,p,U,D,O,d,c,q⟩:=h;refine⟨_,(M A b s H E T).out,p,U,_,O,EG d N,c,?_⟩;unfold qx at q;generalize t (D.map KF++aM (N.length-D.length) KM) O=r at q;cases r with
 |nx σ O'=>exact λX l m x e n=>q .non l m x n zw
 |rt d' O'=>exact λv l m x n r=>q v l m x n r
 |bk σ O'=>exact ah q
 |ct σ O'=>exact ah q
 |exc n O'=>exact λl m x V=>q l m x V
 |bad=>exact ah q
structure og(Cl:Nat->ae)(P:aD)(w:aR)(K:ai)(mg:au->Option ae)(base:aL)(x:au)(k n:Nat)(F:pD):Prop where
 ex:∃f fd ps,mg x=KF (.ref f)/\cR K (.ref f)=qb/\Binds K fd ps []/\oj P w K mg base (qR P w Cl) k f fd ps (Ga K (Xk Cl) n F)
def GP{Cl:Nat->ae}{X:Cx}{E:XK}{x:au}{k j n:Nat}{F:pD}{p pos:Pos}{e:aO}{a:List aO}{t:DA}(c:og Cl X.prog X.w X.K X.mg X.base x k n F)(b:Ag (qR X.prog X.w Cl) X E)(d:nZ j X.A)(g:k<=j)(h:Gl X x)(i:sI X (Xk Cl E) (e::a) t)
  (l:qP x:=by decide) (m:aA (e::a) X.env=(qj,eval e X.env)::aA a X.env:=by rfl) (o:(backTo pos (aA a X.env)).any (·.1)=qj:=by rfl):
  PD X (Xk Cl E) (.Call (.Name x p) (e::a) [] pos) (o6 n F t):=by obtain⟨f,u,v,q,r,s,G⟩:=c.ex;exact N5 (Ec:=Xk Cl) (E:=E) (G.mono g) d h q r s b i l m o
def Qi{Cl:Nat->ae}{X:Cx}{x:au}{k j n:Nat}{F:pD}{p pos:Pos}{e:aO}{a:List aO}{t:DA}(c:og Cl X.prog X.w X.K X.mg X.base x k n F)(b:nZ j X.A)(d:k<=j)(f:Gl X x)(g:sI X p_ (e::a) t)
  (h:qP x:=by decide) (i:aA (e::a) X.env=(qj,eval e X.env)::aA a X.env:=by rfl) (l:(backTo pos (aA a X.env)).any (·.1)=qj:=by rfl):
  PD X p_ (.Call (.Name x p) (e::a) [] pos) (o6 n F t):=GP (E:=E0) c Sb b d f g h i l
def fnX{Cl:Nat->ae}{P:aD}{w:aR}{K:ai}{g:au->Option ae}{base:aL}{k:Nat}{x:au}{b:cN}{N d:List au}{t:DS}(h:qg K g x b)(S:rj N d (pF b))
  (o:∀(j e l:ae)(m:Option af)(c n:ae)(i:List ae),i.length=d.length->bindArgs (bd x x (uF b) (rV b) (pF b) .none j e l m c n) ⟨i,[]⟩=pure (d.zip i))
  (p:∀(f:af)(c:ae)(A:aU)(a:List Env)(s:ag)(H:Hp)(E:XK),nZ k (A.deeper (aT x (pF b) s.heap.objs.size f c))->rn (tN Cl P w K g base N x (pF b) f c A a s H E) (Xk Cl E) (rV b) t):
  og Cl P w K g base x (k+1) d.length (qx N.length t):=by obtain⟨f,q,r,F⟩:=h;refine⟨f,q,d,r,F.kp,F.binds o,?_⟩;obtain⟨z,B,j,e,l,m,c,n,C,rfl,u,v⟩:=F.ex;exact XU u v S λA a s H E y=>p f c A a s H E y
section
variable{Cl:Nat->ae}{P:aD}{w:aR}{K:ai}{mg:au->Option ae}{base:aL}{k n:Nat}{x:au}{F G:pD}
def og.imp(c:og Cl P w K mg base x k n F)(h:∀ds O H XV μ a Q,nV K H XV μ O->qt a K H XV μ (G ds O) Q->qt a K H XV μ (F ds O) Q):og Cl P w K mg base x k n G:=by obtain⟨f,e,g,i,j,l,m⟩:=c.ex;refine⟨f,e,g,i,j,l,m.imp λp H Q E ⟨o,XV,μ,ds,O,d,b,q⟩=>⟨o,XV,μ,ds,O,d,b,h ds O H XV μ _ Q b q⟩⟩
def og.bad(c:og Cl P w K mg base x k n F):og Cl P w K mg base x k n (λ_ _=>.bad):=c.imp λ_ _ _ _ _ _ _ _ q=>ah q
def og.self(c:og Cl P w K mg base x k n F):og Cl P w K mg base x k n F:=c
end
noncomputable def Gx(f:Nat->Option Bool):D->Option Bool
 |.exn C=>f C
 |.non=>KF qj
 |_=>KM
def uV(f:Nat->Option Bool)(t:DE):DE:=λσ O=>(t σ O).bnd λd O1=>match Gx f d with
 |some b=>.ok (.bl b) O1
 |none=>.bad
section
variable{X:Cx}{Ex:Nat->Hp->Prop}{pos:Pos}{a:aO}{ta:DE}
def R6(f:Nat->Option Bool)(m:∀u,RelV cv u->u=cval)(n:aV X.K (.type "NoneType") cval=KF qj)(o:∀C b,f C=KF b->aV X.K (.ref C) cval=KF b):
  oh X (.builtin "isinstance") (λxs H Q=>∃x XV μ O d b,xs=[x,cv]/\nV X.K H XV μ O/\Y2 X.K H XV μ d x/\Gx f d=KF b/\Q (.bl b) H):=by
 intro j s A H xs B Q I r h;obtain⟨x,XV,μ,O,d,b,rfl,D,c,e,q⟩:=h;obtain⟨u,E,rfl,l,t⟩:=A8 r;obtain rfl:=m _ t;cases d with
 | non=>
  unfold Y2 at c;subst c;cases l;cases e;exact wT I (jZ ml I.kIn eE n (λz=>nomatch z) λi v=>⟨.bl _,H,I.tok i,rfl,q⟩)
 | exn C=>
  unfold Y2 at c;obtain⟨p,F,rfl,⟨k,g⟩,w,_⟩:=c;cases l;obtain⟨y,_⟩:=Rd.ok w I.hok;exact wT I (jZ (P8 k) I.kIn (g _ y) (o C b e) (λz=>nomatch z) λi v=>⟨.bl _,H,I.tok i,rfl,q⟩)
 |_=>cases e
def Qz:∀XV μ σ O g H Q,nX X.K H XV μ σ g->nV X.K H XV μ O->qt Ex X.K H XV μ (uV f ta σ O) Q->rd Ex X.K ta g H λv c=>∃x XV μ O d b,[v,cv]=[x,cv]/\nV X.K c XV μ O/\Y2 X.K c XV μ d x/\Gx f d=KF b/\Q (.bl b) c:=
 λXV μ σ O g H Q j k q=>rd.go j k q λd l v c m n x i r e=>by
  cases h:Gx f d with
  |none=>rw[h] at e;exact ah e
  |some b=>rw[h] at e;exact⟨v,XV,m,l,d,b,rfl,i,r,h,post.here e i uj⟩
def YB(d:PD X Ex a ta)(e:Gl X "isinstance")(g:X.mg "isinstance" = KM)(h:bg "isinstance" = KF (.builtin "isinstance"))(i:Gl X x)(j:X.mg x=KF (.ref C0))
  (k:aV X.K (.type "NoneType") (.ref C0)=KF qj) (l:∀C b,f C=KF b->aV X.K (.ref C) (.ref C0)=KF b)
  (m:qP x:=by decide) (c:aA [a,.Name x p'] X.env=(qj,eval a X.env)::aA [.Name x p'] X.env:=by rfl) (n:aA [.Name x p'] X.env=[(qj,eval (.Name x p') X.env)]:=by rfl) (o:(backTo pos (aA [.Name x p'] X.env)).any (·.1)=qj:=by rfl):
  PD X Ex (.Call (.Name "isinstance" p) [a,.Name x p'] [] pos) (uV f ta):=
 rl (Ei (R6 (X:=X) (cv:=.ref C0) (cval:=.ref C0) f (λu r=>by cases r;rfl) k l) e g h (xB d.out (xB (Hf (v:=.ref C0) i j rfl m) Ba n) c) 's' 's' c o) Qz
def zfT(d:PD X Ex a ta)(e:Gl X "isinstance")(g:X.mg "isinstance" = KM)(h:bg "isinstance" = KF (.builtin "isinstance"))(i:Gl X x)(j:X.mg x=KM)(k:bg x=KF (.type n))
  (l:aV X.K (.type "NoneType") (.type n)=KF qj) (m:∀C b,f C=KF b->aV X.K (.ref C) (.type n)=KF b) (o:x ≠ "__name__":=by decide)
  (q:qP x:=by decide) (c:aA [a,.Name x p'] X.env=(qj,eval a X.env)::aA [.Name x p'] X.env:=by rfl) (s:aA [.Name x p'] X.env=[(qj,eval (.Name x p') X.env)]:=by rfl) (t:(backTo pos (aA [.Name x p'] X.env)).any (·.1)=qj:=by rfl):
  PD X Ex (.Call (.Name "isinstance" p) [a,.Name x p'] [] pos) (uV f ta):=
 rl (Ei (R6 (X:=X) (cv:=.ty n) (cval:=.type n) f (λu r=>by cases r;rfl) l m) e g h (xB d.out (xB (G3 (v:=.ty n) i j k rfl o q) Ba s) c) 's' 's' c t) Qz
end
open PyProof.Rows (AllBare IntsAre)
section
variable{X:Cx}{Y1:List (af×Obj)}{σ:St}{H:Hp}{s:ag}
def Inv.fake(I:L2.Inv X Y1 σ H s)(e:X.N[i]?=KF x)(f:¬ rG X.env.scope x):L2.Inv X Y1 (σ.set i (KF v)) H s:=by
 obtain⟨m,g,h⟩:=I.loc;refine⟨I.ok,I.os,I.bare,I.base,⟨m,g,λj y w a b c=>?_⟩,I.cell,I.free,I.freeC,I.pin,I.hok,by rw[cr];exact I.len,I.tk⟩;by_cases d:j=i
 ·subst d;rw[e] at a;cases a;exact absurd c f
 ·rw[aW (bB d)] at b;exact h j y w a b c
def rL.fake(a:X.N[i]?=KF x)(b:¬ rG X.env.scope x)(h:rL X body t):rL X body λD σ H=>t D (σ.set i (KF v)) H:=
 λY1 s σ H D I q=>h Y1 s _ H D (Inv.fake I a b) q
end
def oi.empty(h:H P=KF (.tbl #[])):oi H P:=⟨#[],h,trivial,λa b e=>by cases e⟩
noncomputable def Cb(K:ai)(Ec:XK->Nat->Hp->Prop)(n:Nat)(P:af)(F:pD):Sp:=λvs H Q E=>vs.length=n/\∃XV μ ds O,nW K H XV μ ds vs/\nV K H XV μ O/\oi H P/\qt (Ec E) K H XV μ (F ds O) Q
def vB(n i:Nat)(P:Nat)(t:DS):pD:=λds O=>fin (t ((ds.map KF++aM (n-ds.length) KM).set i (KF (.tab P))) O)
def WU{Cl:Nat->ae}{P:aD}{w:aR}{K:ai}{y:au->Option ae}{base:aL}{k i:Nat}{f Pt:af}{x:au}{name a:au}{g:eu}{body:List cN}{scope:bS}{z B l C m ct G:ae}{D I:Option af}{J:Array (Option ae)}{N q:List au}{t:DS}
  (L:K.lookup f=KF ⟨G,I,.func (bd name a g body scope z B l C D m ct),J⟩) (M:cS K m a=qb) (S:rj N q scope) (R:N[i]?=KF x) (T:¬ rG scope x)
  (U:∀(A:aU)(b:List Env)(s:ag)(H:Hp)(E:XK),nZ k (A.deeper (aT a scope s.heap.objs.size f m))->rn (tN Cl P w K y base N a scope f m A b s H E) (Xk Cl E) body t):
  oj P w K y base (qR P w Cl) (k+1) f (bd name a g body scope z B l C D m ct) q (Cb K (Xk Cl) q.length Pt (vB N.length i Pt t)):=by
 refine qv L M S (λV H Q E h=>h.1) λA b s H V Q E W h=>?_;obtain⟨hl,u,X,F,O,d,c,Y,j⟩:=h;refine⟨_,rL.fake (v:=.bl qj) R T (U A b s H E W).out,u,X,_,O,(EG d N).set (d:=.tab Pt) (v:=.bl qj) (by unfold Y2;exact⟨rfl,Y⟩) i,c,?_⟩;unfold vB at j;generalize t ((F.map KF++aM (N.length-F.length) KM).set i (KF (.tab Pt))) O=r at j;cases r with
 |nx σ O'=>exact λa_ n o x e p=>j .non n o x p zw
 |rt d' O'=>exact λv n o x p r=>j v n o x p r
 |bk σ O'=>exact ah j
 |ct σ O'=>exact ah j
 |exc p O'=>exact λn o x Z=>j n o x Z
 |bad=>exact ah j
structure tI(mg:au->Option ae)(base:aL)(c Pt:af):Prop where
 hd:ng base c Pt
 bl:base.BuiltinsAt mg Pt
def z6q{pos pos':Pos}{c cv:ae}(l:List ae)(h:TriplesOk l)(e:codeAmong pos' (l++[di pos.line,di pos.col,c])=KF cv):codeAmong pos' l=KF cv\/cv=c:=by
 fun_induction TriplesOk l with
 | case1=>
  simp only[gJ,codeAmong,di] at e;split at e
  ·cases e;exact .inr rfl
  ·cases e
 | case2 a t b u x rest ih=>
  simp only[jO,codeAmong] at e ⊢;split at e
  ·rename_i d;rw[qL d];exact .inl e
  ·rename_i d;rw[q0 d];exact ih h e
 |case3 l h1 h2=>exact h.elim
def zbY{q:au}{H:Hp}{P c:af}{pos:Pos}{g:Array ae}(i:H P=KF (.tbl g))(u:H c=KM)(P2:af)(v:oi H P2):
  oi (upd (upd H P (.tbl (g ++ #[di pos.line,di pos.col,.ref c]))) c (.ext λh=>h.CodeRec (.ref c) q)) P2:=by
 have j:∀{b:af}{o:HO},H b=KF o->b≠c:=λe=>rD e u;obtain⟨w,f,k,s⟩:=v;have a:∀{b:af}{d:aL->Prop},H b=KF (.ext d)->upd (upd H P (.tbl (g ++ #[di pos.line,di pos.col,.ref c]))) c (.ext λh=>h.CodeRec (.ref c) q) b=KF (.ext d):=λ{b d}e=>by
  rw[pj (j e),pj (Wn e i (λz=>nomatch z))];exact e
 by_cases t:P2=P
 ·subst t;rw[i] at f;cases f;refine⟨_,by rw[pj (j i),qS],?_,λp l e=>?_⟩
  ·rw[bM];exact TriplesOk_snoc _ _ _ _ k
  ·rw[bM] at e;rcases z6q _ k e with e|e
   ·obtain⟨m,d,rfl,n,r⟩:=s p l e;exact⟨m,d,rfl,a n,r⟩
   ·exact⟨c,_,e,qS,λh z=>⟨q,z⟩⟩
 ·refine⟨w,by rw[pj (j f),pj t];exact f,k,λp l e=>?_⟩;obtain⟨m,d,rfl,n,r⟩:=s p l e;exact⟨m,d,rfl,a n,r⟩
section
variable{X:Cx}{Y1:List (af×Obj)}{a_:St}{H:Hp}{s:ag}{E:ae->ag->Prop}
abbrev A5(H:Hp)(P c:af)(ps:Array ae)(pos:Pos)(q:au):Hp:=upd (upd H P (.tbl (ps ++ #[di pos.line,di pos.col,.ref c]))) c (.ext λh=>h.CodeRec (.ref c) q)
def CQ(a:H P=KF (.tbl ps))(d:H c=KM)(e:H b=KF o)(f:CD o):A5 H P c ps pos q b=KF o:=by
 have g:b≠P:=by rintro rfl;rw[a] at e;cases e;exact f _ rfl
 show upd (upd H P _) c _ b=KF o;rw[pj (rD e d),pj g];exact e
def Sv(a:H P=KF (.tbl ps))(d:H c=KM)(μ:List af):Ext H μ (A5 H P c ps pos q) μ:=
 ⟨⟨[],by simp⟩,λb o e _ f=>CQ a d e f,λ_ m=>.inl m,λb h=>xD b (xD b h),λg i=>zbY a d g i⟩
def z7J(d:H P=KF (.tbl f))(g:H c=KM)(b:nV K H XV μ O):nV K (A5 H P c f pos q) XV μ O:=by refine⟨b.len,b.nd,b.nh,λa m=>xD a (xD a (b.ht a m)),λk a e=>?_⟩;obtain⟨h,i,j,l,n⟩:=b.at_ k a e;exact⟨h,i,j,CQ d g l (by intro f z;cases z),n.ext (Sv d g μ)⟩
def Ud{h h':aL}{c:af}{q:au}(x:h.CodeRec (.ref c) q)(k:∀o,h.get? c=KF o->h'.get? c=KF o):h'.CodeRec (.ref c) q:=by obtain⟨d,o,a,t,e,b,r⟩:=x;cases e;exact⟨c,o,a,t,rfl,k o b,r⟩
def O_{c P:af}{a:eu}{body:aO}{scope:bS}{pos:Pos}{v:List (au×af)}{Q:ae->ag->Prop}(I:L2.Inv X Y1 a_ H s)(L:tI X.mg X.base c P)(U:X.env.code=.ref c)(ti:oi H P)
  (V:closureFor scope X.env=pure v) (t_:defaultsOf a X.env=([],[]))
  (h:∀(i:af)(Y j:ae)(h':aL)(tk:Tok)(H':Hp),L2.Inv X Y1 a_ H' { s with heap:=h',toks:=tk }->(∀μ,Ext H μ H' μ)->(∀XV μ O,nV X.K H XV μ O->nV X.K H' XV μ O)->H' i=KM->s.heap.objs.size<=i->
   h'.get? i=KF { cls:=.type "function",data:=.func (ci "<lambda>" (X.env.qual ++ "<lambda>") a body scope v ((X.mg "__name__").getD .none) Y j) }->(∃c B,Y=.ref c/\H' c=KF (.ext B)/\∀h:aL,B h->∃q,h.CodeRec (.ref c) q)->Q (.ref i) { s with heap:=h',toks:=tk }):
  ar (av X.prog X.w) X.A (eval (.Lambda a body scope pos) X.env) Q E s:=by
 obtain⟨g,f,Z,h3⟩:=id ti;have G:=I.hok P _ f;have J:=I.mod.glob.keeps I.bk;have M:bP≠P:=λz=>by
  obtain⟨o,es,ep,e,C,_⟩:=J;rw[z,G] at e;cases e;cases C
 have D:s.heap.BuiltinsAt X.mg P:=by
  obtain⟨bm,ob,b1,x,b3,b4,b5,r⟩:=L.bl;exact⟨bm,ob,b1,x,b3,b4,I.bk _ _ b5,r⟩
 have C:=L.hd.keeps I.bk;refine PySem.W.kla_eval t_ ?_;cases N:codeAmong pos g.toList with
 | some cv=>
  obtain⟨d,B,rfl,k1,k2⟩:=h3 pos cv N;refine wT I (PySem.W.kla_makeFunctionHit V I.ok.glob J U C G Z N D λj h' tk hk pW pP=>?_);have p:∀b u,s.heap.get? b=KF u->(h'.push { cls:=.type "function",data:=.func (ci "<lambda>" (X.env.qual ++ "<lambda>") a body scope v ((X.mg "__name__").getD .none) (.ref d) j) }).get? b=KF u:=λb u e=>aj _ (hk b u e);exact h h'.objs.size (.ref d) j _ tk H (I.kept p) (λμ=>.refl) (λ_ _ _ z=>z) (I.hok.fresh pW) pW (aN _ rfl) ⟨d,B,rfl,k1,k2⟩
 | none=>
  refine wT I (PySem.W.kla_makeFunction V I.ok.glob J U C G Z N M D λd j h' tk hx F R r8 S pP=>?_);have l:=I.hok.fresh F;have y:∀{b:af},H b=KM->b≠P:=λe=>bB (rD f e);have p:∀b u,b≠P->s.heap.get? b=KF u->(h'.push (j0 "<lambda>" (X.env.qual ++ "<lambda>") a body scope v ((X.mg "__name__").getD .none) d j)).get? b=KF u:=λb u n e=>aj _ (hx b u n e);have IS:(h'.push (j0 "<lambda>" (X.env.qual ++ "<lambda>") a body scope v ((X.mg "__name__").getD .none) d j)).get? P=KF (kI (g ++ #[di pos.line,di pos.col,.ref d])):=aj _ S;have AA:(h'.push (j0 "<lambda>" (X.env.qual ++ "<lambda>") a body scope v ((X.mg "__name__").getD .none) d j)).CodeRec (.ref d) (X.env.qual ++ "<lambda>"):=Ud r8 λo e=>aj _ e;have yc:∀{b:af},s.heap.objs.size<=b->b≠d->A5 H P d g pos (X.env.qual ++ "<lambda>") b=KM:=λ{b}D n=>by
   have e:=I.hok.fresh D;show upd (upd H P _) d _ b=KM;rw[pj n,pj (y e)];exact e
  refine h h'.objs.size (.ref d) j _ tk (A5 H P d g pos (X.env.qual ++ "<lambda>")) ?_ (Sv f l) (λ_ _ _ z=>z7J f l z) (yc (iH (gR F R)) (dQ R)) (iH (gR F R)) (aN _ rfl) ⟨d,_,rfl,qS,λh z=>⟨_,z⟩⟩;have pI:∀b o,s.heap.get? b=KF o->H b=KM->A5 H P d g pos (X.env.qual ++ "<lambda>") b=KM:=λb o e n=>by
   show upd (upd H P _) d _ b=KM;rw[pj (bu (aY (aI e) F)),pj (y n)];exact n
  refine I.step (ch:=[]) (λ_ z=>nomatch z) (λb o _ _ _ e n=>p b o (y n) e) (λb o _ _ _ e n=>⟨o.slots,p b o (y n) e⟩) (λb o _ e n=>pI b o e n) (λb o _ e=>?_)
   (λb xs e=>CQ f l e (by intro g z;cases z)) (λb o u e=>CQ f l e (by intro g z;cases z)) (λb UG e=>?_) (λm hm=>?_) ?_ I.bare pP
  ·by_cases k:b=P
   ·subst k;exact⟨_,IS⟩
   ·exact⟨o,p b o k e⟩
  ·by_cases k:b=P
   ·subst k;rw[f] at e;cases e;exact⟨_,by show upd (upd H b _) d _ b=_;rw[pj (rD f l),qS]⟩
   ·exact⟨#[],by show upd (upd H P _) d _ b=_;rw[pj (rD e l),pj k,e];simp⟩
  ·obtain⟨o,es,ep,e,r⟩:=hm;exact⟨o,es,ep,p _ o (y I.free) e,r⟩
  ·intro b u e;by_cases Vf:b=d
   ·subst Vf;have e':A5 H P b g pos (X.env.qual ++ "<lambda>") b=_:=qS;rw[e'] at e;cases e;refine⟨AA,?_,λha tM za zk=>Ud za zk⟩;obtain⟨c2,o,vs,t,z,ho,_⟩:=AA;cases z;exact⟨o,ho⟩
   ·have T:=(pj Vf).symm.trans e;by_cases k:b=P
    ·subst k;rw[qS] at T;cases T;exact IS
    ·have e2:=(pj k).symm.trans T;refine(I.hok b u e2).stay (λx u2 vo z=>p x u2 (λzz=>?_) z) (λx z=>CQ f l z (by intro g z;cases z)) λx xs z=>CQ f l z (by intro g z;cases z);rcases vo with rfl|vo
     ·exact k zz
     ·rw[zz,f] at vo;cases vo
end
abbrev sj(q:au)(scope:bS)(L f:af)(cd:ae)(cl:List (au×af)):Env:={ scope,locals:=L,globals:=bP,cells:=cl,qual:=q ++ ".<locals>.",func:=KF f,code:=cd,frame:=KF L,builtins:=builtinsNs }
section
variable{prog:aD}{w:aR}{A:aU}{s:ag}{R:Result->ag->Prop}
def zfK(g:A.depth<recursionLimit)
  (i:s.heap.get? lam=KF { cls:=.type "function",data:=.func (ci name qual params body scope cl pm cd ct) }) (j:s.heap.CodeRec cd q) (k:scope.isCoroutine=qj) (l:scope.isGenerator=qj) (n:scope.kind=.function) (p:∀x∈scope.names,x.2 ≠ .cell)
  (r:bindArgs (ci name qual params body scope cl pm cd ct) ⟨[],[]⟩=pure []) (t:s.heap.NoLimit)
  (h:∀h',h'.Ns s.heap.objs.size (λ_=>KM)->(∀b o,s.heap.get? b=KF o->h'.get? b=KF o)->
   ar (av prog w) (A.deeper (sj q scope s.heap.objs.size lam cd cl)) (eval body (sj q scope s.heap.objs.size lam cd cl)) (λv s'=>R (.ok (.ret v)) s')
    (λe s'=>ar (av prog w) (A.deeper (sj q scope s.heap.objs.size lam cd cl)) (leaving (sj q scope s.heap.objs.size lam cd cl) e) (λ_ a=>R (.error e) a) (λu a=>R (.error u) a) s') { s with heap:=h' }):
  codeAny (av prog w) A (.call (.ref lam) ⟨[],[]⟩) R s:=by refine jY ?_;show ar _ A.in1 (callAny (.ref lam) ⟨[],[]⟩) _ _ s;simp only[callAny];refine aa (wpAny_load i ?_);obtain⟨c,G,H,I,y,z,B,C⟩:=j;subst y;simp only[callFunction,k,l];refine aa (m:=field (.ref c) 1) (bD z B C (aa (ao ?_)));rw[r];refine aa (ao (aa ?_));refine kZ p (λx D=>nomatch D) (λd E F=>?_) n;have f:∀b o,s.heap.get? b=KF o->d.get? b=KF o:=λb o e=>F.extBut b o (bu (aI e)) (aj _ e);refine aa (wpAny_enterFrame (t.keeps f) g (ao ⟨rfl,?_⟩));exact k7 (h d E f)
end
def ZE{X:Cx}{E:XK}{Cl:Nat->ae}(j:X.xe=λe s'=>ar (av X.prog X.w) X.A (leaving X.env e) (λ_ f=>qR X.prog X.w Cl X.outer X.H₀ X.s₀ E e f) (λk f=>qR X.prog X.w Cl X.outer X.H₀ X.s₀ E k f) s')
  (l:X.stack=X.env::X.outer) (t:X.env.frame=KF X.env.locals) (m:X.ex=[]):F7 X (Xk Cl E) Cl:=by
 intro u J p r a c I x q;have y:X.A.frames=KF (X.env::X.outer):=by rw[<- l];exact I.ok.frames
 have B:r.heap.FunFrames X.base (X.env::X.outer):=by rw[<- l];exact I.stack
 have C:∀b∈qN (X.env::X.outer),p b=KM:=by rw[<- l];exact I.stkFree
 have g:Un X.fs [] X.H₀ p X.s₀.heap r.heap:=by have:=I.base;rw[m] at this;exact this
 have v:qN (X.env::X.outer)=X.env.locals::X.fs:=by unfold qN;rw[gC,t];rfl
 rw[j];show ar (av X.prog X.w) X.A (leaving X.env (.ref a)) (λ_ f=>qR X.prog X.w Cl X.outer X.H₀ X.s₀ E (.ref a) f) (λk f=>qR X.prog X.w Cl X.outer X.H₀ X.s₀ E k f) r;unfold leaving;refine aa (JW y B t x (λb d=>I.hok.fresh d) (λb d=>iI (aF I.sz d)) λK i D=>?_);refine⟨a,c,p,rfl,I.os,I.tk,I.bare,?_,i.hok I.hok C,D,q⟩;refine⟨λb o e n d h=>?_,λb o e n d h=>?_,λb o e n h=>g.free b o e n h,λb o e h=>?_,g.tups,g.frzs,g.tbls⟩
 ·refine i.keep b o (g.keep b o e n d h) (λz=>?_) (.inr (by rw[e];exact λz=>nomatch z));rw[v] at z;rcases aq.mp z with z2|z2
  ·exact absurd (aY (aI e) I.ok.above) (by rw[z2];exact bU _)
  ·exact d z2
 ·obtain⟨L,s⟩:=g.slot b o e n d h;obtain⟨F,G⟩:=i.slot b _ s (by rw[v];exact ak _ d);exact⟨F,G⟩
 ·obtain⟨H,s⟩:=g.there b o e h;exact i.there b H s
noncomputable def B8(CX:vp)(P:aD)(w:aR)(K:ai)(mg:au->Option ae)(base:aL)(N:List au)(env:Env)(A:aU)(outer:List Env)(s:ag)(H:Hp)(E:XK):Cx where
 prog:=P
 w:=w
 K:=K
 mg:=mg
 base:=base
 A:=A.deeper env
 N:=N
 s₀:=s
 H₀:=H
 env:=env
 outer:=outer
 stack:=env::outer
 ex:=[]
 calm:=qb
 fn:=λ_=>qj
 pn:=[]
 xe:=λe s'=>ar (av P w) (A.deeper env) (leaving env e) (λ_ qK=>CX outer H s E e qK) (λe' qK=>CX outer H s E e' qK) s'
section
variable{CX:vp}{P:aD}{w:aR}{K:ai}{mg:au->Option ae}{base:aL}{N:List au}{A:aU}{outer:List Env}{s:ag}{H:Hp}{E:XK}{Cl:Nat->ae}{q:au}{scope:bS}{lam:af}{cd:ae}{cl:List (au×af)}{σ:St}{h':aL}
def Eb:F7 (B8 (qR P w Cl) P w K mg base N (sj q scope s.heap.objs.size lam cd cl) A outer s H E) (Xk Cl E) Cl:=ZE rfl rfl rfl rfl
def ZV(d:oB P w K mg base A outer s H)(n:A.handled=KM)(t:scope.kind=.function)(f:∀x,rG scope x->scope.names.lookup x=KF .free)
  (cells:∀x c,cl.lookup x=KF c->(∃v,s.heap.IsCell c v)/\H c=KM) (inj:∀x y c,cl.lookup x=KF c->cl.lookup y=KF c->x=y) (h:∀x,scope.names.lookup x=KF .free->∃c,cl.lookup x=KF c)
  (e:∀(i:Nat)x v,N[i]?=KF x->σ[i]?=KF (KF v)->scope.names.lookup x=KF .free->∃u c,RelV v u/\cl.lookup x=KF c/\s.heap.IsCell c (KF u)) (j:σ.length=N.length)
  (B:h'.Ns s.heap.objs.size (λ_=>KM)) (k:∀b o,s.heap.get? b=KF o->h'.get? b=KF o):
  L2.Inv (B8 CX P w K mg base N (sj q scope s.heap.objs.size lam cd cl) A outer s H E) [] σ H { s with heap:=h' }:=by
 have a:∀{c:af}{v:Option ae},s.heap.IsCell c v->h'.IsCell c v:=λ{c v}⟨o,ho,r⟩=>⟨o,k c o ho,r⟩;have l:∀b:af,b∉(B8 CX P w K mg base N (sj q scope s.heap.objs.size lam cd cl) A outer s H E).ex:=λb z=>absurd (show b∈([]:List af) from z) 'd';refine⟨⟨d.mod,t,rfl,rfl,aE _,inj,λy C=>?_,λy c z _=>absurd (show qj=qb from z) 's',λ_=>n,iP d.frames,.inr ⟨rfl,rfl⟩,λb z=>absurd z (l b),d.bs,d.bsz,λb _ _=>l b,λb z=>absurd z (l b),d.funs,d.frf⟩,
  rfl,d.bare,Un.kept k,⟨_,B,λi y v D F m=>?_⟩,λy c g=>?_,d.hok.fresh (aE _),λy c g=>(cells y c g).2,λp G=>absurd (show p∈([]:List (af×Obj)) from G) 'd',d.hok.kept k,j,d.tk⟩
 ·have I:scope.names.lookup y=KF .cell\/scope.names.lookup y=KF .free:=C;exact h y (f y (I.elim (λz=>.inr (.inl z)) λz=>.inr (.inr z)))
 ·obtain⟨u,c,r,J,L⟩:=e i y v D F (f y m);exact⟨u,r,.inr ⟨.inr (f y m),c,J,a L⟩⟩
 ·obtain⟨⟨v,z⟩,_⟩:=cells y c g;exact⟨v,a z⟩
def WL(d:nZ (k+1) A)(f:oB P w K mg base A outer s H)
  (l:s.heap.get? lam=KF { cls:=.type "function",data:=.func (ci name qual params body scope cl pm cd ct) }) (m:s.heap.CodeRec cd q) (n:scope.isCoroutine=qj) (p:scope.isGenerator=qj) (j:scope.kind=.function) (r:∀x∈scope.names,x.2 ≠ .cell)
  (B:bindArgs (ci name qual params body scope cl pm cd ct) ⟨[],[]⟩=pure []) (C:∀x,rG scope x->scope.names.lookup x=KF .free)
  (cells:∀x c,cl.lookup x=KF c->(∃v,s.heap.IsCell c v)/\H c=KM) (inj:∀x y c,cl.lookup x=KF c->cl.lookup y=KF c->x=y) (g:∀x,scope.names.lookup x=KF .free->∃c,cl.lookup x=KF c)
  (a:∀(i:Nat)x v,N[i]?=KF x->σ[i]?=KF (KF v)->scope.names.lookup x=KF .free->∃u c,RelV v u/\cl.lookup x=KF c/\s.heap.IsCell c (KF u)) (h:σ.length=N.length)
  (D:nZ k (A.deeper (sj q scope s.heap.objs.size lam cd cl))->PD (B8 (qR P w Cl) P w K mg base N (sj q scope s.heap.objs.size lam cd cl) A outer s H E) (Xk Cl E) body t)
  (F:nX K H XV μ σd σ) (G:nV K H XV μ O) (I:qt (Xk Cl E) K H XV μ (t σd O) Q):codeAny (av P w) A (.call (.ref lam) ⟨[],[]⟩) (CR (qR P w Cl) outer P w H s Q E) s:=by refine zfK d.depth l m n p j r B (f.mod.nolimit.keeps λb o e=>(f.bs b o e).1) λh' L M=>?_;refine bZ ((D (d.deeper _)).out [] _ σ H Q (ZV f d.hd j C cells inj g a h L M) ⟨XV,μ,σd,O,F,G,I⟩) (λv R ⟨S,T,J,U,z⟩=>?_) λe R z=>z;exact⟨⟨S,T,J.os,J.bare,J.base,J.hok,U,z⟩,J.tk⟩
end
section
variable{M:gE}{A:aU}{E:ae->ag->Prop}{s:ag}{base h0:aL}{H:Hp}{frames:List Env}{a:af}{C:ae}{Q:Unit->ag->Prop}
def Kp.refl:Kp h0 H fs h h:=⟨λ_ _ e _ _=>e,λb o e _=>⟨o.slots,e⟩,λ_ o e=>⟨o,e⟩,aE _⟩
def Kp.trans(x:Kp h0 H fs h h1)(y:Kp h0 H fs h1 h2):Kp h0 H fs h h2:=
 ⟨λb o e n k=>y.keep b o (x.keep b o e n k) n k,λb o e n=>by
  obtain⟨i,c⟩:=x.slot b o e n;obtain⟨d,f⟩:=y.slot b _ c n;exact⟨d,f⟩,λb o e=>by
  obtain⟨g,c⟩:=x.there b o e;exact y.there b g c,aF x.size y.size⟩
def zev(w:s.heap.FunFrames base frames)(x:vM h0 H s.heap a C)(h:∀h',Kp h0 H (qN frames) s.heap h'->vM h0 H h' a C->Q () { s with heap:=h' }):ar M A (setFlight (.ref a) KM) Q E s:=by
 obtain⟨⟨y,B,l,D,m,F,G⟩,n,g⟩:=id x;unfold setFlight;rcases G with j|⟨T,L,I,j,r,c,t,k,i,u⟩
 ·refine aa (bD l m j ?_);rw[q0 's'];exact ao (h s.heap .refl x)
 ·refine aa (bD l m j ?_);rw[qL (show(cZ T !=cH)=qb by simp)];refine f7 k i (ef.mp u).1 (h _ ?_ ?_)
  ·have p:∀b,b≠T->(s.heap.update T (fh (·.setIfInBounds 3 ((KM:Option af).elim cH λf=>di f)))).get? b=s.heap.get? b:=λb d=>bA _ _ (bB d);refine⟨λb o e d J=>(p b λz=>?_).trans e,λb o e d=>⟨o.slots,(p b λz=>?_).trans e⟩,λb o e=>?_,by rw[fA];exact aE _⟩
   ·subst z;rcases J with q|q
    ·exact q t
    ·exact q c
   ·subst z;obtain⟨_,N,v,K⟩:=w.mem d;rw[k] at v;cases v;exact K I i
   ·by_cases d:b=T
    ·subst d;exact⟨_,bX _ k (dO (dr i _))⟩
    ·exact⟨o,(p b d).trans e⟩
  ·refine⟨⟨y,B,(bA _ _ r).trans l,D,m,F,.inr ⟨T,_,_,j,r,c,t,bX _ k (dO (dr i _)),dr i _,?_⟩⟩,n,g⟩;rw[ij,qL (ef.mp u).1];rfl
end
section
variable{X:Cx}{Y1:List (af×Obj)}{σ:St}{H H1:Hp}{s s1:ag}
abbrev Cx.mk'(X:Cx)(a:af):Cx:={ X with A:=X.A.mark (KF (.ref a)),calm:=qj,xe:=λ_ _=>False }
def Inv.mk'(I:L2.Inv X Y1 σ H s)(a:af):L2.Inv (Cx.mk' X a) Y1 σ H s:=
 ⟨⟨I.ok.mod,I.ok.kind,I.ok.glob,I.ok.blt,I.ok.above,I.ok.inj,I.ok.has,I.ok.cab,λz=>absurd (show qj=qb from z) 's',I.ok.frames,I.ok.stk,I.ok.exf,I.ok.bs,I.ok.bsz,I.ok.noex,I.ok.exfs,I.ok.funs,I.ok.frf⟩,I.os,I.bare,I.base,I.loc,I.cell,I.free,I.freeC,I.pin,I.hok,I.len,I.tk⟩
def Inv.unmk'(ok:X.Ok)(I:L2.Inv (Cx.mk' X a) Y1 σ H s):L2.Inv X Y1 σ H s:=
 ⟨ok,I.os,I.bare,I.base,I.loc,I.cell,I.free,I.freeC,I.pin,I.hok,I.len,I.tk⟩
def Inv.raised(I:L2.Inv X Y1 σ H s)(j:s1.os=s.os)(q:0<s1.toks)(a:f6 s1.gens)(c:Un (qN X.stack) [] H H1 s.heap s1.heap)(d:HOk X.prog X.w H1 s1.heap)(h:Kp s.heap H1 (qN X.stack) s1.heap h'):L2.Inv X Y1 σ H1 { s1 with heap:=h' }:=by
 have k:L2.Inv X Y1 σ H1 s1:=I.call' (ch:=[]) j c d a (λb z=>absurd z 'd');refine I.call' (s':={ s1 with heap:=h' }) (ch:=[]) j ?_ (h.hok d k.stkFree) a (λb z=>absurd z 'd');refine⟨λb o e n f g=>h.keep b o (c.keep b o e n f g) f (.inr (by rw[e];exact λz=>nomatch z)),λb o e n f g=>?_,c.free,λb o e g=>?_,c.tups,c.frzs,c.tbls⟩
 ·obtain⟨r,i⟩:=c.slot b o e n f g;obtain⟨l,m⟩:=h.slot b _ i f;exact⟨l,m⟩
 ·obtain⟨p,i⟩:=c.there b o e g;exact h.there b p i
def Inv.track(I:L2.Inv X Y1 σ H1 s1)(x:vM s.heap H1 s1.heap a (.ref C))(j:L2.Inv X Y1 σ H s):L2.Inv X Y1 σ (upd H1 a (.ext λh=>∃f,cT h a f C KM)) s1:=by
 obtain⟨⟨t,Q,B,D,G,R,_⟩,w,i⟩:=x;have k:∀b o,s.heap.get? b=KF o->b≠a:=λb o e z=>by rw[z,w] at e;cases e
 have J:cT s1.heap a t C KM:=⟨B,D.1,by unfold PySem.W.notCls;rw[G],by rw[D.2];trivial⟩;have d:∀{b:af}{u:HO},H1 b=KF u->upd H1 a (.ext λh=>∃f,cT h a f C KM) b=KF u:=λ{b u}e=>by rw[pj (rD e i)];exact e
 have l:∀{b:af},H1 b=KM->b≠a->upd H1 a (.ext λh=>∃f,cT h a f C KM) b=KM:=λ{b}e n=>by rw[pj n];exact e
 have g:∀b,b∉X.ex->(∃o,X.s₀.heap.get? b=KF o)->b≠a:=λb q ⟨o,e⟩=>by
  obtain⟨K,L⟩:=j.base.there b o e q;exact k b K L
 refine⟨I.ok,I.os,I.bare,⟨I.base.keep,I.base.slot,λb o e n q=>l (I.base.free b o e n q) (g b q ⟨o,e⟩),I.base.there,λb M e=>d (I.base.tups b M e),λb o u e=>d (I.base.frzs b o u e),λb N e=>?_⟩,I.loc,I.cell,?_,λx c e=>?_,λp E=>?_,λb u e=>?_,I.len,I.tk⟩
 ·obtain⟨m,y⟩:=I.base.tbls b N e;exact⟨m,d y⟩
 ·obtain⟨m,⟨o,_,_,A,_⟩,_⟩:=j.loc;exact l I.free (k _ o A)
 ·obtain⟨v,o,A,_⟩:=j.cell x c e;exact l (I.freeC x c e) (k c o A)
 ·obtain⟨y,O,r⟩:=I.pin p E;exact⟨y,l O (k _ _ (j.pin p E).1),r⟩
 ·by_cases F:b=a
  ·subst F;rw[qS] at e;cases e;exact⟨⟨t,J⟩,⟨t,B⟩,λS T ⟨f,z⟩ P=>⟨f,P f z.at_,z.cls,z.no,by
    have:=z.dict;revert this;cases f.dict with
    |none=>exact λ_=>trivial
    |some _=>exact λz=>z.elim⟩⟩
  ·rw[pj F] at e;exact(I.hok b u e).stay (λ_ _ _ z=>z) (λ_ z=>d z) λ_ _ z=>d z
end
section
variable{X:Cx}{Y1:List (af×Obj)}{σ:St}{H:Hp}{s:ag}{M:gE}{A:aU}{E:ae->ag->Prop}
def zcg(I:L2.Inv X Y1 σ H s)(R:X.N.Nodup)(D:X.N[i]?=KF x)(d:X.env.scope.names.lookup x=KF .local)(F:σ[i]?=KF (KF v))
  (h:∀s',L2.Inv X Y1 (σ.set i KM) H s'->Q () s'):ar M A (unbindName X.env x) Q E s:=by
 obtain⟨m,S,G⟩:=id I.loc;obtain⟨u,_,T⟩:=G i x v D F (.inl d);have U:m x=KF u:=by
  rcases T with⟨_,z⟩|⟨z,_⟩
  ·exact z
  ·have z':X.env.scope.names.lookup x=KF .cell\/X.env.scope.names.lookup x=KF .free:=z;rw[d] at z';rcases z' with z'|z'<;>cases z'
 refine wT I (wpAny_unbindName_local d S U (by rw[I.ok.kind];rfl) λJ V W Y Z=>h _ ?_);have g:∀b o,b≠X.env.locals->s.heap.get? b=KF o->J.get? b=KF o:=λb o n e=>(Y.2 b n).trans e;have t:∀b o,X.s₀.heap.get? b=KF o->b≠X.env.locals:=λb o e=>bu (aY (aI e) I.ok.above);have K:∀b o,H b=KF o->b≠X.env.locals:=λb o e=>rD e I.free;have a:∀y c,X.env.cells.lookup y=KF c->∀w,s.heap.IsCell c w->J.IsCell c w:=λy c e w ⟨o,ho,hd⟩=>⟨o,g c o (I.cne y c e) ho,hd⟩;refine⟨I.ok,I.os,I.bare,⟨λb o e n B d=>g b o (t b o e) (I.base.keep b o e n B d),λb o e n B d=>?_,I.base.free,λb o e d=>?_,I.base.tups,I.base.frzs,I.base.tbls⟩,⟨_,W,λj y w f k e3=>?_⟩,λy c e=>?_,I.free,I.freeC,λp hp=>?_,λb o e=>?_,by rw[cr];exact I.len,Z⟩
 ·obtain⟨sl,f⟩:=I.base.slot b o e n B d;exact⟨sl,g b _ (t b o e) f⟩
 ·obtain⟨L,f⟩:=I.base.there b o e d;exact⟨L,g b L (t b o e) f⟩
 ·have O:j≠i:=by
   rintro rfl;have qM:j<σ.length:=(al.mp F).1;rw[aZ qM] at k;cases k
  rw[aW (bB O)] at k;have hy:y≠x:=by rintro rfl;exact O (KQ R f D)
  obtain⟨l,r2,l2⟩:=G j y w f k e3;refine⟨l,r2,?_⟩;rcases l2 with⟨C,q⟩|⟨C,c,q,k3⟩
  ·exact .inl ⟨C,by show(if y=x then V else m y)=KF l;rw[q0 hy];exact q⟩
  ·exact .inr ⟨C,c,q,a y c q _ k3⟩
 ·obtain⟨w,z⟩:=I.cell y c e;exact⟨w,a y c e w z⟩
 ·obtain⟨f,n1,P,r⟩:=I.pin p hp;exact⟨g _ _ P f,n1,P,r⟩
 ·refine(I.hok b o e).stay (λb2 l vo z=>g b2 l ?_ z) (λ_ z=>z) λ_ _ z=>z;rcases vo with rfl|vo
  ·exact K _ _ e
  ·exact K _ _ vo
end
section
variable{X:Cx}{Y1:List (af×Obj)}{σ:St}{H H1:Hp}{s s1:ag}
def zcF(I:L2.Inv X Y1 σ H s)(E:s1.os=s.os)(F:0<s1.toks)(b:f6 s1.gens)(G:Un (qN X.stack) [] H H1 s.heap s1.heap)(f:HOk X.prog X.w H1 s1.heap)
  (J:Kp s.heap H1 (qN X.stack) s1.heap h2) (L:vM s.heap H1 h2 a (.ref C)) (S:eR X.K (.ref C) (.ref T)=KF qb) (U:Gl X xT) (V:X.mg xT=KF (.ref T))
  (l:X.N.Nodup) (c:X.N[i]?=KF n) (M:X.N[j]?=KF y) (ur:i≠j) (d:X.env.scope.names.lookup n=KF .local) (O:X.env.scope.names.lookup y=KF .local)
  (h:∀s',L2.Inv X Y1 ((σ.set j (KF (.ref a))).set i KM) (upd H1 a (.ext λh=>∃q,cT h a q C KM)) s'->Qf .next s')
  (r:qP n:=by decide) (g:(n==("__classdict__":au))=qj:=by decide) (t:qP xT:=by decide)
  (Y:gn [.Name y p5] (.Name n p6) p7.line X.env=pure qj:=by rfl) (Z:gp [.Name y p5] (.Name n p6) X.env=pure KM:=by rfl):
  ar (av X.prog X.w) X.A (handleBy (.ref a) X.env [.ExceptHandler (KF (.Name xT p4)) (KF n) [.Assign [.Name y p5] (.Name n p6) p7] p8]) Qf X.xe { s1 with heap:=h2 }:=by
 have x:L2.Inv X Y1 σ H1 { s1 with heap:=h2 }:=Inv.raised I E F b G f J;refine wpAny_handleBy_cons (codeAny_handlers_test (Ed (X:=Cx.mk' X a) (Inv.mk' x a) U V ?_ t)) (by intro z;cases z);have LT:PySem.W.Looks (av X.prog X.w) h2 (typeOf (.ref a)) (.ref C):=by
  obtain⟨⟨oe,vs,he,hC,_⟩,_⟩:=L;exact hC.1▸(PySem.W.Looks.ld he).andThen .now
 refine(PySem.W.exm_one x.kIn LT S).at ?_;show codeAny _ _ (.handlers (.ref a) [.ExceptHandler KM (KF n) [.Assign [.Name y p5] (.Name n p6) p7] p8] X.env) _ _;refine codeAny_handlers_suite_as (zev (frames:=X.stack) x.stack L λP B x3=>?_);have I3:L2.Inv X Y1 σ H1 { s1 with heap:=P }:=Inv.raised I E F b G f (J.trans B);have I4:=Inv.track (s1:={ s1 with heap:=P }) I3 x3 I;refine En (X:=Cx.mk' X a) (v:=.ref a) (Inv.mk' I4 a) l c (.inl d) rfl (λs5 I5=>?_) (.inr d);have ps:rL (Cx.mk' X a) [.Assign [.Name y p5] (.Name n p6) p7] _:=CU (JZ (GO (X:=Cx.mk' X a) (pos:=p6) c (.inl d) r g) (Hd (X:=Cx.mk' X a) (pos:=p5) l M (.inl O) (.inr O)) Y Z) QY;refine bZ (ps Y1 s5 _ _ { nx:=λD H'=>D=(σ.set i (KF (.ref a))).set j (KF (.ref a))/\H'=upd H1 a (.ext λh=>∃q,cT h a q C KM),rt:=λ_ _=>False } I5 ?_) (λfl s6 m=>?_) λ_ _ z=>z.elim
 ·refine⟨.ref a,?_,?_⟩
  ·rw[aZ (by rw[I.len];exact(al.mp c).1)]
  ·exact⟨rfl,rfl⟩
 cases fl with
 |ret u=>obtain⟨_,_,_,_,_,z⟩:=m;exact z.elim
 |brk=>obtain⟨_,_,_,z⟩:=m;exact z.elim
 |cont=>obtain⟨_,_,_,z⟩:=m;exact z.elim
 | next=>
  obtain⟨Ny,H6,I6,rfl,rfl⟩:=m;have Q:=Inv.unmk' I.ok I6;show ar _ X.A (do bindName X.env n .none;unbindBehindTheSuite X.env n p8) _ _ s6;unfold bindName unbindBehindTheSuite;refine aa (aa (bI (wpAny_point (aa (En (v:=.non) Q l c (.inl d) rfl (λs8 I8=>wpAny_point ?_) (.inr d))))));refine iq (zcg (v:=.non) I8 l c d (aZ (by rw[Q.len];exact(al.mp c).1)) λs9 I9=>h s9 ?_);refine I9.weak 'd' λk v e=>?_;by_cases o:k=i
  ·subst o;have p:k<(σ.set j (KF (.ref a))).length:=by rw[cr,I.len];exact(al.mp c).1
   rw[aZ p] at e;cases e
  ·rw[aW (bB o)] at e ⊢;rw[aW (bB o)];by_cases R:k=j
   ·subst R;have p:k<σ.length:=by rw[I.len];exact(al.mp M).1
    rw[aZ p] at e;rw[aZ (by rw[cr];exact p)];exact e
   ·rw[aW (bB R)] at e ⊢;rw[aW (bB o)];exact e
end
section
variable{X:Cx}{Y1:List (af×Obj)}{σ:St}{H H1:Hp}{s s1:ag}
def Yi{T d:af}{Cl:Nat->ae}{nf xT n y:au}{i j L:Nat}{M p2 p3 p4 O P p7 p8 pos:Pos}{D:xO}(I:L2.Inv X Y1 σ H s)(hex:X.ex=[])
  (rO:codeAny (av X.prog X.w) X.A (.call (.ref d) ⟨[],[]⟩) (CR (qR X.prog X.w Cl) X.stack X.prog X.w H s (λ_ H'=>D.nx σ H')
   (λCv _ H1=>∃C,Cv=.ref C/\eR X.K (.ref C) (.ref T)=KF qb/\∀a,H1 a=KM->D.nx ((σ.set j (KF (.ref a))).set i KM) (upd H1 a (.ext λh=>∃ox,cT h a ox C KM)))) s)
  (vi:jP d s.heap) (R:X.N[L]?=KF nf) (zL:σ[L]?=KF (KF (.ref d))) (rm:rG X.env.scope nf) (yi:Gl X xT) (yd:X.mg xT=KF (.ref T)) (S:X.stack=X.env::X.outer) (uR:X.env.frame=KF X.env.locals)
  (hN:X.N.Nodup) (hi:X.N[i]?=KF n) (hj:X.N[j]?=KF y) (ur:i≠j) (hn:X.env.scope.names.lookup n=KF .local) (hy:X.env.scope.names.lookup y=KF .local)
  (g:qP nf:=by decide) (t:(nf==("__classdict__":au))=qj:=by decide)
  (U:qP n:=by decide) (B:(n==("__classdict__":au))=qj:=by decide) (V:qP xT:=by decide)
  (Y:swapsWith (.Call (.Name nf M) [] [] p2) KM p3.line X.env=pure qj:=by rfl)
  (hs:gn [.Name y O] (.Name n P) p7.line X.env=pure qj:=by rfl) (hw:gp [.Name y O] (.Name n P) X.env=pure KM:=by rfl):
  ar (av X.prog X.w) X.A (exec (.Try [.Expr (.Call (.Name nf M) [] [] p2) p3] [.ExceptHandler (KF (.Name xT p4)) (KF n) [.Assign [.Name y O] (.Name n P) p7] p8] [] [] pos) X.env) (SP X Y1 D) X.xe s:=by
 have F:∀(Q:ae->ag->Prop)(E:ae->ag->Prop),Q (.ref d) s->ar (av X.prog X.w) X.A (eval (.Name nf M) X.env) Q E s:=λQ E k=>by
  obtain⟨m,zR,hl⟩:=I.loc;obtain⟨u,r,l⟩:=hl L nf _ R zL rm;cases r;rcases l with⟨hk,Z⟩|⟨hk,c,hc,qu⟩
  ·exact iJ (iK I.ok.kind hk zR Z k) g
  ·rcases hk with hk|hk
   ·exact iJ (i4 I.ok.kind hk hc qu k) g
   ·exact iJ (lz I.ok.kind hk hc qu k t) g
 refine wpAny_Try_except (gg (wpAny_Expr_any ?_ I.quiet Y));refine eT (F _ _ (PySem.W.callWith_F0 vi (iM (eC rO λr s1 G=>?_))));cases r with
 | ok fl=>
  cases fl with
  |next=>exact ah G
  |brk=>exact ah G
  |cont=>exact ah G
  | ret u=>
   obtain⟨v,H',J,_,q⟩:=I.after G;exact fG (fG ⟨σ,H',J,q⟩)
 | error e=>
  obtain⟨a,c,H1,rfl,os,pP,f,un,p,x,C,hC,Z,q⟩:=G;have I1:L2.Inv X Y1 σ H1 s1:=I.call' (ch:=[]) os un p f (λb z=>absurd z 'd');rw[hC] at x;refine JW (h0:=s.heap) (by rw[<- S];exact I.ok.frames) (by rw[<- S];exact I1.stack) uR x (λb hb=>p.fresh hb) ?_ λh2 kp x2=>?_
  ·intro b hb;cases z:s.heap.get? b with
   |none=>rfl
   | some o=>
    obtain⟨o',e'⟩:=un.there b o z 'd';exact absurd (aI e') (kX.mpr hb)
  ·rw[<- S] at kp;exact zcF I os pP f un p kp x2 Z yi yd hN hi hj ur hn hy (λs' J=>⟨_,_,J,q a x.free⟩) U B V hs hw
end
structure Gq(nf n y xT:au)(p0 p1 p2 p3 p5 p6 p7 pq pc:Pos)(kc):Prop where
 hfd:qP nf:=by decide
 hfcd:(nf==("__classdict__":au))=qj:=by decide
 hnd:qP n:=by decide
 hncd:(n==("__classdict__":au))=qj:=by decide
 hTd:qP xT:=by decide
 hs0:∀env:Env,swapsWith (.Call (.Name nf p1) [] [] p2) KM p3.line env=pure qj:=by intro _;rfl
 hsA:∀env:Env,swapsWith (.Constant .none kc pc) (KF (.Name y pq)) p0.line env=pure qj:=by intro _;rfl
 hs:∀env:Env,gn [.Name y p5] (.Name n p6) p7.line env=pure qj:=by intro _;rfl
 hw:∀env:Env,gp [.Name y p5] (.Name n p6) env=pure KM:=by intro _;rfl
section
variable{X:Cx}{H:Hp}
def z6I{Y:Cx}{d:St}{H:Hp}{s1:ag}{Cl:Nat->ae}{e T:af}{nf n y xT:au}{c:List cN}{i j:Nat}{Q:VK}{W:St->Hp->Prop}{t:TS}{k x B E S F G I U l m pos:Pos}{o:_}
  (V:L2.Inv Y [] d H s1) (p:Y.ex=[]) (vf:Y.stack=Y.env::Y.outer) (uR:Y.env.frame=KF Y.env.locals) (vi:∀(J:St)(b:ag),L2.Inv Y [] J H b->jP e b.heap) (sY:Y.N[0]?=KF nf) (q:d[0]?=KF (KF (.ref e)))
  (L:Y.N.Nodup) (hi:Y.N[i]?=KF n) (M:Y.N[j]?=KF y) (ur:i≠j) (BP:j≠0) (hn:Y.env.scope.names.lookup n=KF .local) (r:Y.env.scope.names.lookup y=KF .local) (zL:rG Y.env.scope nf) (yi:Gl Y xT) (yd:Y.mg xT=KF (.ref T))
  (rO:∀b:ag,L2.Inv Y [] (d.set j (KF .non)) H b->codeAny (av Y.prog Y.w) Y.A (.call (.ref e) ⟨[],[]⟩) (CR (qR Y.prog Y.w Cl) Y.stack Y.prog Y.w H b (λ_ H'=>W (d.set j (KF .non)) H')
    (λCv _ O=>∃C,Cv=.ref C/\eR Y.K (.ref C) (.ref T)=KF qb/\∀a,O a=KM->W (((d.set j (KF .non)).set j (KF (.ref a))).set i KM) (upd O a (.ext λh=>∃ox,cT h a ox C KM)))) b)
  (qX:rL Y c t) (hW:∀σ' H',W σ' H'->t { nx:=λ_ H'=>Q .non H',rt:=Q } σ' H')
  (Z:Gq nf n y xT k x B E F G I l m o):
  ar (av Y.prog Y.w) Y.A (execs (.Assign [.Name y l] (.Constant .none o m) k :: .Try [.Expr (.Call (.Name nf x) [] [] B) E] [.ExceptHandler (KF (.Name xT S)) (KF n) [.Assign [.Name y F] (.Name n G) I] U] [] [] pos::c) Y.env) (SP Y [] { nx:=λ_ H'=>Q .non H',rt:=Q }) Y.xe s1:=by
 refine gg ?_;refine o_ (JU (X:=Y) (pos':=l) (pos:=k) L M (.inl r) (JX (j:=o) (pos:=m)) (Z.hsA _) (.inr r) [] s1 d H { nx:=λσ' H'=>σ'=d.set j (KF .non)/\H'=H,rt:=λ_ _=>False } V ⟨rfl,rfl⟩) λs b f=>?_;cases s with
 |ret u=>obtain⟨_,_,_,_,_,z⟩:=f;exact z.elim
 |brk=>obtain⟨_,_,_,z⟩:=f;exact z.elim
 |cont=>obtain⟨_,_,_,z⟩:=f;exact z.elim
 |next=>
 obtain⟨J,H2,v,rfl,rfl⟩:=f;refine gg (o_ (Yi (D:={ nx:=W,rt:=λ_ _=>False }) v p (rO b v) (vi _ b v) sY (by rw[aW BP];exact q) zL yi yd vf uR L hi M ur hn r Z.hfd Z.hfcd Z.hnd Z.hncd Z.hTd (Z.hs0 _) (Z.hs _) (Z.hw _)) λs s3 g=>?_);cases s with
 |ret u=>obtain⟨_,_,_,_,_,z⟩:=g;exact z.elim
 |brk=>obtain⟨_,_,_,z⟩:=g;exact z.elim
 |cont=>obtain⟨_,_,_,z⟩:=g;exact z.elim
 | next=>
  obtain⟨P,R,I3,w3⟩:=g;exact qX [] s3 P R _ I3 (hW P R w3)
end
section
variable{X:Cx}{Y1:List (af×Obj)}{σ:St}{H:Hp}{s:ag}
def ZW{Cl:Nat->ae}{k:Nat}{f:af}{name a:au}{b:eu}{body:List cN}{scope:bS}{B C i D c E L:ae}{F M:Option af}{O:Array (Option ae)}{N o:List au}{g:List ae}{vs:List V}{Q:VK}
  (I:L2.Inv X Y1 σ H s) (p:nZ (k+1) X.A) (P:X.K.lookup f=KF ⟨L,M,.func (bd name a b body scope B C i D F c E),O⟩)
  (R:cS X.K c a=qb) (S:rj N o scope) (T:iE s (bd name a b body scope B C i D F c E) ⟨g,[]⟩ (o.zip g)) (U:vs.length=o.length) (W:nY vs g)
  (Y:∀s1:ag,nZ k (X.A.deeper (aT a scope s.heap.objs.size f c))->L2.Inv (tN Cl X.prog X.w X.K X.mg X.base N a scope f c X.A X.stack s H E0) [] (L2.start N vs) H s1->
   ar (av X.prog X.w) (tN Cl X.prog X.w X.K X.mg X.base N a scope f c X.A X.stack s H E0).A (execs body (tN Cl X.prog X.w X.K X.mg X.base N a scope f c X.A X.stack s H E0).env) (SP (tN Cl X.prog X.w X.K X.mg X.base N a scope f c X.A X.stack s H E0) [] { nx:=λ_ H'=>Q .non H',rt:=Q }) (tN Cl X.prog X.w X.K X.mg X.base N a scope f c X.A X.stack s H E0).xe s1):
  ar (av X.prog X.w) X.A (call (.ref f) g) (EP X Y1 σ Q) X.xe s:=by
 have Z:=I.env0;have G:=I.kIn;have yg:∀z∈o.zip g,scope.names.lookup z.1=KF .local\/(scope.names.lookup z.1=KF .cell/\((b9 (s.heap.objs.size+1) scope.names []).lookup z.1).isSome=qb):=λ⟨m,v⟩ hz=>by
  rcases S.par m (iO hz).1 with q|q
  ·exact .inl q
  ·exact .inr ⟨q,fP _ _ _ (.inl q)⟩
 refine iM (eC (?_:codeAny (av X.prog X.w) X.A (.call (.ref f) ⟨g,[]⟩) (CR (qR X.prog X.w Cl) X.stack X.prog X.w H s Q E0) s) λr j l=>?_)
 ·refine kB p.depth (G _ _ P) rfl S.co S.gen rfl (lL G R) (T _ _ _ _ ?_);refine wT I (jr S.kind yg λenv he s1 x pP=>?_);subst he;refine⟨I.nolimit.keeps x.toInCall.keep,codeAny_func ?_⟩;have I1:L2.Inv (tN Cl X.prog X.w X.K X.mg X.base N a scope f c X.A X.stack s H E0) [] (L2.start N vs) H s1:=S8 S p.hd Z U W x pP;refine bZ (Y s1 (p.deeper _) I1) (λt j h=>?_) λe j h=>h;have n:∀{d:St}{H':Hp}{v:V}{u:ae},L2.Inv (tN Cl X.prog X.w X.K X.mg X.base N a scope f c X.A X.stack s H E0) [] d H' j->RelV v u->Q v H'->CE X.stack X.prog X.w H s Q u j:=
   λ{d H' v u}J y q=>⟨⟨v,H',J.os,J.bare,J.base,J.hok,y,q⟩,J.tk⟩
  cases t with
  | ret u=>
   obtain⟨v,d,H',J,y,q⟩:=h;exact n J y q
  | next=>
   obtain⟨d,H',J,q⟩:=h;exact n (v:=V.non) (u:=cH) J rfl q
  | brk=>
   obtain⟨_,_,_,q⟩:=h;exact ah q
  | cont=>
   obtain⟨_,_,_,q⟩:=h;exact ah q
 ·cases r with
  |error e=>exact Sb Y1 σ H s e j I l
  | ok t=>
   cases t with
   |ret u=>exact I.after l
   |next=>exact ah l
   |brk=>exact ah l
   |cont=>exact ah l
end
section
variable{X:Cx}{Y1:List (af×Obj)}{σ:St}{H:Hp}{s:ag}
def z8f{Cl:Nat->ae}{k:Nat}{f c T:af}{name b nf n y xT:au}{d:eu}{g:List cN}{scope:bS}{F G m J l L V:ae}{M od:Option af}{rE:Array (Option ae)}{N:List au}{i j:Nat}{Q:VK}{W:St->Hp->Prop}{p q r u O v x z P B D pos:Pos}{E:_}
  (I:L2.Inv X Y1 σ H s) (hr:nZ (k+1) X.A)
  (lk:X.K.lookup f=KF ⟨V,od,.func (bd name b d (.Assign [.Name y B] (.Constant .none E D) p :: .Try [.Expr (.Call (.Name nf q) [] [] r) u] [.ExceptHandler (KF (.Name xT O)) (KF n) [.Assign [.Name y v] (.Name n x) z] P] [] [] pos::g) scope F G m J M l L),rE⟩)
  (pQ:cS X.K l b=qb) (S:rj N [nf] scope)
  (hb:iE s (bd name b d (.Assign [.Name y B] (.Constant .none E D) p :: .Try [.Expr (.Call (.Name nf q) [] [] r) u] [.ExceptHandler (KF (.Name xT O)) (KF n) [.Assign [.Name y v] (.Name n x) z] P] [] [] pos::g) scope F G m J M l L) ⟨[.ref c],[]⟩ ([nf].zip [.ref c]))
  (vi:∀e:ag,Un (qN X.stack) [] H H s.heap e.heap->HOk X.prog X.w H e.heap->jP c e.heap) (hN:N.Nodup) (sY:N[0]?=KF nf) (hi:N[i]?=KF n) (hj:N[j]?=KF y) (ur:i≠j) (BP:j≠0) (hn:scope.names.lookup n=KF .local) (hy:scope.names.lookup y=KF .local) (zL:rG scope nf)
  (yi:scope.names.lookup xT=KF .globalImplicit) (yd:X.mg xT=KF (.ref T))
  (rO:∀e:ag,nZ k (X.A.deeper (aT b scope s.heap.objs.size f l))->oB X.prog X.w X.K X.mg X.base (X.A.deeper (aT b scope s.heap.objs.size f l)) (aT b scope s.heap.objs.size f l::X.stack) e H->Un (qN X.stack) [] H H s.heap e.heap->
   codeAny (av X.prog X.w) (X.A.deeper (aT b scope s.heap.objs.size f l)) (.call (.ref c) ⟨[],[]⟩) (CR (qR X.prog X.w Cl) (aT b scope s.heap.objs.size f l::X.stack) X.prog X.w H e (λ_ H'=>W ((L2.start N [.ref c]).set j (KF .non)) H')
    (λCv _ R=>∃C,Cv=.ref C/\eR X.K (.ref C) (.ref T)=KF qb/\∀a,R a=KM->W ((((L2.start N [.ref c]).set j (KF .non)).set j (KF (.ref a))).set i KM) (upd R a (.ext λh=>∃ox,cT h a ox C KM)))) e)
  (qX:nZ k (X.A.deeper (aT b scope s.heap.objs.size f l))->∃t,rL (tN Cl X.prog X.w X.K X.mg X.base N b scope f l X.A X.stack s H E0) g t/\∀σ' H',W σ' H'->t { nx:=λ_ H'=>Q .non H',rt:=Q } σ' H')
  (Z:Gq nf n y xT p q r u v x z B D E):
  ar (av X.prog X.w) X.A (call (.ref f) [.ref c]) (EP X Y1 σ Q) X.xe s:=by refine ZW (Cl:=Cl) (k:=k) (Q:=Q) (vs:=[.ref c]) I hr lk pQ S hb rfl (.cons rfl .nil) λs1 U I1=>?_;obtain⟨t,ht,hW⟩:=qX U;exact z6I (Y:=tN Cl X.prog X.w X.K X.mg X.base N b scope f l X.A X.stack s H E0) (Cl:=Cl) (T:=T) (W:=W) (Q:=Q) I1 rfl rfl rfl (λrR e o=>vi e o.base o.hok) sY (by rfl) hN hi hj ur BP hn hy zL yi yd (λe o=>rO e U o.env0 o.base) ht hW Z
end
section
variable{X:Cx}{Y1:List (af×Obj)}{σ:St}{H:Hp}{s s2:ag}
def QG(a:Un fs [] H H h h')(z:h.IsCell c v)(n:H c=KM):h'.IsCell c v:=by obtain⟨o,b,d⟩:=z;obtain⟨f,e⟩:=a.any b n 'd';exact⟨_,e,d⟩
def Tt{b:List (au×af)}(I:L2.Inv X Y1 σ H s)(d:Un (qN X.stack) [] H H s.heap s2.heap)(a:∀x c,b.lookup x=KF c->X.env.cells.lookup x=KF c):∀x c,b.lookup x=KF c->(∃v,s2.heap.IsCell c v)/\H c=KM:=λx c e=>by
 obtain⟨v,z⟩:=I.cell x c (a x c e);exact⟨⟨v,QG d z (I.freeC x c (a x c e))⟩,I.freeC x c (a x c e)⟩
def RD{a:List (au×af)}(I:L2.Inv X Y1 σ H s)(b:∀x c,a.lookup x=KF c->X.env.cells.lookup x=KF c):∀x y c,a.lookup x=KF c->a.lookup y=KF c->x=y:=λx y c d e=>I.ok.inj x y c (b x c d) (b y c e)
def SU{a:List (au×af)}{scope:bS}(I:L2.Inv X Y1 σ H s)(h:Un (qN X.stack) [] H H s.heap s2.heap)(j:∀x c,a.lookup x=KF c->X.env.cells.lookup x=KF c)(b:∀x,scope.names.lookup x=KF .free->∃c,a.lookup x=KF c)
  (e:∀x,scope.names.lookup x=KF .free->X.env.scope.names.lookup x=KF .cell\/X.env.scope.names.lookup x=KF .free):
  ∀(i:Nat)x v,X.N[i]?=KF x->σ[i]?=KF (KF v)->scope.names.lookup x=KF .free->∃u c,RelV v u/\a.lookup x=KF c/\s2.heap.IsCell c (KF u):=λi x v k n d=>by
 obtain⟨m,w,o⟩:=I.loc;obtain⟨u,r,l⟩:=o i x v k n (.inr (e x d));obtain⟨c,f⟩:=b x d;refine⟨u,c,r,f,?_⟩;rcases l with⟨z,_⟩|⟨_,y,g,p⟩
 ·have t:X.env.scope.names.lookup x=KF .local:=z;rcases e x d with q|q<;>(rw[t] at q;cases q)
 ·have:=j x c f;rw[g] at this;cases this;exact QG h p (I.freeC x _ g)
end
structure Ho(out sc:bS):Prop where
 kind:sc.kind=.function
 co:sc.isCoroutine=qj
 gen:sc.isGenerator=qj
 nd:(sc.names.map (·.1)).Nodup
 cell:∀x∈sc.names,x.2 ≠ .cell
 loc:∀x∈sc.names,x.2 ≠ .local
 frees:∀y∈sc.names,y.2=.free->out.names.lookup y.1=KF .cell\/out.names.lookup y.1=KF .free
def Jk(r:RS):R D:=match r with
 |.nx _ O=>.ok .non O
 |.rt d O=>.ok d O
 |_=>.bad
def DF(Ca:Nat->Nat)(n j:Nat)(tR:DS)(r:R D):R D:=match r with
 |.ok _ O=>Jk (tR ((aM n KM).set j (KF .non)) O)
 |.exc c O=>Jk (tR ((aM n KM).set j (KF (.exn (Ca c)))) O)
 |.bad=>.bad
def Am(Pt iT:Nat)(Ca:Nat->Nat)(n j:Nat)(tE:DE)(tR:DS):DE:=λσ O=>match σ[iT]? with
 |some (KF (.tab p))=>if p=Pt then DF Ca n j tR (tE σ O) else .bad
 |_=>.bad
def SK(c:a_.length=n)(a:a_[j]?=KF (KF v))(q:Y2 K H XV μ d v):nX K H XV μ ((aM n KM).set j (KF d)) a_:=by
 refine⟨by simp[c],λi x e=>?_⟩;by_cases b:j=i
 ·subst b;have f:j<n:=by have:=(al.mp a).1;lia
  rw[aZ ⇑f] at e;cases e;exact⟨v,a,q⟩
 ·rw[aW b] at e;rw[eJ] at e;split at e<;>cases e
def SM(q:qt Ex K H XV μ (Jk r) Q):n6 E' K H XV μ r { nx:=λ_ H'=>Q .non H',rt:=Q }:=by
 cases r with
 |nx σ O'=>exact λc H' b x e a=>q .non H' b x a zw
 |rt d' O'=>exact λv H' b x a r=>q v H' b x a r
 |bk σ O'=>exact ah q
 |ct σ O'=>exact ah q
 |exc a O'=>exact ah q
 |bad=>exact ah q
def HA(h:0<N.length):(L2.start N [a]).length=N.length:=by unfold L2.start;simp;lia
def Thk(Cl:Nat->ae)(P:aD)(w:aR)(K:ai)(mg:au->Option ae)(base:aL)(fs:List af)(H:Hp)(h:aL)(lam:af)(kk:Nat)(XV μ:List af)(r:R D):Prop:=
 ∀(A:aU)(outer:List Env)(s2:ag)(Q:VK)(E:XK),nZ kk A->oB P w K mg base A outer s2 H->Un fs [] H H h s2.heap->qt (Xk Cl E) K H XV μ r Q->codeAny (av P w) A (.call (.ref lam) ⟨[],[]⟩) (CR (qR P w Cl) outer P w H s2 Q E) s2
section
variable{Y:Cx}{Ex:Nat->Hp->Prop}{Cl:Nat->ae}{Ca:Nat->Nat}
def ze9{k i j:Nat}{T e:af}{x nf n y xT:au}{b:cN}{N:List au}{l:List cN}{J:DS}{X p1 p2 p3 p4 p5 p6 p7 p8 pq pc pos:Pos}{kc:_}{m:List (af×Obj)}{qf:St}{H:Hp}{s:ag}{f:af}{fd:dB}{fs:List af}{h0:aL}{XV μ:List af}{r:R D}{Q:VK}
  (I:L2.Inv Y m qf H s) (F:L2.Fun Y.K x x b f fd) (hr:nZ (k+1) Y.A)
  (MU:rV b=.Assign [.Name y pq] (.Constant .none kc pc) X :: .Try [.Expr (.Call (.Name nf p1) [] [] p2) p3] [.ExceptHandler (KF (.Name xT p4)) (KF n) [.Assign [.Name y p5] (.Name n p6) p7] p8] [] [] pos::l)
  (S:rj N [nf] (pF b)) (hN:N.Nodup) (sY:N[0]?=KF nf) (hi:N[i]?=KF n) (hj:N[j]?=KF y) (ur:i≠j) (BP:j≠0) (hn:(pF b).names.lookup n=KF .local) (hy:(pF b).names.lookup y=KF .local) (zL:rG (pF b) nf)
  (hb:∀(t g u:ae)(B:Option af)(o C:ae)(L:List ae),L.length=1->bindArgs (bd x x (uF b) (rV b) (pF b) .none t g u B o C) ⟨L,[]⟩=pure ([nf].zip L))
  (yi:(pF b).names.lookup xT=KF .globalImplicit) (yd:Y.mg xT=KF (.ref T)) (yn:∀c,Cl c=.ref (Ca c)/\zX Y.K (Ca c)/\eR Y.K (.ref (Ca c)) (.ref T)=KF qb)
  (qX:∀(f:af)(o:ae)(s:ag)(H:Hp),nZ k (Y.A.deeper (aT x (pF b) s.heap.objs.size f o))->rn (tN Cl Y.prog Y.w Y.K Y.mg Y.base N x (pF b) f o Y.A Y.stack s H E0) (Xk Cl E0) l J)
  (vi:∀p:ag,Un (qN Y.stack) [] H H s.heap p.heap->HOk Y.prog Y.w H p.heap->jP e p.heap) (th:Thk Cl Y.prog Y.w Y.K Y.mg Y.base fs H h0 e k XV μ r) (M:∀s3:ag,Un (qN Y.stack) [] H H s.heap s3.heap->Un fs [] H H h0 s3.heap)
  (q:qt Ex Y.K H XV μ (DF Ca N.length j J r) Q)
  (Z:Gq nf n y xT X p1 p2 p3 p5 p6 p7 pq pc kc:=by exact {}):
  ar (av Y.prog Y.w) Y.A (call (.ref f) [.ref e]) (EP Y m qf Q) Y.xe s:=by
 have E:0<N.length:=(al.mp sY).1;have FA:j<N.length:=(al.mp hj).1;obtain⟨oc,od,t,g,u,B,o,C,rE,rfl,lk,pQ⟩:=F.ex;have IP:iE s (bd x x (uF b) (rV b) (pF b) .none t g u B o C) ⟨[.ref e],[]⟩ ([nf].zip [.ref e]):=.of_eq (hb t g u B o C [.ref e] rfl);rw[MU] at lk IP;refine z8f (k:=k) (Q:=Q) (W:=Im (Xk Cl E0) Y.K J { nx:=λ_ H'=>Q .non H',rt:=Q }) (i:=i) (j:=j) (T:=T) (Cl:=Cl) I hr lk pQ S IP vi hN sY hi hj ur BP hn hy zL yi yd ?_ ?_ Z
 ·intro p O e0 un;refine th _ _ p _ _ O e0 (M p un) ?_;cases r with
  |bad=>exact ah q
  | ok d O'=>
   intro v H3 P U G d3;refine⟨XV,P,_,O',SK (by rw[cr,HA E]) ?_ zw,G,SM (post.ext q U)⟩;rw[aZ (by rw[HA E];exact FA)]
  | exc cc O'=>
   intro H3 P U G;obtain⟨h1,h2,h3⟩:=yn cc;refine⟨Ca cc,h1,h3,λa V=>⟨XV,P,_,O',SK (v:=.ref a) (d:=.exn (Ca cc)) (by simp[HA E]) ?_ ?_,G.laid V,SM (post.ext q (U.trans (.laid V)))⟩⟩
   ·rw[aW ur,aZ (by simp[HA E];exact FA)]
   ·unfold Y2;exact⟨a,_,rfl,⟨h2,λh z=>z⟩,.inl qS,G.not_in V⟩
 ·intro O;exact⟨_,(qX f o _ H O).out,λσ' H' z=>z⟩
end
section
variable{X:Cx}{Ex:Nat->Hp->Prop}{Cl:Nat->ae}{Ca:Nat->Nat}
def zan{k iT i j:Nat}{Pt c:af}{T:af}{x nf n y xT:au}{g:cN}{N:List au}{B:List cN}{R:DS}{G:DE}{a:eu}{body:aO}{scope:bS}{p0 p1 p2 p3 p4 p5 p6 p7 p8 pq pc pos pn pl pp:Pos}{kc:_}
  (h:qg X.K X.mg x g) (hr:nZ (k+2) X.A)
  (MU:rV g=.Assign [.Name y pq] (.Constant .none kc pc) p0 :: .Try [.Expr (.Call (.Name nf p1) [] [] p2) p3] [.ExceptHandler (KF (.Name xT p4)) (KF n) [.Assign [.Name y p5] (.Name n p6) p7] p8] [] [] pos::B)
  (S:rj N [nf] (pF g)) (hN:N.Nodup) (sY:N[0]?=KF nf) (hi:N[i]?=KF n) (hj:N[j]?=KF y) (ur:i≠j) (BP:j≠0) (hn:(pF g).names.lookup n=KF .local) (U:(pF g).names.lookup y=KF .local) (zL:rG (pF g) nf)
  (V:∀(kV W Y:ae)(an:Option af)(P ct:ae)(us:List ae),us.length=1->bindArgs (bd x x (uF g) (rV g) (pF g) .none kV W Y an P ct) ⟨us,[]⟩=pure ([nf].zip us))
  (yi:(pF g).names.lookup xT=KF .globalImplicit) (yd:X.mg xT=KF (.ref T)) (yn:∀c,Cl c=.ref (Ca c)/\zX X.K (Ca c)/\eR X.K (.ref (Ca c)) (.ref T)=KF qb)
  (qX:∀(f:af)(P:ae)(s:ag)(H:Hp),nZ (k+1) (X.A.deeper (aT x (pF g) s.heap.objs.size f P))->rn (tN Cl X.prog X.w X.K X.mg X.base N x (pF g) f P X.A X.stack s H E0) (Xk Cl E0) B R)
  (L:tI X.mg X.base c Pt) (rz:X.env.code=.ref c) (u:Ho X.env.scope scope) (t_:defaultsOf a X.env=([],[]))
  (BW:∀(name J:au)(cl:List (au×af))(Y M ct:ae),bindArgs (ci name J a body scope cl Y M ct) ⟨[],[]⟩=pure [])
  (hE:∀(q:au)(b:af)(M:ae)(cl:List (au×af))(A:aU)(l:List Env)(s:ag)(H:Hp)(E:XK),nZ k (A.deeper (sj q scope s.heap.objs.size b M cl))->PD (B8 (qR X.prog X.w Cl) X.prog X.w X.K X.mg X.base X.N (sj q scope s.heap.objs.size b M cl) A l s H E) (Xk Cl E) body G)
  (hg:Gl X x)
  (sh:qP x:=by decide)
  (Z:Gq nf n y xT p0 p1 p2 p3 p5 p6 p7 pq pc kc:=by exact {}):
  PD X Ex (.Call (.Name x pn) [.Lambda a body scope pl] [] pp) (Am Pt iT Ca N.length j G R):=by
 refine⟨?_⟩;rintro Y1 s a_ H Q I ⟨XV,μ,σ,O,e1,c1,q⟩;obtain⟨f,fd,hm,F⟩:=h;have FR:0<N.length:=(al.mp sY).1;have FA:j<N.length:=(al.mp hj).1;have hil:i<N.length:=(al.mp hi).1
 -- yO table
 obtain⟨ti,q⟩:oi H Pt/\qt Ex X.K H XV μ (DF Ca N.length j R (G σ O)) Q:=by
  unfold Am at q;split at q
  ·rename_i p hp;by_cases t8:p=Pt
   ·rw[qL t8] at q;obtain⟨v,_,d⟩:=e1.at_ iT _ hp;unfold Y2 at d;rw[t8] at d;exact⟨d.2,q⟩
   ·rw[q0 t8] at q;exact ah q
  ·exact ah q
 have pI:∀y∈scope.names,y.2=.free->∃c,X.env.cells.lookup y.1=KF c:=λy U hf=>I.ok.has y.1 (u.frees y U hf);have rf:∀x c,(rh X.env.cells scope.names []).lookup x=KF c->X.env.cells.lookup x=KF c:=λx c e=>by
  rcases Ez _ _ (bj e) with m|⟨m,z⟩
  ·cases m
  ·obtain⟨c',xm⟩:=pI (x,.free) m rfl;have tF:X.env.cells.lookup x=KF c':=xm;rw[tF] at z ⊢;rw[z];rfl
 have yo:∀x,scope.names.lookup x=KF .free->∃c,(rh X.env.cells scope.names []).lookup x=KF c:=λx e=>by
  have m:=Es (cells:=X.env.cells) scope.names [] (bj e);exact⟨_,xZ (EC _ _ u.nd 'd' (by intro p hp;cases hp)) m⟩
 have Dq:∀x,scope.names.lookup x=KF .free->X.env.scope.names.lookup x=KF .cell\/X.env.scope.names.lookup x=KF .free:=λx e=>u.frees (x,.free) (bj e) rfl;have rm:∀x,rG scope x->scope.names.lookup x=KF .free:=λx hx=>by
  rcases hx with z|z|z
  ·exact absurd rfl (u.loc _ (bj z))
  ·exact absurd rfl (u.cell _ (bj z))
  ·exact z
 refine eT (Ed I hg hm ?_ sh);refine lJ (h₀:=X.base) I.ok.mod.kin F.kp ?_ (by rfl) (by rfl);show ar _ _ (spliced ((qj,eval (.Lambda a body scope pl) X.env)::backTo pp (aA [] X.env))) _ _ s;refine fH (O_ I L rz ti (Lh pI) t_ λb M yr h' tk H' D ext cells IK uu qk r8=>?_);refine hU ⟨D.kIn,?_⟩;have Fs:b∉qN X.stack:=by
  intro V;obtain⟨_,o,ho,_⟩:=I.stack.mem V;exact absurd (aI ho) (kX.mpr uu)
 obtain⟨cc,φ,rfl,tU,Me⟩:=r8;refine ze9 (k:=k+1) (fs:=qN X.stack) (h0:=h') (XV:=XV) (μ:=μ) (r:=G σ O) D F hr MU S hN sY hi hj ur BP hn U zL V yi yd yn qX (λs2 C _=>⟨_,_,_,_,C.keep b _ qk IK Fs 'd'⟩) ?_ (λ_ C=>C) (post.ext q (ext μ)) Z;intro A l s2 Q2 E2 Fl e0 C qq;obtain⟨qn,Mu⟩:=Me _ (e0.hok cc _ tU).1;exact WL (k:=k) (t:=G) (XV:=XV) (μ:=μ) (σd:=σ) (O:=O) Fl e0 (C.keep b _ qk IK Fs 'd') Mu u.co u.gen u.kind u.cell (BW _ _ _ _ _ _) rm (Tt D C rf) (RD D rf) yo (SU D C rf yo Dq) D.len (hE _ _ _ _ _ _ _ _ _) (e1.ext (ext μ)) (cells XV μ O c1) qq
end
def XX{K:ai}{Ec:XK->Nat->Hp->Prop}{Pt:af}{F:pD}{H:Hp}{a:af}{ns:List Int}(h:∃O,F [.lst (ns.map .int)] []=.ok (.bl qb) O)(b:H Pt=KF (.tbl #[]))(c:qr K H a (ns.map V.int)):Cb K Ec 1 Pt F [.ref a] H (λv _=>v=.bl qb) λ_ _ _=>False:=by
 obtain⟨O,h⟩:=h;have d:∀(l:List Int),nW K H [] [] (l.map D.int) (l.map V.int):=λl=>by
  induction l with
  |nil=>exact .nil
  |cons x r ih=>exact .cons sv ih
 refine⟨rfl,[],[],[.lst (ns.map .int)],[],.cons ?_ .nil,⟨rfl,by simp,by simp,by simp,λk a e=>by simp at e⟩,oi.empty b,?_⟩
 ·unfold Y2;exact⟨a,_,rfl,c.imp (λz=>⟨z,by simp,by simp⟩) id,d ns⟩
 ·rw[h];intro v f g _ _ r;unfold Y2 at r;exact r
def z9(h:sc.names.lookup z=KM):¬ rG sc z:=by intro v;rcases v with v|v|v<;>(rw[h] at v;cases v)
noncomputable def ND(out sc:bS):Bool:=(match sc.kind with|.function=>qb|_=>qj) && !sc.isCoroutine && !sc.isGenerator&&decide ((sc.names.map (·.1)).Nodup)&&(sc.names.all λy=>!(y.2 == .cell) && !(y.2 == .local))&&(sc.names.all λy=>!(y.2 == .free)||out.names.lookup y.1==KF .cell||out.names.lookup y.1==KF .free)
def VY(h:ND out sc=qb):Ho out sc:=by
 unfold ND at h;simp only[bi,decide_eq_true_eq,aH] at h;obtain⟨⟨⟨⟨⟨b,d⟩,f⟩,g⟩,c⟩,i⟩:=h;refine⟨?_,by simpa using d,by simpa using f,g,λy a=>?_,λy a=>?_,λy a j=>?_⟩
 ·cases e:sc.kind<;>rw[e] at b<;>first|rfl|cases b
 ·have:=(c y a).1;simpa using this
 ·have:=(c y a).2;simpa using this
 ·have:=i y a;rw[j] at this;simpa using this
def ZN(X:K.In base)(g:mg x=KF (.ref C))(q:lr K C Gi "ValueError.__new__" = qb):Jn mg base x C:=by
 unfold lr at q;split at q
 next dd cd sl ho=>
  split at q
  next C' bm k0 k1 k2 k3 n k5 hm hs=>
   simp only[bi,beq_iff_eq,fW] at q;obtain⟨⟨⟨⟨⟨d,e⟩,b⟩,f⟩,a⟩,c⟩:=q;subst d;subst e;cases cd with
   | mk nm bs mro ns qn hd sn sub ab col del=>
    dsimp only at hm b a c;subst hm;subst b;cases sl with
    | mk l=>
     dsimp only at hs;subst hs;exact⟨g,bm,ns,nm,qn,bs,hd,sn,sub,ab,col,dd,k0,k1,k2,k3,k5,_,X _ _ ho,.of_isNs (PySem.W.isNs_of_in X a),PySem.W.nsMap_none_of_in X a c,PySem.W.tail_of_in X f⟩
  next=>cases q
 next=>cases q
def xck_of(d:dG K (.ref C) "__getattribute__" = KF (KF (.builtin "BaseException.__getattribute__")))(e:dG K (.ref C) "__getattr__" = KF KM)(f:nF K C=KF cd)
  (a:dG K (.ref C) "__class__" = KF (KF (.builtin "object.__class__"))) (g:hJ K (.builtin "object.__class__") "__get__" = KF (KF (.builtin "getset_descriptor.__get__"))) (tk:jX K (.builtin "object.__class__")=KF qb)
  (h:ip K C (.type "object")=KF qb) (i:ip K C (.type "BaseException")=KF qb)
  (k1:aV K (.ref C) (.type "int")=KF qj) (k2:aV K (.ref C) (.type "bool")=KF qj) (k3:aV K (.ref C) (.type "str")=KF qj) (j:aV K (.ref C) (.type "list")=KF qj) (k5:aV K (.ref C) (.type "tuple")=KF qj) (k:aV K (.ref C) (.type "dict")=KF qj):zX K C:=
 ⟨d,e,⟨cd,f⟩,a,g,tk,h,i,λc b=>by
  simp only[aq,bG,or_false] at b;rcases b with rfl|rfl|rfl|rfl|rfl|rfl<;>assumption⟩
def OU{K:ai}{x name d:au}{f c Pt:af}{b:eu}{body:List cN}{scope:bS}{i j e k l m g:ae}{n o h:Option af}{p q:Array (Option ae)}{vs:Array ae}(a:gU K bP x=KF (KF (.ref f)))
  (r:K.lookup f=KF ⟨m,o,.func (bd name d b body scope i j e k n (.ref c) l),p⟩) (s:K.lookup c=KF ⟨g,h,.fields vs,q⟩) (t:vs[11]?=KF (.ref Pt)):gr K x=KF (c,Pt):=by unfold gr;rw[a];simp only[r];show(match K.lookup c with|some ⟨_,_,.fields vs,_⟩=>_|_=>KM)=_;simp only[s,t]
def z6r:bg "ValueError" = KF (.type "ValueError"):=by boot_by_name
structure ou(P:aD)(w:aR)(ia:af)(fp:List af)(n:Nat)(Pv:Nat->ae->Prop)(Sx:Nat->aL->Prop):Prop where
 stab:∀i h h',Sx i h->(∀b∈ia::fp,∀o,h.get? b=KF o->h'.get? b=KF o)->Sx i h'
 item:∀(A:aU)(i:Nat)(s:ag)(Q:ae->ag->Prop)(E:ae->ag->Prop),i<n->Sx i s.heap->(∀v h' tk,Pv i v->Sx (i+1) h'->dP ia s.heap h'->Q v { s with heap:=h',toks:=tk })->ar (av P w) A (cz (.ref ia)) Q E s
 done:∀(A:aU)(i:Nat)(s:ag)(Q:ae->ag->Prop)(E:ae->ag->Prop),A.handled=KM->n<=i->Sx i s.heap->(∀h' e,mE ia s.heap h'->(∃o,h'.get? e=KF o/\o.cls=.type "StopIteration")->E (.ref e) { s with heap:=h' })->ar (av P w) A (cz (.ref ia)) Q E s
section
variable{P:aD}{w:aR}{A:aU}{E:ae->ag->Prop}{s:ag}
def zdj{α:Type}{Q:α->ag->Prop}(c:A.handled=KM)(h:∀h' e,(∀b o,s.heap.get? b=KF o->h'.get? b=KF o)->(∃o,h'.get? e=KF o/\o.cls=.type "StopIteration")->E (.ref e) { s with heap:=h' }):
  ar (av P w) A (newExc (.type "StopIteration") [] >>= λe=>(raiseNew e:Sem α)) Q E s:=by refine aa ?_;simp only[newExc,newTuple];refine aa (dL (?_) (by size_fits));refine aa (m:=firstArgMember _ _) (mD (a:=.none) (by first|rfl|(simp only[firstArgMember];rfl)) (dL ?_ (by size_fits)));simp only[raiseNew];refine aa (wpAny_handled ?_);rw[c];refine aa (ao (wpAny_throw (h _ _ (λb o e=>aj _ (aj _ e)) ⟨_,aN _ rfl,rfl⟩)))
def zaX(l g:af)(a:Array ae)(J:g≠l):ou P w l [g] a.size (λi v=>a[i]?=KF v) (λi h=>h.IsTupleIter l g i/\h.IsTuple g a) where
 stab:=by
  rintro i h B ⟨⟨o,e,c,d⟩,⟨C,K,r⟩⟩ k;exact⟨⟨o,k l 'd' o e,c,d⟩,⟨C,k g 'd' C K,r⟩⟩
 item:=by
  rintro A i s Q E t ⟨f,u⟩ y;obtain⟨L,m,D,j⟩:=id f;obtain⟨F,n,G,H,p⟩:=id u;have q:a[i]?=KF a[i]:=dN t;unfold cz;refine aa (cO (name := "__next__") f.typeIs fj (cF fj f.typeIs jl ?_ (i8 _)));show ar _ _ (field (.ref l) 0 >>= _) _ _ s;refine aa (bD m j (x:=.ref g) rfl ?_);show ar _ _ (if (cZ g==cH)=qb then _ else _) _ _ s;rw[q0 (by exact cB)];show ar _ _ (field (.ref l) 1 >>= _) _ _ s;refine aa (bD m j (x:=.int i 0) rfl ?_);show ar _ _ (seqItems? (.ref g) >>= _) _ _ s;refine aa (dH n p ?_);simp only[mr,q];refine aa (f7 m j 'd' (ao ⟨_,rfl,ao (y _ _ s.toks q ⟨?_,?_⟩ (eL ..))⟩))
  ·exact⟨_,bX _ m (dO (dr j _)),(mq ..).trans D,by rw[dr j];simp[di]⟩
  ·exact⟨F,(eL ..).extBut _ _ J n,G,H,p⟩
 done:=by
  rintro A i s Q E I t ⟨f,u⟩ y;obtain⟨L,m,D,j⟩:=id f;obtain⟨F,n,G,H,p⟩:=id u;have q:a[i]?=KM:=by simp[t]
  unfold cz;refine aa (cO (name := "__next__") f.typeIs fj (cF fj f.typeIs jl ?_ (i8 _)));show ar _ _ (field (.ref l) 0 >>= _) _ _ s;refine aa (bD m j (x:=.ref g) rfl ?_);show ar _ _ (if (cZ g==cH)=qb then _ else _) _ _ s;rw[q0 (by exact cB)];show ar _ _ (field (.ref l) 1 >>= _) _ _ s;refine aa (bD m j (x:=.int i 0) rfl ?_);show ar _ _ (seqItems? (.ref g) >>= _) _ _ s;refine aa (dH n p ?_);simp only[mr,q];refine aa (dW (aa (f7 m j 'd' ?_)));refine zdj (by first|exact I|(show A.in1.handled=KM;exact I)) λB e k M=>y B e (λb o N z=>k b o ((eL ..).extBut _ _ N z)) M
end
structure F6(z ti to:af)(i1 i2:af)(sT sG:List af):Prop where
 a1:ti≠z
 a2:to≠z
 a3:ti≠to
 b1:∀b∈i1::sT,b≠z/\b≠to
 b2:∀b∈i2::sG,b≠z/\b≠to
 c1:i1∉i2::sG
 c2:i2∉i1::sT
 d1:ti≠i1
 d2:ti≠i2
section
variable{P:aD}{w:aR}{A:aU}{E:ae->ag->Prop}{s:ag}{z ti to i1 i2:af}{sT sG:List af}{n1 n2 k:Nat}{P1 P2:Nat->ae->Prop}{S1 S2:Nat->aL->Prop}{a b:ae}
def ou.but(J:ou P w ia fp n Pv Sx)(x:Sx i h)(e:mE c h h')(d:∀b∈ia::fp,b≠c):Sx i h':=J.stab i h h' x λb f o z=>e b o (d b f) z
def zfR{Q:ae->ag->Prop}(i:ou P w i1 sT n1 P1 S1)(j:ou P w i2 sG n2 P2 S2)(D:F6 z ti to i1 i2 sT sG)(l:jF s.heap z ti to .none)(BE:fq s.heap ti (.ref i1) (.ref i2))(BD:fq s.heap to a b)(h1:S1 k s.heap)(h2:S2 k s.heap)(l1:k<n1)(l2:k<n2)
  (hq:∀x y h' tk,P1 k x->P2 k y->jF h' z ti to (di s.heap.objs.size)->fq h' to x y->S1 (k+1) h'->S2 (k+1) h'->fq h' s.heap.objs.size x y->
   (∀c o,c≠z->c≠to->c≠i1->c≠i2->s.heap.get? c=KF o->h'.get? c=KF o)->Q (.ref s.heap.objs.size) { s with heap:=h',toks:=tk }):
  ar (av P w) A (fx.«zip.__next__» ⟨[.ref z],[]⟩) (λf s'=>∃v,f=.done (.ret v)/\Q v s') E s:=by
 have g:∀b∈i1::sT,b≠z:=λb d=>(D.b1 b d).1;have h:∀b∈i2::sG,b≠z:=λb d=>(D.b2 b d).1;have H:∀b∈i1::sT,b≠to:=λb d=>(D.b1 b d).2;have I:∀b∈i2::sG,b≠to:=λb d=>(D.b2 b d).2;have LX:∀b∈i2::sG,b≠i1:=λb d e=>D.c1 (e▸d);have J:∀b∈i1::sT,b≠i2:=λb d e=>D.c2 (e▸d);have R:i1∈i1::sT:=am;have S:i2∈i2::sG:=am;show ar _ _ (field (.ref z) 2 >>= _) _ _ s;refine aa (bD l rfl rfl ?_);refine aa (bD l rfl rfl (aa (dH BE rfl ?_)));refine aa ?_;unfold dZ;refine aa (bD l rfl rfl (ao ?_));simp only[if_true];refine aa (dW (aa (bD l rfl rfl ?_)));refine aa (cC l 'd' λha za m=>?_);refine aa ?_;simp only[iy,mV,fM,kF];refine aa (aa (iq ?_));show ar _ _ (cz (.ref i1) >>= _) _ _ _;refine aa (i.item _ k _ _ _ l1 (i.but h1 m.extBut g) λx d uo px Uz n=>ao ?_);have T:=n.extBut _ _ (bB (H _ R)) (m.extBut _ _ D.a2 BD);refine aa (dH T rfl (aa (iU T λhc Us p=>?_)));refine aa (fQ (ao (aa (aa (iq ?_)))));show ar _ _ (cz (.ref i2) >>= _) _ _ _;refine aa (j.item _ k _ _ _ l2 (j.but (j.but (j.but h2 m.extBut h) n.extBut LX) p.extBut I) λy hd tk2 py K r=>ao ?_);have U:=r.extBut _ _ (bB (I _ S)) Us;refine aa (dH U rfl (aa (iU U λt B u=>?_)));have B:fq t to x y:=B;refine aa (fQ (ao (ao (aa (dH B rfl (aa (i9 ?_)))))));have V:t.objs.size=s.heap.objs.size:=by rw[u.1,r.1,p.1,n.1,m.1]
 have W:=u.extBut _ _ (bB D.a2) (r.extBut _ _ (bB (h _ S)) (p.extBut _ _ (bB D.a2) (n.extBut _ _ (bB (g _ R)) za)));have ke:∀c o,c≠z->c≠to->c≠i1->c≠i2->s.heap.get? c=KF o->t.get? c=KF o:=λc o C F L M e=>u.extBut _ _ F (r.extBut _ _ M (p.extBut _ _ F (n.extBut _ _ L (m.extBut _ _ C e))));have N:=i.but (i.but (i.but Uz p.extBut H) r.extBut J) u.extBut H;have O:=j.but K u.extBut I;have X:=aI W;refine aa ?_;unfold eV;have zf:jF (t.push { cls:=.type "tuple",data:=.seq #[x,y] }) z ti to .ellipsis:=aj _ W;refine aa (cC zf 'd' λhg zg Y=>?_);refine cC zg 'd' λZ zi si=>?_;have G:∀c o,c≠z->t.get? c=KF o->Z.get? c=KF o:=λc o q e=>si.extBut _ _ q (Y.extBut _ _ q (aj _ e));have pi:=si.extBut _ _ (dQ X) (Y.extBut _ _ (dQ X) (aN _ rfl));rw[V] at zi pi;refine ao ⟨_,rfl,?_⟩;rw[V];exact hq x y Z _ px py zi (G _ _ D.a2 B) (i.stab _ _ _ N λb d o e=>G b o (g b d) e) (j.stab _ _ _ O λb d o e=>G b o (h b d) e) pi λc o C F L M e=>G c o C (ke c o C F L M e)
def ZH(K:A.handled=KM)(u:ou P w i1 sT n1 P1 S1)(v:ou P w i2 sG n2 P2 S2)(D:F6 z ti to i1 i2 sT sG)(g:jF s.heap z ti to .none)(U:fq s.heap ti (.ref i1) (.ref i2))(V:fq s.heap to a b)(L:S1 k s.heap)(W:S2 k s.heap)(l:n1<=k\/(k<n1/\n2<=k))
  (M:∀h' tk e,(∀c o,c≠z->c≠to->c≠i1->c≠i2->s.heap.get? c=KF o->h'.get? c=KF o)->(∃o,h'.get? e=KF o/\o.cls=.type "StopIteration")->E (.ref e) { s with heap:=h',toks:=tk }):
  ar (av P w) A (fx.«zip.__next__» ⟨[.ref z],[]⟩) Q E s:=by
 have f:∀b∈i1::sT,b≠z:=λb d=>(D.b1 b d).1;have m:∀b∈i2::sG,b≠z:=λb d=>(D.b2 b d).1;have X:∀b∈i1::sT,b≠to:=λb d=>(D.b1 b d).2;have Y:∀b∈i2::sG,b≠to:=λb d=>(D.b2 b d).2;have Z:∀b∈i2::sG,b≠i1:=λb d e=>D.c1 (e▸d);have C:i1∈i1::sT:=am;have m2:i2∈i2::sG:=am;show ar _ _ (field (.ref z) 2 >>= _) _ _ s;refine aa (bD g rfl rfl ?_);refine aa (bD g rfl rfl (aa (dH U rfl ?_)));refine aa ?_;unfold dZ;refine aa (bD g rfl rfl (ao ?_));simp only[if_true];refine aa (dW (aa (bD g rfl rfl ?_)));refine aa (cC g 'd' λha N i=>?_);refine aa ?_;simp only[iy,mV,fM,kF];refine aa (aa (iq ?_));show ar _ _ (cz (.ref i1) >>= _) _ _ _;have n:∀{h:aL}{e:af},jF h z ti to .ellipsis->(∃o,h.get? e=KF o/\o.cls=.type "StopIteration")->e≠z:=λ{h e}g ⟨o,ho,y⟩ q=>by subst q;rw[g] at ho;cases ho;simp at y
 rcases l with l|⟨l1,l⟩
 ·refine aa (u.done _ k _ _ _ K l (u.but L i.extBut f) λd e p r=>?_);have O:=p _ _ (bB (f _ C)) N;have F:=n O r;obtain⟨G,H,I⟩:=r;exact cC O 'd' λy _ j=>M y _ e (λc o t _ J _ x=>j.extBut _ _ t (p _ _ J (i.extBut _ _ t x))) ⟨G,j.extBut _ _ F H,I⟩
 ·refine aa (u.item _ k _ _ _ l1 (u.but L i.extBut f) λx d uo px Uz B=>ao ?_);have R:=B.extBut _ _ (bB (X _ C)) (i.extBut _ _ D.a2 V);refine aa (dH R rfl (aa (iU R λy Us j=>?_)));refine aa (fQ (ao (aa (aa (iq ?_)))));show ar _ _ (cz (.ref i2) >>= _) _ _ _;refine aa (v.done _ k _ _ _ K l (v.but (v.but (v.but W i.extBut m) B.extBut Z) j.extBut Y) λhd e p r=>?_);have S:=p _ _ (bB (m _ m2)) (j.extBut _ _ (bB D.a2) (B.extBut _ _ (bB (f _ C)) N));have F:=n S r;obtain⟨G,H,I⟩:=r;exact cC S 'd' λhf _ T=>M hf _ e (λc o t q2 J q4 x=>T.extBut _ _ t (p _ _ q4 (j.extBut _ _ q2 (B.extBut _ _ J (i.extBut _ _ t x))))) ⟨G,T.extBut _ _ F H,I⟩
def zfI{Q:Option ae->ag->Prop}(f:ou P w i1 sT n1 P1 S1)(g:ou P w i2 sG n2 P2 S2)(D:F6 z ti to i1 i2 sT sG)(d:jF s.heap z ti to .none)(h:fq s.heap ti (.ref i1) (.ref i2))(i:fq s.heap to a b)(j:S1 k s.heap)(l:S2 k s.heap)(m:k<n1)(n:k<n2)
  (p:∀x y h' tk,P1 k x->P2 k y->jF h' z ti to (di s.heap.objs.size)->fq h' to x y->S1 (k+1) h'->S2 (k+1) h'->fq h' s.heap.objs.size x y->
   (∀c o,c≠z->c≠to->c≠i1->c≠i2->s.heap.get? c=KF o->h'.get? c=KF o)->Q (KF (.ref s.heap.objs.size)) { s with heap:=h',toks:=tk }):ar (av P w) A (pyNext (.ref z)) Q E s:=by have e:s.TypeIs (.ref z) "zip":=⟨_,d,rfl⟩;exact aa (fE (cO e iV (cF iV e mL (zfR f g D d h i j l m n λx y h' tk q r t u v B C F=>ao (p x y h' tk q r t u v B C F)) (ms _))))
def Xw(g:A.handled=KM)(h:ou P w i1 sT n1 P1 S1)(i:ou P w i2 sG n2 P2 S2)(D:F6 z ti to i1 i2 sT sG)(d:jF s.heap z ti to .none)(j:fq s.heap ti (.ref i1) (.ref i2))(l:fq s.heap to a b)(m:S1 k s.heap)(n:S2 k s.heap)(p:n1<=k\/(k<n1/\n2<=k))
  (q:∀h' tk,(∀c o,c≠z->c≠to->c≠i1->c≠i2->s.heap.get? c=KF o->h'.get? c=KF o)->Q KM { s with heap:=h',toks:=tk }):ar (av P w) A (pyNext (.ref z)) Q E s:=by have f:s.TypeIs (.ref z) "zip":=⟨_,d,rfl⟩;refine aa (fE (cO f iV (cF iV f mL (ZH g h i D d j l m n p λh' tk e r t=>?_) (ms _))));obtain⟨u,v,x⟩:=t;exact aa (wpAny_isInstance ⟨u,v,x⟩ isSubtype_stop (ao (q _ tk r)))
end
inductive ZK where
 |tup (t:af) (items:Array ae)
 |str (x:au) (t:Tok)
 |lst (l:af) (items:Array ae)
def ZK.val:ZK->ae
 |.tup t _=>.ref t
 |.str x t=>.str x t
 |.lst l _=>.ref l
noncomputable def ZK.obj:ZK->Obj
 |.tup t _=>{ cls:=.type "tuple_iterator",data:=.fields #[.ref t,.int 0 0] }
 |.str x t=>{ cls:=.type "str_ascii_iterator",data:=.fields #[.str x t,.int 0 0] }
 |.lst l _=>{ cls:=.type "list_iterator",data:=.fields #[.ref l,.int 0 0] }
def ZK.pre(h:aL):ZK->Prop
 |.tup t items=>h.IsTuple t items
 |.str x _=>x.cps.all (· < 128)=qb
 |.lst l items=>h.IsList l items
def ZK.keep(k:∀b o,h.get? b=KF o->h'.get? b=KF o):∀(q:ZK),q.pre h->q.pre h'
 |.tup t items,⟨o,e,r⟩=>⟨o,k _ _ e,r⟩
 |.str x t,e=>e
 |.lst l items,⟨o,e,r⟩=>⟨o,k _ _ e,r⟩
def ZK.iter(q:ZK)(h:q.pre s.heap)(a:Q (.ref s.heap.objs.size) { s with heap:=s.heap.push q.obj }):ar (av P w) A (pyIter q.val) Q E s:=by
 cases q with
 |tup t items=>exact fK h a
 |str x t=>exact wpAny_pyIter_ascii h a
 |lst l items=>exact fo h a
abbrev zH(h:aL)(a b:ZK):aL:=(((((h.push a.obj).push b.obj).push { cls:=.type "tuple",data:=.seq #[.ref h.objs.size,.ref (h.push a.obj).objs.size] }).push { cls:=.type "tuple",data:=.seq #[.none,.none] }).push
 { cls:=.type "zip",data:=.fields #[.none,.bool qj,.bool qj,.ref ((h.push a.obj).push b.obj).objs.size,.ref (((h.push a.obj).push b.obj).push { cls:=.type "tuple",data:=.seq #[.ref h.objs.size,.ref (h.push a.obj).objs.size] }).objs.size] })
abbrev zA(h:aL)(a b:ZK):af:=((((h.push a.obj).push b.obj).push { cls:=.type "tuple",data:=.seq #[.ref h.objs.size,.ref (h.push a.obj).objs.size] }).push { cls:=.type "tuple",data:=.seq #[.none,.none] }).objs.size
def YR(a b:ZK)(k l:ae)(n:a.val=k)(p:b.val=l):Meets (fx.«zip.__new__» ⟨[.type "zip",k,l],[]⟩) (λ_ R s=>a.pre s.heap/\b.pre s.heap/\R (.ok (.ret (.ref (zA s.heap a b)))) { s with heap:=zH s.heap a b }):=
 .of_wp λP w A R s h=>by
  obtain⟨f,g,d,i,j⟩:=s;obtain⟨q,r,h⟩:=h;have v:=sub_zip;have t:∀{E:ae->ag->Prop}{Q:ae->ag->Prop},Q (.ref f.objs.size) ⟨f.push a.obj,g,d,i,j⟩->ar (av P w) A.in1 (pyIter k) Q E ⟨f,g,d,i,j⟩:=λ{E Q}hq=>by rw[<- n];exact a.iter (s:=⟨f,g,d,i,j⟩) q hq
  have m:b.pre (f.push a.obj):=b.keep (λc o e=>aj _ e) r;have u:∀{E:ae->ag->Prop}{Q:ae->ag->Prop},Q (.ref (f.push a.obj).objs.size) ⟨(f.push a.obj).push b.obj,g,d,i,j⟩->ar (av P w) A.in1 (pyIter l) Q E ⟨f.push a.obj,g,d,i,j⟩:=λ{E Q}hq=>by rw[<- p];exact b.iter (s:=⟨f.push a.obj,g,d,i,j⟩) m hq
  wp_walk using t,u
  exact⟨_,rfl,h⟩
section
variable{P:aD}{w:aR}{A:aU}{E:ae->ag->Prop}{s:ag}
def zcM(a b:ZK)(n:a.pre s.heap)(p:b.pre s.heap)
  (h:∀h',jF h' (s.heap.objs.size+4) (s.heap.objs.size+2) (s.heap.objs.size+3) .none->fq h' (s.heap.objs.size+2) (.ref s.heap.objs.size) (.ref (s.heap.objs.size+1))->fq h' (s.heap.objs.size+3) .none .none->
   h'.get? s.heap.objs.size=KF a.obj->h'.get? (s.heap.objs.size+1)=KF b.obj->(∀c o,s.heap.get? c=KF o->h'.get? c=KF o)->Q (.ref (s.heap.objs.size+4)) { s with heap:=h' }):
  ar (av P w) A (call (.type "zip") [a.val,b.val]) Q E s:=by
 refine callType_new F.called_zip 's' (F.typeCall_zip_2 _ _) (F.newCall_zip_2 _ _) (λd=>F.args_object_init_3 d _ _) F.entry_zip_new (YR a b _ _ rfl rfl) ⟨n,p,?_⟩;have q:a.obj.isFreed=qj:=by cases a<;>rfl
 have r:b.obj.isFreed=qj:=by cases b<;>rfl
 have e:(s.heap.push a.obj).objs.size=s.heap.objs.size+1:=cD ..;have f:((s.heap.push a.obj).push b.obj).objs.size=s.heap.objs.size+2:=by rw[cD,e]
 have g:(((s.heap.push a.obj).push b.obj).push { cls:=.type "tuple",data:=.seq #[.ref s.heap.objs.size,.ref (s.heap.push a.obj).objs.size] }).objs.size=s.heap.objs.size+3:=by rw[cD,f]
 have j:zA s.heap a b=s.heap.objs.size+4:=by show Array.size _=_;rw[cD,g]
 have i:(zH s.heap a b).get? (zA s.heap a b)=KF _:=aN _ rfl;have k:(zH s.heap a b).get? (((s.heap.push a.obj).push b.obj).push { cls:=.type "tuple",data:=.seq #[.ref s.heap.objs.size,.ref (s.heap.push a.obj).objs.size] }).objs.size=KF _:=aj _ (aN _ rfl);have l:(zH s.heap a b).get? ((s.heap.push a.obj).push b.obj).objs.size=KF _:=aj _ (aj _ (aN _ rfl));have m:(zH s.heap a b).get? (s.heap.push a.obj).objs.size=KF _:=aj _ (aj _ (aj _ (aN _ r)));have t:(zH s.heap a b).get? s.heap.objs.size=KF _:=aj _ (aj _ (aj _ (aj _ (aN _ q))));rw[f,g,j] at i;rw[g] at k;rw[e,f] at l;rw[e] at m;rw[j];exact⟨⟨_,i,rfl⟩,h _ i l k t m λc o x=>aj _ (aj _ (aj _ (aj _ (aj _ x))))⟩
end
def Held(X:Cx)(H:Hp)(h:aL)(b:af):Prop:=H b≠KM \/ ∃o,X.base.get? b=KF o
def Held.far{X:Cx}{a:List (af×Obj)}{σ:St}{H:Hp}{s:ag}{b q:af}(I:L2.Inv X a σ H s)(x:Held X H s.heap b)(f:rS X a H q):b≠q:=by
 rintro rfl;rcases x with x|⟨o,e⟩
 ·exact x f.1
 ·rcases f.2.2.2.1 with z|z
  ·exact I.ok.noex b o e z
  ·exact absurd (aY (aI e) I.ok.bsz) (kX.mpr z)
structure DG(P:aD)(w:aR)(K:ai)(J:It)(ia:af)(S:Nat->aL->Prop):Prop where
 obj:∀i h,S i h->∃o,h.get? ia=KF o/\∀v,o.data ≠ .cell v
 keep:∀i h h',S i h->(∀o,h.get? ia=KF o->h'.get? ia=KF o)->S i h'
 got:∀(X:Cx),X.prog=P->X.w=w->X.K=K->∀(i:Nat)(Y1:List (af×Obj))(s:ag)(σ:St)(H:Hp),L2.Inv X Y1 σ H s->rS X Y1 H ia->S i s.heap->(J.go i H\/J.stop i H)->
  ∃fp n Pv Sx,ou P w ia fp n Pv Sx/\Sx i s.heap/\(∀j h,Sx j h->S j h)/\(J.go i H->i<n)/\(J.stop i H->n<=i)/\(∀v,Pv i v->∃x,RelV x v/\J.yld i H x H)/\∀b∈fp,Held X H s.heap b
section
variable{P:aD}{w:aR}{K:ai}
def P9{X:Cx}{b:List (af×Obj)}{σ:St}{H:Hp}{s:ag}{a:af}{xs:List V}(I:L2.Inv X b σ H s)(h:rH X.K H a xs):Held X H s.heap a:=by
 rcases h with h|⟨o,d,n,c,_⟩
 ·exact .inl (by rcases h with h|⟨_,h⟩<;>(rw[h];simp))
 ·exact .inr ⟨o,I.ok.mod.kin a o c⟩
def zc7{xs:List V}{a:List ae}{i:Nat}{v:ae}(r:nY xs a)(e:a[i]?=KF v):∃x,xs[i]?=KF x/\RelV x v:=by
 have f:=r.length;have b:i<xs.length:=by have:=(al.mp e).1;lia
 obtain⟨u,c,d⟩:=r.get (aC b);rw[e] at c;cases c;exact⟨_,aC b,d⟩
def PV(a l:af):DG P w K (Np K a) l (λi h=>h.IsTupleIter l a i) where
 obj:=λi h ⟨o,e,c,d⟩=>⟨o,e,λv z=>by rw[d] at z;cases z⟩
 keep:=λi h R ⟨o,e,c,d⟩ k=>⟨o,k o e,c,d⟩
 got:=by
  intro X B C D i q s S H I E F G;subst B C D;have J:∃g,rH X.K H a g:=by
   rcases G with⟨g,x,h,_⟩|⟨g,h,_⟩<;>exact⟨g,h⟩
  obtain⟨g,f⟩:=J;obtain⟨r,t,p,T⟩:=I.tuple f;have U:=t.length;refine⟨[a],_,_,_,zaX l a r.toArray ((P9 I f).far I E),⟨F,p⟩,λj h z=>z.1,λ⟨u,y,m,A⟩=>?_,λ⟨u,m,A⟩=>?_,λv L=>?_,λb M=>?_⟩
  ·have e:=I.tuple_inj m f;subst e;have:=(al.mp A).1;simp;lia
  ·have e:=I.tuple_inj m f;subst e;simp;lia
  ·have n:r[i]?=KF v:=⇑L
   obtain⟨x,N,O⟩:=zc7 t n;exact⟨x,O,rfl,λu Q=>by rw[I.tuple_inj Q f];exact N⟩
  ·have:b=a:=⇑M
   subst this;exact P9 I f
end
def VE(J1 J2:It):It:=
 ⟨λi H=>J1.go i H/\J2.go i H,λi H v H'=>∃p x y,H p=KM/\v=.ref p/\J1.yld i H x H/\J2.yld i H y H/\H'=upd H p (.tup [x,y]),λi H=>J1.stop i H/\(J2.go i H\/J2.stop i H)\/J1.go i H/\J2.stop i H⟩
def VU(z t o i j:af)(S1 S2:Nat->aL->Prop)(n:Nat)(h:aL):Prop:=jF h z t o .none/\fq h t (.ref i) (.ref j)/\(∃a b,fq h o a b)/\S1 n h/\S2 n h
def zaS(z t o i j:af)(ap:[z,t,o,i,j].Nodup)(W:DG P w K J1 i S1)(Y:DG P w K J2 j S2):xt P w K (.Tuple es kt pt) (VE J1 J2) [z,t,o,i,j] z (VU z t o i j S1 S2):=by
 simp only[bq,aq,bG,or_false,not_or,f8,and_true] at ap;obtain⟨⟨a1,a2,a3,a4⟩,⟨b1,b2,b3⟩,⟨c1,c2⟩,d1,_⟩:=ap;have Q0:∀{X:Cx}{d:List (af×Obj)}{s:ag}{C:St}{H:Hp}{Z sG:List af},L2.Inv X d C H s->(∀b∈[z,t,o,i,j],rS X d H b)->(∀b∈Z,Held X H s.heap b)->(∀b∈sG,Held X H s.heap b)->F6 z t o i j Z sG:=λ{X d s C H Z sG}I r h1 h2=>
  ⟨bB a1,bB a2,b1,λb f=>(aq.mp f).elim (λe=>by rw[e];exact⟨bB a3,bB c1⟩) λf=>⟨(h1 b f).far I (r z 'd'),(h1 b f).far I (r o 'd')⟩,
   λb f=>(aq.mp f).elim (λe=>by rw[e];exact⟨bB a4,bB c2⟩) λf=>⟨(h2 b f).far I (r z 'd'),(h2 b f).far I (r o 'd')⟩,
   λf=>(aq.mp f).elim d1 λf=>(h2 i f).far I (r i 'd') rfl,λf=>(aq.mp f).elim (bB d1) λf=>(h1 j f).far I (r j 'd') rfl,b2,b3⟩
 refine⟨by simp,λn h F b f=>?_,λn h h' F k=>?_,?_,?_,λA n s Q E F q=>wpAny_pyIter_zip F.1 q⟩
 ·obtain⟨J,G,⟨a,b',L⟩,M,N⟩:=F;simp only[aq,bG,or_false] at f;rcases f with rfl|rfl|rfl|rfl|rfl
  ·exact⟨_,J,λv e=>by cases e⟩
  ·exact⟨_,G,λv e=>by cases e⟩
  ·exact⟨_,L,λv e=>by cases e⟩
  ·exact W.obj n h M
  ·exact Y.obj n h N
 ·obtain⟨J,G,⟨a,b',L⟩,M,N⟩:=F;exact⟨k z 'd' _ J,k t 'd' _ G,⟨a,b',k o 'd' _ L⟩,W.keep n h h' M (k i 'd'),Y.keep n h h' N (k j 'd')⟩
 ·intro X O R S l n d s C H E I r F hg;obtain⟨g1,g2⟩:=hg;obtain⟨J,G,⟨a,b,L⟩,M,N⟩:=F;obtain⟨Z,n1,P1,T1,Z1,s1,u1,Du,qi,y1,f1⟩:=W.got X O R S n d s C H I (r i 'd') M (.inl g1);obtain⟨sG,n2,P2,T2,Z2,s2,u2,Vn,pO,y2,f2⟩:=Y.got X O R S n d s C H I (r j 'd') N (.inl g2);have D:=Q0 I r f1 f2;subst O R S;refine wT I (zfI Z1 Z2 D J G L s1 s2 (Du g1) (Vn g2) λx y h' tk px py q1 q2 q3 q4 q5 hk pP=>⟨_,rfl,?_⟩);obtain⟨vx,rx,yx⟩:=y1 x px;obtain⟨vy,ry,yy⟩:=y2 y py;refine wpAny_letOwnedTupleGo_zip q1 λT e1 U=>?_;have nb:∀q∈[z,t,o,i,j],s.heap.objs.size≠q:=λq hq e=>by
   have:∃m,s.heap.get? q=KF m:=by
    simp only[aq,bG,or_false] at hq;rcases hq with rfl|rfl|rfl|rfl|rfl
    ·exact⟨_,J⟩
    ·exact⟨_,G⟩
    ·exact⟨_,L⟩
    ·obtain⟨m,g,_⟩:=W.obj n _ M;exact⟨_,g⟩
    ·obtain⟨m,g,_⟩:=Y.obj n _ N;exact⟨_,g⟩
   obtain⟨m,g⟩:=this;exact absurd (aI g) (by rw[e];exact bU _)
  have B:∀c m,c∉[z,t,o,i,j]->s.heap.get? c=KF m->T.get? c=KF m:=λc m l e=>by
   simp only[aq,bG,or_false,not_or] at l;exact U.extBut _ _ l.1 (hk c m l.1 l.2.2.1 l.2.2.2.1 l.2.2.2.2 e)
  have I1:L2.Inv X d C H { s with heap:=T,toks:=tk }:=Inv.turns [z,t,o,i,j] I B r;have yc:T.get? s.heap.objs.size=KF { cls:=.type "tuple",data:=.seq #[x,y] }:=U.extBut _ _ (nb z 'd') q5;have V:H s.heap.objs.size=KM:=I.hok.fresh (aE _);have I2:L2.Inv X d C (upd H s.heap.objs.size (.tup [vx,vy])) { s with heap:=T,toks:=tk }:=by
   have un:Un (qN X.stack) [z,t,o,i,j] H (upd H s.heap.objs.size (.tup [vx,vy])) s.heap T:=by
    refine⟨λc m e _ _ l=>B c m l e,λc m e _ _ l=>⟨m.slots,B c m l e⟩,λc m e hn _=>?_,λc m e l=>⟨m,B c m l e⟩,λc zs e=>?_,λc m u e=>?_,λc ps e=>⟨#[],?_⟩⟩
    ·rw[pj (bu (aI e))];exact hn
    ·rw[pj (rD e V)];exact e
    ·rw[pj (rD e V)];exact e
    ·rw[pj (rD e V),e];simp
   have hok:HOk X.prog X.w (upd H s.heap.objs.size (.tup [vx,vy])) T:=by
    intro c u' e;by_cases l:c=s.heap.objs.size
    ·subst l;rw[qS] at e;cases e;exact⟨by show 2<=q9;decide,[x,y],.cons rx (.cons ry .nil),⟨_,yc,rfl,⟨_,rfl⟩,rfl⟩⟩
    ·rw[pj l] at e;refine(I1.hok c u' e).stay (λ_ _ _ q=>q) (λp q=>?_) λp zs q=>?_
     ·by_cases hp:p=s.heap.objs.size
      ·subst hp;rw[V] at q;cases q
      ·rw[pj hp];exact q
     ·by_cases hp:p=s.heap.objs.size
      ·subst hp;rw[V] at q;cases q
      ·rw[pj hp];exact q
   exact I.call (t':=tk) (d':=s.drawn) un hok I.bare λb f=>let ⟨_,f1,_,f3,f4,f5⟩:=r b f;⟨f3,f1,f4,f5⟩
  refine⟨.ref s.heap.objs.size,_,I2,rfl,⟨_,vx,vy,V,rfl,yx,yy,rfl⟩,⟨e1,?_,⟨_,_,U.extBut _ _ D.a2 q2⟩,?_,?_⟩,λb f=>?_⟩
  ·exact U.extBut _ _ D.a1 (hk _ _ D.a1 D.a3 D.d1 D.d2 G)
  ·exact u1 _ _ (Z1.but q3 U.extBut λb f=>(D.b1 b f).1)
  ·exact u2 _ _ (Z2.but q4 U.extBut λb f=>(D.b2 b f).1)
  ·rw[pj (bB (nb b f))];exact(r b f).1
 ·intro X O R S l n d s C H E I r F hg;obtain⟨J,G,⟨a,b,L⟩,M,N⟩:=F;have k1:J1.go n H\/J1.stop n H:=hg.elim (λz=>.inr z.1) λz=>.inl z.1;have k2:J2.go n H\/J2.stop n H:=hg.elim (λz=>z.2) λz=>.inr z.2;obtain⟨Z,n1,P1,T1,Z1,s1,u1,Du,qi,y1,f1⟩:=W.got X O R S n d s C H I (r i 'd') M k1;obtain⟨sG,n2,P2,T2,Z2,s2,u2,Vn,pO,y2,f2⟩:=Y.got X O R S n d s C H I (r j 'd') N k2;have D:=Q0 I r f1 f2;subst O R S;refine wT I (Xw (I.ok.hd l) Z1 Z2 D J G L s1 s2 (hg.elim (λq=>.inl (qi q.1)) λq=>.inr ⟨Du q.1,pO q.2⟩) λh' tk hk pP=>⟨rfl,?_⟩);refine Inv.turns (t':=tk) [z,t,o,i,j] I (λc m l e=>?_) r;simp only[aq,bG,or_false,not_or] at l;exact hk c m l.1 l.2.2.1 l.2.2.2.1 l.2.2.2.2 e
noncomputable def Dz:D->Option Src
 |.tup ds=>KF (.val ds)
 |_=>KM
def DP(t:DA):DI:=λσ O=>(t σ O).bnd λxs O1=>match xs with
 | [x,y]=>match Dz x,Dz y with
  |some p,KF q=>.ok (.zip p q) O1
  |_,_=>.bad
 |_=>.bad
def n8.zipW(n:n8 K J1 s1 H XV μ)(o:n8 K J2 s2 H XV μ):n8 K (VE J1 J2) (.zip s1 s2) H XV μ:=by
 intro b h k e m c i;have f:=n b h k e m c i;have a:=o b h k e m c i;show match (match s1.get e i,s2.get e i with|some x,KF y=>KF (D.tup [x,y])|_,_=>KM) with|some d=>_|none=>_
 cases l:s1.get e i with
 | none=>
  rw[l] at f;refine .inl ⟨f,?_⟩;cases g:s2.get e i with
  |none=>rw[g] at a;exact .inr a
  |some d=>rw[g] at a;exact .inl a.1
 | some d1=>
  rw[l] at f;cases g:s2.get e i with
  |none=>rw[g] at a;exact .inr ⟨f.1,a⟩
  | some d2=>
   rw[g] at a;refine⟨⟨f.1,a.1⟩,λv t q=>?_⟩;obtain⟨p,x,y,j,rfl,r,s,rfl⟩:=q;exact⟨.laid j,c.laid j,Y2.newT c j (.cons (f.2 x h r).2.2 (.cons (a.2 y h s).2.2 .nil))⟩
section
variable{X:Cx}{Ex:Nat->Hp->Prop}{pos:Pos}{a b c e:aO}{Y1:List (af×Obj)}{a_:St}{H:Hp}{s:ag}{XV μ:List af}{O:Ow}
def NV(I:L2.Inv X Y1 a_ H s)(c:nV X.K H XV μ O)(h:Y2 X.K H XV μ d v)(r:RelV v u)(e:Dz d=KF src):
  ∃(k:ZK)(J:It),k.val=u/\k.pre s.heap/\n8 X.K J src H XV μ/\∀f,∃S,DG X.prog X.w X.K J f S/\∀h:aL,h.get? f=KF k.obj->S 0 h:=by
 cases d with
 | tup ds=>
  unfold Y2 at h;obtain⟨q,j,rfl,l,g⟩:=h;cases e;cases r;obtain⟨i,_,p,_⟩:=I.tuple l.sq;exact⟨.tup q i.toArray,_,rfl,p,.tup l g,λf=>⟨_,PV q f,λh z=>⟨_,z,rfl,rfl⟩⟩⟩
 |_=>cases e
def zdx(C:Gl X "zip")(D:X.mg "zip" = KM)(E:sI X Ex [a,b] t)(F:aA [a,b] X.env=[(qj,eval a X.env),(qj,eval b X.env)]:=by rfl)(r:aA [b] X.env=[(qj,eval b X.env)]:=by rfl):
  s_ X Ex (.Tuple B5 kt pt) (.Call (.Name "zip" p) [a,b] [] pos) (DP t):=by
 refine⟨?_⟩;rintro Y1 s a_ H G I ⟨XV,μ,σ,O,m,L,q⟩;refine kR (Be I C D zdW (eS (o_ (E.out pos Y1 s a_ H _ I (t6.go m L q (Q1:=λo g=>∃XV h i j,nV X.K g XV h i/\nW X.K g XV h j o/\
   post Ex X.K (λH' M s J=>n8 X.K J s H' XV M) g XV h (match j with|[x,y]=>(match Dz x,Dz y with|some p,KF q=>.ok (.zip p q) i|_,_=>.bad)|_=>.bad) G)
  λj i o g h u x k d p=>⟨XV,h,i,j,k,d,p⟩)) λus f ⟨o,g,l,N,XV,h,i,j,k,d,p⟩=>?_) (by rw[F,r]) (by rw[r];rfl)))
 split at p
 ·rename_i x y;split at p
  ·rename_i sp sq m u;obtain⟨v,w,rfl,P,Q⟩:=Ct d;obtain⟨u1,u2,rfl,R,S⟩:=A8 N;obtain⟨T,J1,U,V,W,Y⟩:=NV l k P R m;obtain⟨Z,J2,v2,p2,t2,i2⟩:=NV l k Q S u;rw[<- U,<- v2];refine zcM T Z V p2 λh' z g3 g4 g1 g2 hk=>?_;refine wpAny_pyIter_zip z ?_;have I2:L2.Inv X Y1 a_ g { f with heap:=h',toks:=f.toks }:=l.kept hk;obtain⟨S1,N1,z1⟩:=Y f.heap.objs.size;obtain⟨S2,N2,z2⟩:=i2 (f.heap.objs.size+1);refine⟨f.heap.objs.size+4,[f.heap.objs.size+4,f.heap.objs.size+2,f.heap.objs.size+3,f.heap.objs.size,f.heap.objs.size+1],_,_,g,rfl,I2,zaS _ _ _ _ _ ?_ N1 N2,⟨z,g3,⟨_,_,g4⟩,z1 _ g1,z2 _ g2⟩,λb A=>?_,post.here p k (.zipW W t2)⟩
   ·have nn:∀(n:af),[n+4,n+2,n+3,n,n+1].Nodup:=λn=>by
     simp only[bq,aq,bG,or_false,not_or,f8,and_true];refine⟨⟨?_,?_,?_,?_⟩,⟨?_,?_,?_⟩,⟨?_,?_⟩,?_,not_false⟩<;>simp[af] at * <;> lia
    exact nn _
   ·have B:f.heap.objs.size<=b:=by
     simp only[aq,bG,or_false] at A;rcases A with rfl|rfl|rfl|rfl|rfl<;>lia
    exact l.fpOk (H':=g) B (l.hok.fresh B)
  ·exact ah p
 ·exact ah p
end
end DL
namespace DL
open PySem L2
open AutoSeq1 (wpAny_loadPart')
set_option maxHeartbeats 1000000 in
def zbx(b:af)(a:Array ae)(i:Nat)(e:Option af)(sl:Array (Option ae)):
  Meets (fx.«enumerate.__new__» ⟨[.type "enumerate",.ref b],[]⟩) (λ_ R s=>s.heap.get? b=KF { cls:=.type "tuple",dict:=e,data:=.seq a i,slots:=sl }/\
   R (.ok (.ret (.ref (s.heap.push (ZK.tup b a).obj).objs.size))) { s with heap:=(s.heap.push (ZK.tup b a).obj).push { cls:=.type "enumerate",data:=.fields #[.none,.bool qj,.ref s.heap.objs.size,di 0,.none,.none] } }):=
 .of_wp λP w A R s h=>by
  obtain⟨j,g,d,k,l⟩:=s;obtain⟨c,h⟩:=h;have n:=sub_enumerate;have f:Heap.IsTuple (Shared.heap ⟨j,g,d,k,l⟩) b a:=⟨_,c,rfl,i,rfl⟩
  wp_walk using wpAny_loadPart' c
  refine wpAny_stack_any λo=>ao (?_);split
  ·rename_i m _ _ _ _ _;cases (m==cI "enumerate")
   ·wp_walk using wpAny_loadPart' c,fK f
    exact⟨_,rfl,h⟩
   ·wp_walk using wpAny_loadPart' c,fK f
    exact⟨_,rfl,h⟩
  ·wp_walk using wpAny_loadPart' c,fK f
   exact⟨_,rfl,h⟩
section
variable{P:aD}{w:aR}{A:aU}{E:ae->ag->Prop}{s:ag}
def zar(j:s.heap.IsTuple tt items)
  (h:∀h',gW h' (s.heap.objs.size+1) s.heap.objs.size 0 .none->h'.get? s.heap.objs.size=KF (ZK.tup tt items).obj->(∀b o,s.heap.get? b=KF o->h'.get? b=KF o)->Q (.ref (s.heap.objs.size+1)) { s with heap:=h' }):
  ar (av P w) A (call (.type "enumerate") [.ref tt]) Q E s:=by
 obtain⟨⟨k,a,l,m⟩,n,c,f,d⟩:=j;have c:k=.type "tuple":=c;have d:l=.seq items f:=d;subst c;subst d;refine callType_new F.called_enumerate 's' (F.typeCall_enumerate_1 _) (F.newCall_enumerate_1 _) (λe=>F.args_object_init_2 e _) F.entry_enumerate_new (zbx tt items f a m) ⟨n,?_⟩;have g:(s.heap.push (ZK.tup tt items).obj).objs.size=s.heap.objs.size+1:=cD ..;show _/\_;rw[g];have i:gW ((s.heap.push (ZK.tup tt items).obj).push { cls:=.type "enumerate",data:=.fields #[.none,.bool qj,.ref s.heap.objs.size,di 0,.none,.none] }) (s.heap.objs.size+1) s.heap.objs.size 0 .none:=by
  have q:=aN (s.heap.push (ZK.tup tt items).obj) (o:={ cls:=.type "enumerate",data:=.fields #[.none,.bool qj,.ref s.heap.objs.size,di 0,.none,.none] }) rfl;rw[g] at q;exact q
 exact⟨⟨_,i,rfl⟩,h _ i (aj _ (aN _ rfl)) λb o x=>aj _ (aj _ x)⟩
variable{ea ia:af}{fp:List af}{n k:Nat}{Pv:Nat->ae->Prop}{Sx:Nat->aL->Prop}{old:ae}
def zes(J:ou P w ia fp n Pv Sx)(u:gW s.heap ea ia (k:Nat) old)(X:Sx k s.heap)(Y:k<n)(j:∀b∈ia::fp,b≠ea)
  (Z:∀x h' tk ti,Pv k x->IsEnumOut h' ea ia ((k:Int)+1) x s.heap.objs.size->Sx (k+1) h'->h'.get? s.heap.objs.size=KF { cls:=.type "tuple",data:=.seq #[.int (k:Nat) ti,x] }->(∀b o,b≠ea->b≠ia->s.heap.get? b=KF o->h'.get? b=KF o)->Q (KF (.ref s.heap.objs.size)) { s with heap:=h',toks:=tk }):
  ar (av P w) A (pyNext (.ref ea)) Q E s:=by
 have S:s.TypeIs (.ref ea) "enumerate":=⟨_,u,rfl⟩;have C:ea≠ia:=bB (j ia am);unfold pyNext;refine aa (fE (cO (name := "__next__") S fc (cF fc S km ?_ (jV _))));obtain⟨e,g,d,tk,f⟩:=s;show ar _ _ (field (.ref ea) 2 >>= _) _ _ _;refine aa (bD u rfl (x:=.ref ia) rfl (aa (J.item _ k _ _ _ Y X λx h a px D l=>?_)));have l:dP ia e h:=l;have F:gW h ea ia (k:Nat) old:=(l.2 ea C).trans u;show ar _ _ (field (.ref ea) 3 >>= _) _ _ ⟨h,g,d,a,f⟩;refine aa (bD F rfl (x:=di (k:Nat)) rfl ?_);show ar _ _ (field (.ref ea) 4 >>= _) _ _ ⟨h,g,d,a,f⟩;refine aa (bD F rfl (x:=(.none)) rfl ?_);show ar _ _ (mkInt (k:Nat) >>= _) _ _ ⟨h,g,d,a,f⟩;refine aa (wpAny_mkInt ?_);show ar _ _ (setField (.ref ea) 3 (di ((k:Int)+1)) >>= _) _ _ ⟨h,g,d,a+1,f⟩;refine aa (cC F 'd' λv G m=>?_);have m:dP ea h v:=m;have G:gW v ea ia ((k:Int)+1) old:=G;show ar _ _ (setField (.ref ea) 4 .none >>= _) _ _ ⟨v,g,d,a+1,f⟩;refine aa (cC G 'd' λc H p=>?_);have p:dP ea v c:=p;have H:gW c ea ia ((k:Int)+1) old:=H;show ar _ _ (newTuple [.int (k:Nat) a,x] >>= _) _ _ ⟨c,g,d,a+1,f⟩;refine aa (i9 ?_);have y:gW (c.push { cls:=.type "tuple",data:=.seq #[.int (k:Nat) a,x] }) ea ia ((k:Int)+1) old:=aj _ H;have T:c.objs.size=e.objs.size:=by rw[p.1,m.1,l.1]
 have I:ea<e.objs.size:=aI u;have U:(c.push { cls:=.type "tuple",data:=.seq #[.int (k:Nat) a,x] }).get? e.objs.size=KF { cls:=.type "tuple",data:=.seq #[.int (k:Nat) a,x] }:=by rw[<- T];exact aN _ rfl
 have V:∀b o,b≠ea->b≠ia->e.get? b=KF o->(c.push { cls:=.type "tuple",data:=.seq #[.int (k:Nat) a,x] }).get? b=KF o:=λb o i K z=>aj _ (p.extBut b o i (m.extBut b o i (l.extBut b o K z)));have W:Sx (k+1) (c.push { cls:=.type "tuple",data:=.seq #[.int (k:Nat) a,x] }):=J.stab _ _ _ (J.but (J.but D m.extBut j) p.extBut j) λb _ o z=>aj _ z;generalize c.push { cls:=.type "tuple",data:=.seq #[.int (k:Nat) a,x] } = h4 at y U V W;show ar _ _ (dZ (.ref ea) >>= _) _ _ ⟨h4,g,d,a+1,f⟩;rw[T];refine aa ?_;unfold dZ;refine aa (bD y rfl (x:=(.none)) rfl (ao ?_));simp only[if_true];refine aa (dW (aa (bD y rfl (x:=old) rfl (aa (cC y 'd' λB L q=>?_)))));have q:dP ea h4 B:=q;have L:gW B ea ia ((k:Int)+1) x:=L;show ar _ _ (eV (.ref ea) (.ref e.objs.size) >>= _) _ _ ⟨B,g,d,a+1,f⟩;refine aa ?_;unfold eV;refine aa (cC L 'd' λM N r=>?_);have r:dP ea B M:=r;have N:IsEnumOut M ea ia ((k:Int)+1) x e.objs.size:=N;refine cC N 'd' λO R t=>?_;have t:dP ea M O:=t;have R:IsEnumOut O ea ia ((k:Int)+1) x e.objs.size:=R;refine aa (fQ (ao ⟨_,rfl,ao (Z x O _ a px R (J.but (J.but (J.but W q.extBut j) r.extBut j) t.extBut j) ?_ λb o i K z=>t.extBut b o i (r.extBut b o i (q.extBut b o i (V b o i K z))))⟩));exact t.extBut _ _ (dQ I) (r.extBut _ _ (dQ I) (q.extBut _ _ (dQ I) U))
def YM(d:A.handled=KM)(J:ou P w ia fp n Pv Sx)(a:gW s.heap ea ia (k:Nat) old)(f:Sx k s.heap)(g:n<=k)(h:∀h',mE ia s.heap h'->Q KM { s with heap:=h' }):ar (av P w) A (pyNext (.ref ea)) Q E s:=by have c:s.TypeIs (.ref ea) "enumerate":=⟨_,a,rfl⟩;unfold pyNext;refine aa (fE (cO (name := "__next__") c fc (cF fc c km ?_ (jV _))));show ar _ _ (field (.ref ea) 2 >>= _) _ _ _;refine aa (bD a rfl (x:=.ref ia) rfl (aa (J.done _ k _ _ _ d g f λh' e i j=>?_)));obtain⟨l,m,o⟩:=j;exact aa (wpAny_isInstance (T := "StopIteration") (b:=qb) ⟨l,m,o⟩ isSubtype_stop (ao (h _ i)))
end
end DL
namespace DL
open PySem L2
def VG(J:It):It:=⟨J.go,λi H v H'=>∃p x,H p=KM/\v=.ref p/\J.yld i H x H/\H'=upd H p (.tup [.int (i:Nat),x]),J.stop⟩
def Wd(ea ia:af)(S:Nat->aL->Prop)(n:Nat)(h:aL):Prop:=(∃old,gW h ea ia (n:Nat) old)/\S n h
def zaW(f i:af)(ap:f≠i)(N:DG P w K J i S)(Fi:∀(A:aU)(n:Nat)(s:ag)(Q E:ae->ag->Prop),(∃o,gW s.heap f i (n:Nat) o)->Q (.ref f) s->ar (av P w) A (pyIter (.ref f)) Q E s):xt P w K (.Tuple es kt pt) (VG J) [f,i] f (Wd f i S):=by
 refine⟨by simp,λn h t b r=>?_,λn h R t k=>?_,?_,?_,λA n s Q E t q=>Fi A n s Q E t.1 q⟩
 ·obtain⟨⟨o,y⟩,z⟩:=t;simp at r;rcases r with rfl|rfl
  ·exact⟨_,y,λv e=>by cases e⟩
  ·exact N.obj n h z
 ·obtain⟨⟨o,y⟩,z⟩:=t;exact⟨⟨o,k f 'd' _ y⟩,N.keep n h R z (k i 'd')⟩
 ·intro X U V W d n j s G H E I B t D;obtain⟨⟨o,y⟩,z⟩:=t;obtain⟨fp,m,Pv,T,Z,Y,u1,Du,qi,y1,L⟩:=N.got X U V W n j s G H I (B i 'd') z (.inl D);have ne:∀b∈i::fp,b≠f:=λb r=>(aq.mp r).elim (λe=>by rw[e];exact bB ap) λr=>(L b r).far I (B f 'd');refine wT I (zes Z y Y (Du D) ne λx R tk tki px q1 q2 q3 hk pP=>⟨_,rfl,?_⟩);obtain⟨M,rx,yx⟩:=y1 x px;refine wpAny_letOwnedTupleGo_enum q1 λO e1 e2=>?_;have nb:∀q∈[f,i],s.heap.objs.size≠q:=λq hq e=>by
   have:∃a,s.heap.get? q=KF a:=by
    simp at hq;rcases hq with rfl|rfl
    ·exact⟨_,y⟩
    ·obtain⟨a,g,_⟩:=N.obj n _ z;exact⟨_,g⟩
   obtain⟨a,g⟩:=this;exact absurd (aI g) (by rw[e];exact bU _)
  have l:∀c a,c∉[f,i]->s.heap.get? c=KF a->O.get? c=KF a:=λc a d e=>by
   simp at d;exact e2.extBut _ _ d.1 (hk c a d.1 d.2 e)
  have I1:=Inv.turns [f,i] I l B;have yc:=e2.extBut _ _ (nb f 'd') q3;have C:=I.hok.fresh (aE _);have I2:L2.Inv X j G (upd H s.heap.objs.size (.tup [.int (n:Nat),M])) { s with heap:=O,toks:=tk }:=by
   have un:Un (qN X.stack) [f,i] H (upd H s.heap.objs.size (.tup [.int (n:Nat),M])) s.heap O:=by
    refine⟨λc a e _ _ d=>l c a d e,λc a e _ _ d=>⟨a.slots,l c a d e⟩,λc a e hn _=>?_,λc a e d=>⟨a,l c a d e⟩,λc zs e=>?_,λc a u e=>?_,λc ps e=>⟨#[],?_⟩⟩
    ·rw[pj (bu (aI e))];exact hn
    ·rw[pj (rD e C)];exact e
    ·rw[pj (rD e C)];exact e
    ·rw[pj (rD e C),e];simp
   have hok:HOk X.prog X.w (upd H s.heap.objs.size (.tup [.int (n:Nat),M])) O:=by
    intro c u' e;by_cases d:c=s.heap.objs.size
    ·subst d;rw[qS] at e;cases e;exact⟨by show 2<=q9;decide,[.int (n:Nat) tki,x],.cons ⟨_,rfl⟩ (.cons rx .nil),⟨_,yc,rfl,⟨_,rfl⟩,rfl⟩⟩
    ·rw[pj d] at e;refine(I1.hok c u' e).stay (λ_ _ _ q=>q) (λp q=>?_) λp zs q=>?_
     ·by_cases F:p=s.heap.objs.size
      ·subst F;rw[C] at q;cases q
      ·rw[pj F];exact q
     ·by_cases F:p=s.heap.objs.size
      ·subst F;rw[C] at q;cases q
      ·rw[pj F];exact q
   exact I.call un hok I.bare λb r=>let ⟨_,L,_,f3,f4,f5⟩:=B b r;⟨f3,L,f4,f5⟩
  refine⟨.ref s.heap.objs.size,_,I2,rfl,⟨_,M,C,rfl,yx,rfl⟩,⟨⟨_,by exact_mod_cast e1⟩,?_⟩,λb r=>?_⟩
  ·exact u1 _ _ (Z.but q2 e2.extBut ne)
  ·rw[pj (bB (nb b r))];exact(B b r).1
 ·intro X U V W d n j s G H E I B t D;obtain⟨⟨o,y⟩,z⟩:=t;obtain⟨fp,m,Pv,T,Z,Y,u1,Du,qi,y1,L⟩:=N.got X U V W n j s G H I (B i 'd') z (.inr D);refine YM (I.ok.hd d) Z y Y (qi D) λR eb=>⟨rfl,?_⟩;refine Inv.turns [f,i] I (λc a d e=>?_) B;simp at d;exact eb c a d.2 e
noncomputable def yD(ds:List D):List D:=ds.zipIdx.map λq=>.tup [.int (q.2:Nat),q.1]
def SX(ds:List D)(i:Nat):(yD ds)[i]?=(ds[i]?).map λd=>D.tup [.int (i:Nat),d]:=by unfold yD;rw[bO,List.getElem?_zipIdx];cases ds[i]?<;>simp
def n8.enum(l:n8 K J (.val ds) H XV μ):n8 K (VG J) (.val (yD ds)) H XV μ:=by
 intro a b e j m c i;have f:match ds[i]? with|some d=>J.go i b/\∀x g,J.yld i b x g->Ext b e g e/\nV K g a e j/\Y2 K g a e d x|none=>J.stop i b:=l a b e j m c i
 show match (yD ds)[i]? with|some d=>_|none=>_
 rw[SX];cases k:ds[i]? with
 |none=>rw[k] at f;exact f
 | some d1=>
  rw[k] at f;refine⟨f.1,λv g n=>?_⟩;obtain⟨p,x,h,rfl,o,rfl⟩:=n;exact⟨.laid h,c.laid h,Y2.newT c h (.cons sv (.cons (f.2 x b o).2.2 .nil))⟩
def GW(t:DA):DI:=λσ O=>(t σ O).bnd λxs O1=>match xs with
 |[.tup ds]=>.ok (.val (yD ds)) O1
 |_=>.bad
section
variable{X:Cx}{Ex:Nat->Hp->Prop}{pos:Pos}{a b:aO}{Y1:List (af×Obj)}{a_:St}{H:Hp}{s:ag}{XV μ:List af}{O:Ow}
def zcC:bg "enumerate" = KF (.type "enumerate"):=by boot_by_name
def Th(d f:af)(A:aU)(n:Nat)(s:ag)(Q E:ae->ag->Prop)(h:∃c,gW s.heap d f (n:Nat) c)(q:Q (.ref d) s):ar (av P w) A (pyIter (.ref d)) Q E s:=by obtain⟨c,h⟩:=h;have e:s.TypeIs (.ref d) "enumerate":=⟨_,h,rfl⟩;refine wpAny_pyIter_slot e kJ (cF kJ e F.entry_enumerate_iter ?_ (F.args_enumerate_iter_1 _));exact ao ⟨_,rfl, "enumerate",_,e,fc.lookup,q⟩
def zbG(y:Gl X "enumerate")(z:X.mg "enumerate" = KM)(A:sI X Ex [a] t)(B:aA [a] X.env=[(qj,eval a X.env)]:=by rfl):
  s_ X Ex (.Tuple B5 kt pt) (.Call (.Name "enumerate" p) [a] [] pos) (GW t):=by
 refine⟨?_⟩;rintro Y1 s a_ H C I ⟨XV,μ,V,O,D,E,q⟩;refine kR (Be I y z zcC (eS (o_ (A.out pos Y1 s a_ H _ I (t6.go D E q (Q1:=λj c=>∃XV g h f,nV X.K c XV g h/\nW X.K c XV g f j/\
   post Ex X.K (λH' F s J=>n8 X.K J s H' XV F) c XV g (match f with|[.tup f]=>.ok (.val (yD f)) h|_=>.bad) C)
  λf h j c g W x k d p=>⟨XV,g,h,f,k,d,p⟩)) λY e ⟨j,c,i,G,XV,g,h,f,k,d,p⟩=>?_) (by rw[B];rfl) (by rfl)))
 split at p
 ·rename_i Z;unfold nW at d;obtain⟨v,r,rfl,m,n⟩:=d;unfold nW at n;subst n;unfold Y2 at m;obtain⟨L,M,rfl,l,N⟩:=m;obtain⟨u1,rfl,P⟩:=uy G;cases P;obtain⟨d_,_,Q,_⟩:=i.tuple l.sq;refine zar Q λR o S T=>?_;refine Th (e.heap.objs.size+1) e.heap.objs.size _ 0 _ _ _ ⟨_,o⟩ ?_;have U:L2.Inv X Y1 a_ c { e with heap:=R,toks:=e.toks }:=i.kept T;refine⟨e.heap.objs.size+1,[e.heap.objs.size+1,e.heap.objs.size],_,_,c,rfl,U,zaW _ _ (Nat.succ_ne_self _) (PV L _) (Th _ _),⟨⟨_,o⟩,⟨_,S,rfl,rfl⟩⟩,λb u=>?_,post.here p k (.enum (.tup l N))⟩;have w:e.heap.objs.size<=b:=by
   simp only[aq,bG,or_false] at u;rcases u with rfl|rfl<;>lia
  exact i.fpOk (H':=c) w (i.hok.fresh w)
 ·exact ah p
end
end DL
namespace DL
open PySem L2
open PyProof.Rows hiding St
section
variable{X:Cx}{Ex:Nat->Hp->Prop}{pos:Pos}{a b c e:aO}{ta tb te:DE}{Y1:List (af×Obj)}{a_:L2.St}{H:Hp}{s:ag}{XV μ:List af}{O:Ow}
def OE(K:ai):R2:=λx y H Q=>∃a b ys,x=.ref a/\y=.ref b/\rH K H a []/\rH K H b ys/\Q (.ref b) H
def ZO:qm X (d9 .Add) (OE X.K):=by
 intro Y1 s M H x y v u Q I g i h;obtain⟨p,q,N,rfl,rfl,j,k,l⟩:=h;cases g;cases i;obtain⟨m,n,⟨⟨P,o,r,t⟩,d,w,z,A⟩,_⟩:=I.tuple j;obtain⟨B,R,⟨⟨S,C,D,E⟩,f,F,G,J⟩,_⟩:=I.tuple k;have L:m=[]:=by cases n;rfl
 subst L;subst w;subst F;subst A;subst J;exact jj ⟨_,d,rfl⟩ ⟨_,f,rfl⟩ jK lj ic g9 (gO _ _) (PyProof.Rows.tuple_addW0 p q #[] B.toArray z G o C t E rfl) ⟨d,f,⟨.ref q,H,I,rfl,l⟩⟩
def A1:Ow->D->D->R D:=λO x y=>match x,y with
 |.tup [],.tup ys=>.ok (.tup ys) O
 |x,y=>rg O x y
def zdL:r9 X Ex (λx y H Q=>OE X.K x y H Q\/JE X.K x y H Q) A1:=by
 intro H XV μ O x y v w Q c g d q;unfold A1 at q;split at q
 ·rename_i m;have f:=d;obtain⟨p,n,rfl,l,h⟩:=g;obtain⟨i,j,rfl,k,o⟩:=d;unfold nW at h;subst h;exact .inl ⟨p,i,j,rfl,rfl,l.sq,k.sq,post.here q c f⟩
 ·exact .inr (Q4 H XV μ O _ _ v w Q c g d q)
def Z5(d:PD X Ex a ta)(f:PD X Ex b tb):PD X Ex (.BinOp a .Add b pos) (h_ A1 ta tb):=JC (qm.or ZO Qp) zdL d f
noncomputable def V0(K:ai):V->Option Int->Option Int->Hp->VK->Prop:=λx lo hi H Q=>∃a xs,x=.ref a/\rH K H a xs/\(HT.sIx xs.length 0 lo=0/\HT.sIx xs.length xs.length hi=xs.length)/\Q (.ref a) H
def z62{P:aD}{w:aR}{A:aU}{E:ae->ag->Prop}{s:ag}{t sl:af}{d:Array ae}{j k:ae}{lo g:Option Int}{Q:ae->ag->Prop}(f:IsTup s.heap t d)(l:s.heap.IsSliceOf sl j k .none)(n:gP j lo)(o:gP k g)
  (m:HT.sIx d.size 0 lo=0/\HT.sIx d.size d.size g=d.size) (h:Q (.ref t) s):ar (av P w) A (getItem (.ref t) (.ref sl)) Q E s:=by
 obtain⟨p,q,i,v⟩:=id l;have r:s.TypeIs (.ref sl) "slice":=⟨p,q,i⟩;unfold getItem
 try with_reducible refine bI ?_
 first|refine aa (ao ?_)|skip
 refine aa (wpAny_sequenceKey f.typeIs 's' (aa (cO f.typeIs cy (cF cy f.typeIs lA ?_ (lN _ _)))));show ar _ _ (js (.ref t) >>= _) _ _ s;refine aa (tupleItemsOf_ f (aa (lO r ?_)));refine aa (HT.sliceApplied_gen l n o ?_);have u:(((HT.sIx d.size 0 lo:Nat):Int)==0&&(1:Int)==1&&(HT.sIx d.size d.size g-HT.sIx d.size 0 lo)==d.size)=qb:=by
  rw[m.1,m.2];simp
 show ar _ _ (if (((HT.sIx d.size 0 lo:Nat):Int)==0&&(1:Int)==1&&(HT.sIx d.size d.size g-HT.sIx d.size 0 lo)==d.size)=qb then _ else _) _ _ s;rw[qL u];refine aa ?_;refine aa (lO f.typeIs (ao ?_));exact aa (dW (ao ⟨_,rfl,ao h⟩))
def zdv:vN X (V0 X.K):=by
 intro Y1 s t H x v u w y z A Q I g i j k h;obtain⟨p,l,rfl,m,n,q⟩:=h;cases g;obtain⟨o,r,f,B⟩:=I.tuple m;have d:o.toArray.size=l.length:=by rw[aP];exact r.length.symm
 exact⟨"tuple",_,cy.lookup,f.typeIs,z62 f i j k (by rw[d];exact n) ⟨.ref p,H,I,rfl,q⟩⟩
def VX(O:Ow)(x:D)(lo hi:Option Int):R D:=match x with
 |.tup ds=>if HT.sIx ds.length 0 lo=0/\HT.sIx ds.length ds.length hi=ds.length then .ok (.tup ds) O else .ok (.tup (AO ds lo hi)) O
 |x=>M8 O x lo hi
def yY(te:DE)(tl th:DO):DE:=λσ O=>(te σ O).bnd λx O1=>(tl σ O1).bnd λlo O2=>(th σ O2).bnd λhi O3=>VX O3 x lo hi
def Xe{lo B:Option aO}{C D:DO}{J:Pos}(L:PD X Ex e te)(M:zY X Ex lo C)(N:zY X Ex B D):PD X Ex (.Subscript e (.Slice lo B KM J) pos) (yY te C D):=
 rl (R5 (vN.or zdv (vN.or PY (vN.or P5 QT))) L.out M.out N.out) λXV μ σ O a_ H Q P R q=>rd.go P R q λd O1 v H1 e_ S x T r p=>Bv.go S T p λl O2 H2 pe U V W Y=>Bv.go U W Y λu y E F e4 Z h w=>by
  have n:=(r.ext V).ext Z;cases d with
  | tup j=>
   have rr:=n;obtain⟨o,t,rfl,G,m⟩:=n;have f:qt Ex X.K E XV F (if HT.sIx j.length 0 l=0/\HT.sIx j.length j.length u=j.length then .ok (.tup j) y else .ok (.tup (AO j l u)) y) Q:=w;split at f
   ·rename_i z;exact .inl ⟨o,t,rfl,G.sq,by rw[<- m.length];exact z,post.here f h rr⟩
   ·rename_i z;exact .inr (.inr (.inl ⟨o,t,rfl,G.sq,by rw[<- m.length];exact z,λI g=>post.ok f (.laid g) (h.laid g) (Y2.newT h g (Ek m l u))⟩))
  | str i=>
   unfold Y2 at n;subst n;have f:=w;obtain⟨Fw,f⟩:=post.ite f;refine .inr (.inl ⟨_,rfl,?_,post.here f h ?_⟩)
   ·show i.toArray.size<=_;rw[aP];exact xX Fw
   ·unfold Y2;rw[D_]
  | lst j=>
   have f:=w;obtain⟨o,t,rfl,A,m⟩:=uB h n (rfl);exact .inr (.inr (.inr ⟨o,t,rfl,A,λI g=>post.ok f (.laid g) (h.laid g) (Y2.newL h g (Ek m l u))⟩))
  | own k=>
   have f:qt Ex X.K E XV F (match y[k]? with|some j=>.ok (.lst (AO j l u)) y|none=>.bad) Q:=w;split at f
   ·rename_i j Nf;obtain⟨o,t,rfl,A,m⟩:=uB h n (Nf);exact .inr (.inr (.inr ⟨o,t,rfl,A,λI g=>post.ok f (.laid g) (h.laid g) (Y2.newL h g (Ek m l u))⟩))
   ·exact ah f
  |_=>exact ah w
end
end DL
namespace DL
open PySem L2
section
end
section
structure zmN(mg:au->Option ae)(x:au)(i:Int):Prop where
 ex:∃t,mg x=KF (.int i t)
end
section
variable{X:Cx}{Ex:Nat->Hp->Prop}{pos:Pos}{tg e:aO}{te:DE}
def Gu(g:Tg)(te:DE):DS:=λσ O=>(te σ O).bnS λd O1=>match g.put d σ with
 |some σ'=>.nx σ' O1
 |none=>.bad
def YD(b:PD X Ex e te)(f:PG X tg (g.rd X.K))(h:gn [tg] e pos.line X.env=pure qj:=by rfl)(i:gp [tg] e X.env=pure KM:=by rfl)(j:(gh [tg] X.env).map (·.2)=[assign tg X.env]:=by rfl):tX X Ex (.Assign [tg] e pos) (Gu g te):=
 yG (JZ b.out f h i j) λk y l O E z H m n q=>rd.goS m n q λd A v o s t x c r p=>by
  cases a:g.put d l with
  |none=>rw[a] at p;exact ah p
  | some σ'=>
   rw[a] at p;exact g.ok2 t r a λu w _=>p u o s .refl w c
end
end DL
namespace DL
open PySem L2 PySem.Spec PyProof.Rows
section
def Wm{K:ai}{H:Hp}{XV μ:List af}{a b c:D}{vs:List V}(h:nW K H XV μ [a,b,c] vs):∃u v w,vs=[u,v,w]/\Y2 K H XV μ a u/\Y2 K H XV μ b v/\Y2 K H XV μ c w:=by unfold nW at h;obtain⟨u,r,rfl,d,e⟩:=h;obtain⟨v,w,rfl,f,g⟩:=Ct e;exact⟨u,v,w,rfl,d,f,g⟩
end
end DL
namespace DL
open PySem L2 PySem.Spec PyProof.Rows
open Sem (wp)
end DL
namespace DL
open PySem L2 PySem.Spec PyProof.Rows
end DL
namespace DL
open PySem L2
open AutoSeq1 (wpAny_loadPart')
section
variable{X:Cx}{Ex:Nat->Hp->Prop}{b e o:aO}{to:DE}
def DC:Int->Int->Option D:=gI g8
def IV:Int->Int->Option D:=gI io
def Zg:r9 X Ex (uP λi j=>.int (g8 i j)) (fI DC):=CW λi j d h _ _ _ _=>by cases h;exact sv
def XH:r9 X Ex (uP λi j=>.int (io i j)) (fI IV):=CW λi j d h _ _ _ _=>by cases h;exact sv
def zc5(l:af)(xs:Array ae)(n:Nat)(b:af)(a:Array ae)(m:Nat)(sl:Array (Option ae))(f:¬(!xs.isEmpty&&gQ (xs.size+a.size))=qb)(g:xs.size<=q9)(i:xs.size+a.size<=q9+1):
  Meets (fx.«list.extend» ⟨[.ref l,.ref b],[]⟩) (λ_ R s=>s.heap.get? l=KF { cls:=.type "list",data:=.seq xs n }/\s.heap.get? b=KF { cls:=.type "list",data:=.seq a m,slots:=sl }/\R (.ok (.ret .none)) { s with heap:=s.heap.update l (bt λx=>x++a) }):=
 .of_wp λc w A R s h=>by
  obtain⟨d,j,h⟩:=h;have k:(xs++a).size<=q9+1:=by rw[fX];exact i
  wp_walk using(iW d rfl),wpAny_loadPart' d,wpAny_loadPart' j
  exact⟨_,rfl,h⟩
def Wj(K:ai):V->List V->Hp->VK->Prop:=λx vs H Q=>∃l b xs zs,x=.ref l/\vs=[.ref b]/\H l=KF (.lst xs)/\qr K H b zs/\xs.length+zs.length<=q9/\Q .non (upd H l (.lst (xs++zs)))
def Yt:VD X "list.extend" (Wj X.K):=by
 intro f s J H x L v M Q I j k h;obtain⟨l,b,N,O,rfl,rfl,g,m,P,q⟩:=h;cases j;obtain⟨u,rfl,p⟩:=k.one;cases p;obtain⟨z,a,n,r,R,e⟩:=I.lstM g;obtain⟨c,i,⟨t,w,y,A,d,B⟩,_⟩:=I.list m;obtain⟨S,C,T,D⟩:=t;subst A;subst d;subst B;have U:=i.length;have E:a.toArray.size+c.toArray.size<=q9:=by rw[aP,aP];lia
 have G:¬ (!a.toArray.isEmpty&&gQ (a.toArray.size+c.toArray.size))=qb:=by
  rw[zed E,kK];exact cB
 refine call_meets kL ⟨_,e,rfl⟩ F.entry_list_extend (F.args_list_extend_2 _ _)
  (zc5 l a.toArray n b c.toArray w D G (by rw[aP];lia) 'o') ⟨e,y,?_⟩
 refine⟨.non,_,I.lset g e 'd' (r.append i) ?_,rfl,q⟩;rw[aB];lia
def Gv(to:DE)(t:DA):DE:=λσ O=>(to σ O).bnd λx O1=>match x with
 | .own k=>(t σ O1).bnd λys O2=>match ys,O2[k]? with
  | [y],KF ds=>match sR O2 y with
   |some es=>if ds.length+es.length<=4000000 then .ok .non (O2.set k (ds++es)) else .bad
   |none=>.bad
  |_,_=>.bad
 |_=>.bad
def zbw(m:PD X Ex o to)(n:sI X Ex (e::es) t)(s:attributeBase o "extend" X.env (eval o X.env)=eval o X.env:=by rfl)
  (u:((backTo o9 (aA (e::es) X.env)).all (λx=>!x.1)&&(backToKw o9 (keywordEach [] X.env)).all (λx=>x.1.isSome)&&decide ((e::es).length+([]:List fy).length+(if ([]:List fy).isEmpty then 0 else 1)<30))=qb:=by rfl)
  (z:(apos.endLine==o9.line)=qb:=by rfl) (B:aA (e::es) X.env=(qj,eval e X.env)::aA es X.env:=by rfl) (C:(backTo o9 (aA es X.env)).any (·.1)=qj:=by rfl):
  PD X Ex (.Call (.Attribute o "extend" apos) (e::es) [] o9) (Gv to t):=
 rl (GD jU kL PySem.F.type_list_extend Yt m.out n.out s u z B C) λD μ σ O a_ H Q E G q=>rd.go E G q λd O1 v H1 e_ I x g r p=>by
  cases d with
  | own k=>
   have J:=r;obtain⟨A,rfl,K⟩:=r;obtain⟨ds,L,h1,M,h3⟩:=g.at_ k A K;refine⟨.inl ⟨rfl,L,.of M⟩,t6.go I g p λys O2 ws H2 N e3 P c R a=>?_⟩;split at a
   ·rename_i y B5 S;split at a
    ·rename_i zs T;obtain⟨U,a⟩:=post.ite a;obtain⟨w,rfl,V⟩:=tO R;have f:N[k]?=KF A:=by
      have:=J.ext P;obtain⟨A',W,Y⟩:=this;cases W;exact Y
     obtain⟨F1,Z,h,i,j⟩:=c.at_ k A f;rw[S] at h;cases h;obtain⟨pb,vz,rfl,sq,l⟩:=uB c V T;refine⟨A,pb,Z,vz,rfl,rfl,i,sq,aF (by rw[<- j.length,<- l.length];exact U) 's',?_⟩;exact post.ok a (.put (aX f) ⟨_,i⟩) (c.put f (j.append l)) zw
    ·exact ah a
   ·exact ah a
  |_=>exact ah p
end
end DL
namespace TS
open PySem PyProof.Rows
abbrev G1:=Bool->a8->Array a8->Nat->Nat->Nat->StateT bR Sem (Option Nat)
abbrev M1:=Array a8->Array a8->StateT bR Sem (Array a8)
def lay(xs:Array a8)(at_:Nat)(m:List a8):Array a8:=m.zipIdx.foldl (λa x=>a.setIfInBounds (at_+x.2) x.1) xs
structure oz where
 g:G1
 lo:M1
 hi:M1
 at_:∀{M:gE}{A:aU}{E:ae->ag->Prop}{s:ag}{i:Nat}{st:bR}{Q:Bool->bR->Prop}{sa na pw sb nb Io:Nat}{kb:a8},
  (q8 st)[i]?=KF (sa,na,pw)->(q8 st)[i+1]?=KF (sb,nb,Io)->(q7 st)[sb]?=KF kb->
  wpS M A E s (g qj kb (q7 st) sa na 0) (λr qi=>∃k,r=KF k/\(na-k=0->Q qb qi)/\(na-k≠0->∃ka,(q7 st)[sa+k+(na-k)-1]?=KF ka/\
   wpS M A E s (g qb ka (q7 st) sb nb (nb-1)) (λr2 pO=>∃m,r2=KF m/\(m=0->Q qb pO)/\(m≠0->
    wpS M A E s (if na-k<=m then lo ((q7 st).extract (sa+k) sb) ((q7 st).extract sb (sb+m)) else hi ((q7 st).extract (sa+k) sb) ((q7 st).extract sb (sb+m)))
     (λmg pH=>Q (failedOf pH).isNone (setArr pH (lay (q7 pH) (sa+k) mg.toList))) pO)) qi)) (setPending st (((q8 st).setIfInBounds i (sa,na+nb,pw)).eraseIdxIfInBounds (i+1)))->
  wpS M A E s (mergeAt' i) Q st
def sP{M:gE}{A:aU}{E:ae->ag->Prop}{s:ag}{b:bR}{a:Array a8}{i:Nat}{x:a8}{Q:a8->bR->Prop}(h:a[i]?=KF x)(q:Q x b):wpS M A E s (elem' a i) Q b:=by rw[elem'_eq,h];exact aJ q
def Zr{M:gE}{A:aU}{E:ae->ag->Prop}{s:ag}{σ:Type}{b a:σ}{Q:PUnit->σ->Prop}(q:Q ⟨⟩ a):wpS M A E s (set a) Q b:=fu (f:=λ_=>a) q
noncomputable def oC:oz:=by
 apply oz.mk
 case at_=>
  intro M A E s i st Q sa na pw sb nb Io kb h1 h2 h3 h;show wpS M A E s (get >>= _) Q st;refine az (gA ?_);rw[show(q8 st)[i]?=_ from h1,show(q8 st)[i+1]?=_ from h2];refine az (Zr (az (sP h3 (az (dD h ?_)))));rintro _ qi ⟨k,rfl,e0,e1⟩;by_cases hk:na-k=0
  ·show wpS M A E s (if (na-k==0)=qb then _ else _) Q qi;rw[qL (by rw[hk];rfl)];exact aJ (e0 hk)
  ·show wpS M A E s (if (na-k==0)=qb then _ else _) Q qi;rw[q0 ⇑hk];obtain⟨ka,q1,q2⟩:=e1 hk;refine az (sP q1 (az (dD q2 ?_)));rintro _ pO ⟨m,rfl,f0,f1⟩;by_cases hm:m=0
   ·subst hm;exact aJ (f0 rfl)
   ·show wpS M A E s (if (m==0)=qb then _ else _) Q pO;rw[q0 ⇑hm];have f2:=f1 hm;by_cases hc:na-k<=m
    ·rw[qL hc] at f2;show wpS M A E s (if na-k<=m then _ else _) Q pO;rw[qL hc];exact az (dD f2 λmg pH q=>az (fu (az (gA (aJ q)))))
    ·rw[q0 hc] at f2;show wpS M A E s (if na-k<=m then _ else _) Q pO;rw[q0 hc];exact az (dD f2 λmg pH q=>az (fu (az (gA (aJ q)))))
section
variable{prog:aD}{w:aR}{A:aU}{E:ae->ag->Prop}{s:ag}{κ:aQ}{st:bR}{kd:KT}
def ky(κ:aQ)(x:a8):κ.α:=(κ.keyOf x.1).getD κ.dflt
def tj(κ:aQ)(x:a8):Prop:=∃a,κ.keyOf x.1=KF a
abbrev Ty{α β:Type}(_:α->β):Type:=β
abbrev KT:Type:=Ty kindOf
def uJ(prog:aD)(w:aR)(A:aU)(s:ag)(κ:aQ)(kd:KT):Prop:=∀(x y:a8)(E':ae->ag->Prop){Q:Bool->ag->Prop},tj κ x->tj κ y->Q (κ.blt (ky κ x) (ky κ y)) s->ar (av prog w) A (keyLt' kd x.1 y.1) Q E' s
def uJ.one(e:κ.OneLt):uJ prog w A s κ oneType':=λx y f Q ⟨a,c⟩ ⟨b,d⟩ q=>by
 have g:ky κ x=a:=by unfold ky;rw[c];rfl
 have h:ky κ y=b:=by unfold ky;rw[d];rfl
 rw[g,h] at q;exact e prog w A f s x.1 y.1 a b c d q
def D3(a:uJ prog w A s κ kd)(b:kindOf st=kd)(c:tj κ x)(d:tj κ y)(q:Q (KF (κ.blt (ky κ x) (ky κ y))) st):wpS (av prog w) A E s (lt' x y) Q st:=by rw[lt'_eq];refine az (gA (az (ja (fE ?_))));rw[b];exact a x y _ c d ⟨rfl,aJ q⟩
def tG(κ:aQ)(left:Bool)(key x:a8):Bool:=if left=qb then κ.blt (ky κ x) (ky κ key) else !κ.blt (ky κ key) (ky κ x)
def DU{α β:Type}{G:Prop}{H:α->β->Prop}(P:α->β->Prop)(h:(∀x y,H x y->P x y)->G)(k:∀x y,H x y->P x y):G:=h k
def ZR(V:uJ prog w A s κ kd){left:Bool}{key:a8}{F:Array a8}{base n hint:Nat}{b:Nat->Bool}(W:kindOf st=kd)(X:tj κ key)(hb:∀i,i<n->∃x,F[base+i]?=KF x/\tj κ x/\tG κ left key x=b i)(hh:hint<n)(t:∀i j,i<=j->j<n->b j=qb->b i=qb)
  {Q:Option Nat->bR->Prop} (q:∀k,k<=n->(∀i,i<k->b i=qb)->(∀i,k<=i->i<n->b i=qj)->Q (KF k) st):wpS (av prog w) A E s ((oz.g oC) left key F base n hint) Q st:=by
 have z:∀i,i<n->∀{Q:Option Bool->bR->Prop},Q (KF (b i)) st->wpS (av prog w) A E s (elem' F (base+i) >>= λx=>if left=qb then lt' x key else lt' key x >>= λr=>pure (r.map λx=>!x)) Q st:=λi a Q Y=>by
  obtain⟨x,u,B,p⟩:=hb i a;refine az (sP u ?_);unfold tG at p;cases left with
  | true=>
   rw[qL rfl] at p;rw[qL rfl];exact D3 V W B X (by rw[p];exact Y)
  | false=>
   rw[q0 's'] at p;rw[q0 's'];exact az (D3 V W X B (aJ (by show Q (KF (!κ.blt (ky κ key) (ky κ x))) st;rw[p];exact Y)))
 have y:∀i j,i<=j->i<n->j<n->b i=qj->b j=qj:=λi j ur a hj C=>by
  cases e:b j with
  |false=>rfl
  |true=>rw[t i j ur hj e] at C;cases C
 show wpS _ _ _ _ (_ >>= _) Q st;refine az (z hint hh ?_);apply DU (α:=Nat) (β:=Nat) (H:=λd a=>d<=a/\a<=n/\(∀i,i<d->b i=qb)/\(∀i,a<=i->i<n->b i=qj));intro key;cases Z:b hint with
 | true=>
  refine az (dD (cG (I:=λk c f=>f=st/\∃l o,c=(KM,l,o)/\l<o/\k+1<=o/\hint+l<n/\b (hint+l)=qb) (Q:=λc f=>f=st/\∃l o,c=(KM,l,o)/\l<o/\hint+l<n/\b (hint+l)=qb/\(hint+o<n->b (hint+o)=qj)) ?_ ?_ ?_) ?_)
  ·rintro k c f _ yf ⟨L,l,o,rfl,u,B,p,v⟩;subst f;show wpS _ _ _ _ (if o ≥ n-hint then _ else _) _ st;by_cases D:o ≥ n-hint
   ·rw[qL D];exact aJ ⟨rfl,l,o,rfl,u,p,v,λh=>by lia⟩
   ·rw[q0 D];refine az (z (hint+o) 'o' ?_);cases M:b (hint+o) with
    |true=>exact aJ ⟨rfl,o,2*o+1,rfl,by lia,by lia,by lia,M⟩
    |false=>exact aJ ⟨rfl,l,o,rfl,u,p,v,λ_=>M⟩
  ·rintro c f ⟨L,l,o,rfl,u,B,p,v⟩;subst f;exact⟨rfl,l,o,rfl,u,p,v,λh=>by rw[dS] at B;lia⟩
  ·exact⟨rfl,0,1,rfl,by lia,by lia,by lia,Z⟩
  ·rintro c f ⟨L,l,o,rfl,u,p,v,S⟩;subst f;have N:hint+l+1<=hint+min o (n-hint):=by lia
   have O:hint+min o (n-hint)<=n:=by lia
   have P:∀i,i<hint+l+1->b i=qb:=λi a=>t i (hint+l) 'o' p v;have C:∀i,hint+min o (n-hint)<=i->i<n->b i=qj:=λi a R=>by
    have:hint+o<n:=by lia
    exact y (hint+o) i 'o' this R (S this)
   show wpS _ _ _ _ (forIn [:n] (KM,hint+l+1,hint+min o (n-hint)) _ >>= _) Q st;generalize hint+l+1=d at *;generalize hint+min o (n-hint)=a at *;exact key _ _ ⟨N,O,P,C⟩
 | false=>
  refine az (dD (cG (I:=λk c f=>f=st/\∃l o,c=(KM,l,o)/\l<o/\k+1<=o/\l<=hint/\b (hint-l)=qj) (Q:=λc f=>f=st/\∃l o,c=(KM,l,o)/\l<o/\l<=hint/\b (hint-l)=qj/\(o<=hint->b (hint-o)=qb)) ?_ ?_ ?_) ?_)
  ·rintro k c f _ yf ⟨L,l,o,rfl,u,B,p,v⟩;subst f;show wpS _ _ _ _ (if o ≥ hint+1 then _ else _) _ st;by_cases D:o ≥ hint+1
   ·rw[qL D];exact aJ ⟨rfl,l,o,rfl,u,p,v,λh=>by lia⟩
   ·rw[q0 D];refine az (z (hint-o) 'o' ?_);cases M:b (hint-o) with
    |true=>exact aJ ⟨rfl,l,o,rfl,u,p,v,λ_=>M⟩
    |false=>exact aJ ⟨rfl,o,2*o+1,rfl,by lia,by lia,by lia,M⟩
  ·rintro c f ⟨L,l,o,rfl,u,B,p,v⟩;subst f;exact⟨rfl,l,o,rfl,u,p,v,λh=>by rw[dS] at B;lia⟩
  ·exact⟨rfl,0,1,rfl,by lia,by lia,by lia,Z⟩
  ·rintro c f ⟨L,l,o,rfl,u,p,v,S⟩;subst f;have N:hint+1-min o (hint+1)<=hint-l:=by lia
   have O:hint-l<=n:=by lia
   have P:∀i,i<hint+1-min o (hint+1)->b i=qb:=λi a=>by
    have:o<=hint:=by lia
    exact t i (hint-o) 'o' 'o' (S this)
   have C:∀i,hint-l<=i->i<n->b i=qj:=λi a R=>y (hint-l) i a 'o' R v;show wpS _ _ _ _ (forIn [:n] (KM,hint+1-min o (hint+1),hint-l) _ >>= _) Q st;generalize hint+1-min o (hint+1)=d at *;generalize hint-l=a at *;exact key _ _ ⟨N,O,P,C⟩
 rintro d a ⟨N,O,P,C⟩;refine az (dD (cG (I:=λk c T=>T=st/\∃d a,c=(KM,d,a)/\d<=a/\a<=n/\a-d<=n-k/\(∀i,i<d->b i=qb)/\(∀i,a<=i->i<n->b i=qj)) (Q:=λc T=>T=st/\∃m,c=(KM,m,m)/\m<=n/\(∀i,i<m->b i=qb)/\(∀i,m<=i->i<n->b i=qj)) ?_ ?_ ?_) ?_)
 ·rintro k c U _ yf ⟨rfl,d,a,rfl,g1,G,g3,J,K⟩;show wpS _ _ _ _ (if d ≥ a then _ else _) _ U;by_cases D:d ≥ a
  ·rw[qL D];have:d=a:=by lia
   subst this;exact aJ ⟨rfl,d,rfl,G,J,K⟩
  ·rw[q0 D];refine az (z (d+(a-d)/2) 'o' ?_);cases tV:b (d+(a-d)/2) with
   |true=>exact aJ ⟨rfl,d+(a-d)/2+1,a,rfl,by lia,G,by lia,λi yh=>t i (d+(a-d)/2) 'o' 'o' tV,K⟩
   |false=>exact aJ ⟨rfl,d,d+(a-d)/2,rfl,by lia,by lia,by lia,J,λi yh R=>y (d+(a-d)/2) i yh 'o' R tV⟩
 ·rintro c U ⟨rfl,d,a,rfl,g1,G,g3,J,K⟩;rw[dS] at g3;have:d=a:=by lia
  subst this;exact⟨rfl,d,rfl,G,J,K⟩
 ·exact⟨rfl,d,a,rfl,N,O,by lia,P,C⟩
 ·rintro c U ⟨rfl,m,rfl,G,J,K⟩;exact aJ (q m G J K)
end
section
variable{κ:aQ}
def Le(κ:aQ)(x y:a8):Prop:=κ.blt (ky κ y) (ky κ x)=qj
def Le.refl(x:a8):Le κ x x:=κ.irrefl _
def Le.trans(a:Le κ x y)(b:Le κ y z):Le κ x z:=by
 unfold Le at *;cases e:κ.blt (ky κ z) (ky κ x) with
 |false=>rfl
 | true=>
  rcases κ.negTrans _ (ky κ y) _ e with h|h
  ·rw[b] at h;cases h
  ·rw[a] at h;cases h
def Le.of(h:κ.blt (ky κ x) (ky κ y)=qb):Le κ x y:=by
 unfold Le;cases e:κ.blt (ky κ y) (ky κ x) with
 |false=>rfl
 | true=>
  have:=κ.trans _ _ _ h e;rw[κ.irrefl] at this;cases this
def pZ(κ:aQ)(l:List a8):Prop:=l.Pairwise (Le κ)
structure Out(κ:aQ)(a b r:List a8):Prop where
 perm:r.Perm (a++b)
 srt:pZ κ r
structure Mg(κ:aQ)(a b o:List a8)(i j:Nat):Prop where
 perm:o.Perm (a.take i++b.take j)
 srt:pZ κ o
 la:∀x∈o,∀y∈a.drop i,Le κ x y
 lb:∀x∈o,∀y∈b.drop j,Le κ x y
variable{a b o:List a8}{i j:Nat}
def Mg.len(h:Mg κ a b o i j)(c:i<=a.length)(d:j<=b.length):o.length=i+j:=by rw[h.perm.length_eq,aB,bK,bK];lia
def Rb{α:Type}(l:List α)(i k:Nat){x:α}(h:x∈l.drop (i+k)):x∈l.drop i:=by rw[<- ez] at h;exact cV h
def pZ.take_drop(h:pZ κ l)(k:Nat):∀x∈l.take k,∀y∈l.drop k,Le κ x y:=by unfold pZ at h;rw[<- cJ k l,bF] at h;exact h.2.2
def Mg.addA(h:Mg κ a b o i j)(f:pZ κ a)(k:Nat)(d:∀y∈(a.drop i).take k,∀z∈b.drop j,Le κ y z):Mg κ a b (o++(a.drop i).take k) (i+k) j:=by
 have e:pZ κ (a.drop i):=f.sublist (c9 i a);refine⟨?_,?_,λx hx y c=>?_,λx hx y c=>?_⟩
 ·rw[nG];refine(h.perm.append_right _).trans ?_;rw[bh,bh];exact(cK).append_left _
 ·unfold pZ;rw[bF];exact⟨h.srt,e.sublist (cL k _),λx hx y c=>h.la x hx y (cA c)⟩
 ·rcases aS.mp hx with hx|hx
  ·exact h.la x hx y (Rb a i k c)
  ·exact e.take_drop k x hx y (by rw[ez];exact c)
 ·rcases aS.mp hx with hx|hx
  ·exact h.lb x hx y c
  ·exact d x hx y c
def Mg.addB(h:Mg κ a b o i j)(f:pZ κ b)(k:Nat)(d:∀y∈(b.drop j).take k,∀z∈a.drop i,Le κ y z):Mg κ a b (o++(b.drop j).take k) i (j+k):=by
 have e:pZ κ (b.drop j):=f.sublist (c9 j b);refine⟨?_,?_,λx hx y c=>?_,λx hx y c=>?_⟩
 ·rw[nG];refine(h.perm.append_right _).trans ?_;rw[bh]
 ·unfold pZ;rw[bF];exact⟨h.srt,e.sublist (cL k _),λx hx y c=>h.lb x hx y (cA c)⟩
 ·rcases aS.mp hx with hx|hx
  ·exact h.la x hx y c
  ·exact d x hx y c
 ·rcases aS.mp hx with hx|hx
  ·exact h.lb x hx y (Rb b j k c)
  ·exact e.take_drop k x hx y (by rw[ez];exact c)
def Mg.fin(h:Mg κ a b o i j)(d:pZ κ a)(e:pZ κ b)(f:∀x∈a.drop i,∀y∈b.drop j,Le κ x y):Out κ a b (o++a.drop i++b.drop j):=by
 refine⟨?_,?_⟩
 ·refine((h.perm.append_right _).append_right _).trans ?_
  conv=>rhs;rw[<- cJ i a,<- cJ j b]
  simp only[bh];refine f9 _ ?_;rw[<- bh,<- bh];exact cK.append_right _
 ·unfold pZ;rw[bF,bF];refine⟨⟨h.srt,d.sublist (c9 i a),h.la⟩,e.sublist (c9 j b),λx g y c=>?_⟩;rcases aS.mp g with h'|h'
  ·exact h.lb x h' y c
  ·exact f x h' y c
def Mg.fin'(h:Mg κ a b o i j)(c:pZ κ a)(d:pZ κ b)(e:∀y∈b.drop j,∀x∈a.drop i,Le κ y x):Out κ a b (o++b.drop j++a.drop i):=by have f:Mg κ b a o j i:=⟨h.perm.trans cK,h.srt,h.lb,h.la⟩;have:=f.fin d c e;exact⟨this.perm.trans cK,this.srt⟩
def Ak{l:List a8}{i:Nat}{x:a8}(h:l[i]?=KF x):(l.drop i).take 1=[x]:=by obtain⟨c,rfl⟩:=al.mp h;rw[cb c];rfl
def CL(h:pZ κ l)(e:l[i]?=KF x):∀y∈l.drop i,Le κ x y:=by
 obtain⟨c,rfl⟩:=al.mp e;intro y hy;rw[cb c] at hy;have d:pZ κ (l.drop i):=h.sublist (c9 i l);rw[cb c] at d;rcases aq.mp hy with rfl|hy
 ·exact Le.refl _
 ·exact(bb.mp d).1 y hy
end
structure oa(st g_:bR):Prop where
 kind:kindOf g_=kindOf st
 arr:q7 g_=q7 st
 pend:q8 g_=q8 st
 failed:failedOf g_=failedOf st
def oa.refl(a:bR):oa a a:=⟨rfl,rfl,rfl,rfl⟩
def oa.trans(h:oa a b)(g:oa b c):oa a c:=⟨g.kind.trans h.kind,g.arr.trans h.arr,g.pend.trans h.pend,g.failed.trans h.failed⟩
section
variable{prog:aD}{w:aR}{A:aU}{E:ae->ag->Prop}{s:ag}{κ:aQ}{st:bR}{kd:KT}
def v9{a:Array a8}{i:Nat}(h:i<a.size):∃x,a[i]?=KF x/\a.toList[i]?=KF x:=⟨a[i],by simp[h],by simp[h]⟩
def Qo(b:oa st (f st))(h:∀a,oa st a->Q ⟨⟩ a):wpS M A E s (modify f) Q st:=fu (h _ b)
def GL(a:Array a8)(i:Nat):(a.extract i).toList=a.toList.drop i:=by simp only[k8,jG];exact cY 'd'
def JN(a:Array a8)(i k:Nat):(a.extract i (i+k)).toList=(a.toList.drop i).take k:=by simp
def Oh{a b:List a8}{c:Array a8}{d e:Nat}{x:a8}(m:Mg κ a b c.toList d e)(g:pZ κ a)(f:a[d]?=KF x)(h:∀z∈b.drop e,Le κ x z):Mg κ a b (c.push x).toList (d+1) e:=by have:=m.addA g 1 (by rw[Ak f];intro y i;rw[bV.mp i];exact h);rw[Ak f] at this;rw[fY];exact this
def NW{a b:List a8}{c:Array a8}{d e:Nat}{x:a8}(m:Mg κ a b c.toList d e)(g:pZ κ b)(f:b[e]?=KF x)(h:∀z∈a.drop d,Le κ x z):Mg κ a b (c.push x).toList d (e+1):=by have:=m.addB g 1 (by rw[Ak f];intro y i;rw[bV.mp i];exact h);rw[Ak f] at this;rw[fY];exact this
def CP(C:uJ prog w A s κ kd){left:Bool}{key:a8}{c:Array a8}{base n hint:Nat}{L:List a8}(B:(c.toList.drop base).take n=L)(D:kindOf st=kd)(F:tj κ key)(O:base+n<=c.size)(G:hint<n)(r:∀x∈L,tj κ x)(t:pZ κ L)
  {Q:Option Nat->bR->Prop} (q:∀k,k<=n->(∀x∈L.take k,tG κ left key x=qb)->(∀x∈L.drop k,tG κ left key x=qj)->Q (KF k) st):wpS (av prog w) A E s ((oz.g oC) left key c base n hint) Q st:=by
 have H:L.length=n:=by
  rw[<- B,bK,cg,aK];lia
 have l:∀i,i<n->∃x,c[base+i]?=KF x/\L[i]?=KF x:=λi d=>by
  obtain⟨x,u,f⟩:=v9 (a:=c) (i:=base+i) 'o';refine⟨x,u,?_⟩;rw[<- B,fz d,List.getElem?_drop];exact f
 refine ZR C (b:=λi=>match L[i]? with|some x=>tG κ left key x|none=>qj) D F (λi d=>?_) G (λi j P I e=>?_) λk J K M=>q k J (λx m=>?_) λx m=>?_
 ·obtain⟨x,u,f⟩:=l i d;exact⟨x,u,r x (aX f),by rw[f]⟩
 ·obtain⟨x,_,m⟩:=l i 'o';obtain⟨y,_,p⟩:=l j I;rw[p] at e;rw[m]
  replace e:tG κ left key y=qb:=e
  show tG κ left key x=qb;by_cases h:i=j
  ·subst h;rw[m] at p;cases p;exact e
  have o:Le κ x y:=by
   obtain⟨v,rfl⟩:=al.mp m;obtain⟨z,rfl⟩:=al.mp p;exact fv.mp t i j v z 'o'
  unfold tG at e ⊢;cases left with
  | true=>
   rw[qL rfl] at e ⊢;rcases κ.negTrans _ (ky κ x) _ e with h|h
   ·rw[show κ.blt (ky κ y) (ky κ x)=qj from o] at h;cases h
   ·exact h
  | false=>
   rw[q0 's'] at e ⊢;have N:Le κ y key:=by unfold Le;simpa using e
   have:Le κ x key:=o.trans N;unfold Le at this;rw[this];rfl
 ·obtain⟨i,d,e⟩:=lE m;have v:i<k:=by rw[bK] at d;lia
  have:=K i v;have f:L[i]?=KF x:=by rw[<- e,mw];exact aC (by rw[bK] at d;lia)
  rw[f] at this;exact this
 ·obtain⟨i,d,e⟩:=lE m;rw[cg] at d;have:=M (k+i) 'o' 'o';have f:L[k+i]?=KF x:=by rw[<- e,mx];exact aC 'o'
  rw[f] at this;exact this
def Oq{α:Type}{G:Prop}(P:α->Prop)(h:(∀x,P x)->G)(k:∀x,P x):G:=h k
def Yd(ho:uJ prog w A s κ kd){a b:Array a8}(hk:kindOf st=kd)(ha:∀x∈a.toList,tj κ x)(hb:∀x∈b.toList,tj κ x)(U:pZ κ a.toList)(R:pZ κ b.toList)(pa:1<=a.size)(pb:1<=b.size)
  (h0:∀x∈b.toList.take 1,∀y∈a.toList,Le κ x y) (hl:∀y∈b.toList,∀x∈a.toList.drop (a.size-1),Le κ y x) {Q:Array a8->bR->Prop} (q:∀r D,oa st D->Out κ a.toList b.toList r.toList->Q r D):wpS (av prog w) A E s ((oz.lo oC) a b) Q st:=by
 have L5:a.toList.length=a.size:=aK;have L4:b.toList.length=b.size:=aK;have sH:∀{l:Array a8}{d f:Nat},Mg κ a.toList b.toList l.toList d f->(f=b.size\/d=a.size)->Out κ a.toList b.toList (l++a.extract d++b.extract f).toList:=λ{l d f}m h=>by
  rw[bM,bM,GL,GL];refine m.fin U R λx n y N=>?_;rcases h with rfl|rfl
  ·rw[dI 'o'] at N;cases N
  ·rw[dI 'o'] at n;cases n
 have ua:∀{l:Array a8}{d f:Nat},Mg κ a.toList b.toList l.toList d f->d+1=a.size->Out κ a.toList b.toList (l++b.extract f++a.extract d).toList:=λ{l d f}m h=>by
  rw[bM,bM,GL,GL];refine m.fin' U R λy N x n=>hl y (cV N) x ?_;have:a.size-1=d:=by lia
  rw[this];exact n
 obtain⟨b0,g0,l0⟩:=v9 (a:=b) (i:=0) 'o';have m0:Mg κ a.toList b.toList (#[b0]:Array a8).toList 0 1:=by
  have e:b.toList.take 1=[b0]:=by
   have:=Ak l0;simpa using this
  refine⟨by rw[e];exact d0 _,d7 _ _,λx n y N=>h0 x (by rw[e];exact n) y N,λx n y N=>?_⟩;have:x=b0:=⇑n
  subst this;exact CL R l0 y (cV N)
 show wpS _ _ _ _ (_ >>= _) Q st;refine az (ja (dW ⟨rfl,az (sP g0 ?_)⟩));by_cases c1:1=b.size
 ·show wpS _ _ _ _ (if (1==b.size)=qb then _ else _) Q st;rw[qL ⇑c1];exact aJ (q _ st (oa.refl st) (sH m0 (.inl c1)))
 show wpS _ _ _ _ (if (1==b.size)=qb then _ else _) Q st;rw[q0 ⇑c1];by_cases c2:1=a.size
 ·show wpS _ _ _ _ (if (0+1==a.size)=qb then _ else _) Q st;rw[qL ⇑c2];exact aJ (q _ st (oa.refl st) (ua m0 'o'))
 show wpS _ _ _ _ (if (0+1==a.size)=qb then _ else _) Q st;rw[q0 ⇑c2];refine az (gA (az (dD (cG (I:=λk c D=>oa st D/\∃l d f G,c=(KM,l,d,f,G)/\Mg κ a.toList b.toList l.toList d f/\d+1<a.size/\f<b.size/\k+1<=l.size) (Q:=λc D=>oa st D/\∃r,c.1=KF r/\Out κ a.toList b.toList r.toList) ?_ ?_ ?_) ?_)))
 ·rintro k c qi _ hkt ⟨sm,l,d,f,G,rfl,m,J,F,c5⟩;have Fz:kindOf qi=kd:=sm.kind.trans hk;refine az (dD (cG (I:=λj c D=>D=qi/\∃o d f t v,c=(KM,o,d,f,t,v)/\Mg κ a.toList b.toList o.toList d f/\d+1<a.size/\f<b.size/\l.size+j<=o.size) (Q:=λc D=>D=qi/\((∃r,c.1=KF r/\Out κ a.toList b.toList r.toList) \/ ∃o d f t v,c=(KM,o,d,f,t,v)/\Mg κ a.toList b.toList o.toList d f/\d+1<a.size/\f<b.size/\l.size+1<=o.size)) ?_ ?_ ?_) ?_)
  ·rintro j c pO _ MJ ⟨rfl,o,d,f,t,v,rfl,m,J,F,c6⟩;obtain⟨y,gy,X⟩:=v9 (a:=b) F;obtain⟨x,gx,S⟩:=v9 (a:=a) (i:=d) 'o';refine az (sP gy (az (sP gx (az (D3 ho Fz (hb y (aX X)) (ha x (aX S)) ?_)))));cases hc:κ.blt (ky κ y) (ky κ x) with
   | true=>
    have Y:=NW m R X λz K=>(Le.of hc).trans (CL U S z K);refine az (sP gy ?_);show wpS _ _ _ _ (if (f+1==b.size)=qb then _ else _) _ pO;by_cases e:f+1=b.size
    ·rw[qL ⇑e];exact aJ ⟨rfl,.inl ⟨_,rfl,sH Y (.inl e)⟩⟩
    ·rw[q0 ⇑e];split
     ·exact aJ ⟨rfl,.inr ⟨o.push y,d,f+1,0,v+1,rfl,Y,J,by lia,by rw[cf];lia⟩⟩
     ·exact aJ ⟨rfl,o.push y,d,f+1,0,v+1,rfl,Y,J,by lia,by rw[cf];lia⟩
   | false=>
    have Y:=Oh m U S λz K=>Le.trans (show Le κ x y from hc) (CL R X z K);refine az (sP gx ?_);show wpS _ _ _ _ (if (d+1+1==a.size)=qb then _ else _) _ pO;by_cases e:d+1+1=a.size
    ·rw[qL ⇑e];exact aJ ⟨rfl,.inl ⟨_,rfl,ua Y e⟩⟩
    ·rw[q0 ⇑e];split
     ·exact aJ ⟨rfl,.inr ⟨o.push x,d+1,f,t+1,0,rfl,Y,by lia,F,by rw[cf];lia⟩⟩
     ·exact aJ ⟨rfl,o.push x,d+1,f,t+1,0,rfl,Y,by lia,F,by rw[cf];lia⟩
  ·rintro c pO ⟨rfl,o,d,f,t,v,rfl,m,J,F,c6⟩;have:=m.len 'o' 'o';rw[aK] at this;rw[dS] at c6;lia
  ·exact⟨rfl,l,d,f,0,0,rfl,m,J,F,by lia⟩
  rintro c pO ⟨rfl,h⟩;rcases h with⟨r,e,hr⟩|⟨o,d,f,t,v,rfl,m,J,F,c6⟩
  ·obtain⟨c,c'⟩:=c;dsimp only at e;subst e;exact aJ ⟨sm,r,rfl,hr⟩
  refine az (ja (dW ⟨rfl,az (dD (cG (I:=λj c D=>oa st D/\∃B d f G t v,c=(KM,B,d,f,G,t,v)/\Mg κ a.toList b.toList B.toList d f/\d+1<a.size/\f<b.size/\o.size+j<=B.size) (Q:=λc D=>oa st D/\((∃r,c.1=KF r/\Out κ a.toList b.toList r.toList) \/ ∃B d f G t v,c=(KM,B,d,f,G,t,v)/\Mg κ a.toList b.toList B.toList d f/\d+1<a.size/\f<b.size/\o.size<=B.size)) ?_ ?_ ?_) ?_)⟩))
  ·rintro j c pH _ MJ ⟨T,B,d,f,G,t,v,rfl,m,J,F,c6⟩;obtain⟨y,gy,X⟩:=v9 (a:=b) F;have N:=hb y (aX X);have B3:∀M,oa st M->∀{Q:Option Nat->bR->Prop},(∀k,k<=a.size-d->(∀x∈(a.toList.drop d).take k,Le κ x y)->(∀x∈a.toList.drop (d+k),Le κ y x)->Q (KF k) M)->wpS (av prog w) A E s ((oz.g oC) qj y a d (a.size-d) 0) Q M:=λM s4 Q h=>
    CP ho (L:=a.toList.drop d) (cY (by rw[cg];lia)) (s4.kind.trans hk) N 'o' 'o' (λx n=>ha x (cV n)) (U.sublist (c9 d _)) λk h1 h2 h3=>h k h1 (λx n=>by
     have:=h2 x n;unfold tG at this;rw[q0 's'] at this;unfold Le;simpa using this) λx n=>by
     rw[<- ez] at n;have:=h3 x n;unfold tG at this;rw[q0 's'] at this;exact Le.of ⇑this
   have B2:∀x{C:Nat},a.toList[C]?=KF x->∀M,oa st M->f+1<b.size->∀{Q:Option Nat->bR->Prop},(∀k,k<=b.size-(f+1)->(∀z∈(b.toList.drop (f+1)).take k,Le κ z x)->(∀z∈b.toList.drop (f+1+k),Le κ x z)->Q (KF k) M)->wpS (av prog w) A E s ((oz.g oC) qb x b (f+1) (b.size-(f+1)) 0) Q M:=λx C S M s4 h4 Q h=>
    CP ho (L:=b.toList.drop (f+1)) (cY (by rw[cg];lia)) (s4.kind.trans hk) (ha x (aX S)) 'o' 'o' (λx n=>hb x (cV n)) (R.sublist (c9 _ _)) λk h1 h2 h3=>h k h1 (λz K=>by
     have:=h2 z K;unfold tG at this;rw[qL rfl] at this;exact Le.of this) λz K=>by
     rw[<- ez] at K;have:=h3 z K;unfold tG at this;rw[qL rfl] at this;exact this
   show wpS _ _ _ _ (if G>1 then _ else _) _ pH;apply Oq (α:=Nat)
   ·intro p;split
    ·generalize G-1=E5;exact p E5
    ·exact p G
   intro E5;refine az (Qo ⟨rfl,rfl,rfl,rfl⟩ λM s4=>az (sP gy (az (B3 M (T.trans s4) ?_))));have V:=T.trans s4;intro k yf kt kf;have m3:=m.addA U k λx n z K=>(kt x n).trans (CL R X z K);rw[<- JN,<- bM] at m3;have n3:B.size<=(B++a.extract d (d+k)).size:=by rw[fX];lia
   show wpS _ _ _ _ (if k>0 then _ else _) _ _;apply DU (H:=λ(O:Array a8)(C:Nat)=>Mg κ a.toList b.toList O.toList C f/\B.size<=O.size/\C+1<a.size/\∀x∈a.toList.drop C,Le κ y x)
   ·intro p;by_cases sY:k>0
    ·rw[qL sY];show wpS _ _ _ _ (if (d+k+1==a.size)=qb then _ else _) _ _;by_cases e1:d+k+1=a.size
     ·rw[qL ⇑e1];exact aJ ⟨V,.inl ⟨_,rfl,ua m3 e1⟩⟩
     ·rw[q0 ⇑e1];show wpS _ _ _ _ (if (d+k==a.size)=qb then _ else _) _ _;by_cases e2:d+k=a.size
      ·rw[qL ⇑e2];exact aJ ⟨V,.inl ⟨_,rfl,sH m3 (.inr e2)⟩⟩
      ·rw[q0 ⇑e2];have Z:=eU m3 (eU n3 (eU (show d+k+1<a.size by lia) kf));generalize B++a.extract d (d+k)=O at Z ⊢;generalize d+k=C at Z ⊢;exact p O C Z
    ·rw[q0 sY];have vj:k=0:=by lia
     rw[vj,lU] at kf;exact p B d ⟨m,aE _,J,kf⟩
   rintro O C ⟨m3,n3,f3,By⟩;have m4:=NW m3 R X By;refine az (sP gy ?_);show wpS _ _ _ _ (if (f+1==b.size)=qb then _ else _) _ _;by_cases e3:f+1=b.size
   ·rw[qL ⇑e3];exact aJ ⟨V,.inl ⟨_,rfl,sH m4 (.inl e3)⟩⟩
   ·rw[q0 ⇑e3];obtain⟨x,gx,S⟩:=v9 (a:=a) (i:=C) 'o';refine az (sP gx (az (B2 x S _ V 'o' ?_)));intro P tD L9 Ax;have m5:=m4.addB R P λz K u hu=>(L9 z K).trans (CL U S u hu);rw[<- JN,<- bM] at m5;have n5:O.size+1<=(O.push y++b.extract (f+1) (f+1+P)).size:=by rw[fX,cf];lia
    show wpS _ _ _ _ (if P>0 then _ else _) _ _;apply DU (H:=λ(u7:Array a8)(W:Nat)=>Mg κ a.toList b.toList u7.toList C W/\O.size+1<=u7.size/\W<b.size/\∀z∈b.toList.drop W,Le κ x z)
    ·intro p;by_cases sY:P>0
     ·rw[qL sY];show wpS _ _ _ _ (if (f+1+P==b.size)=qb then _ else _) _ _;by_cases e4:f+1+P=b.size
      ·rw[qL ⇑e4];exact aJ ⟨V,.inl ⟨_,rfl,sH m5 (.inl e4)⟩⟩
      ·rw[q0 ⇑e4];have Z:=eU m5 (eU n5 (eU (show f+1+P<b.size by lia) Ax));generalize O.push y++b.extract (f+1) (f+1+P)=u7 at Z ⊢;generalize f+1+P=W at Z ⊢;exact p u7 W Z
     ·rw[q0 sY];have vj:P=0:=by lia
      rw[vj,lU] at Ax;exact p (O.push y) (f+1) ⟨m4,by rw[cf];exact aE _,by lia,Ax⟩
    rintro u7 W ⟨m5,n5,f5,Ax⟩;have m6:=Oh m5 U S Ax;refine az (sP gx ?_);show wpS _ _ _ _ (if (C+1+1==a.size)=qb then _ else _) _ _;by_cases e5:C+1+1=a.size
    ·rw[qL ⇑e5];exact aJ ⟨V,.inl ⟨_,rfl,ua m6 e5⟩⟩
    ·rw[q0 ⇑e5];split
     ·exact aJ ⟨V,.inr ⟨u7.push x,C+1,W,_,_,_,rfl,m6,by lia,f5,by rw[cf];lia⟩⟩
     ·exact aJ ⟨V,u7.push x,C+1,W,_,_,_,rfl,m6,by lia,f5,by rw[cf];lia⟩
  ·rintro c pH ⟨T,B,d,f,G,t,v,rfl,m,J,F,c6⟩;have:=m.len 'o' 'o';rw[aK] at this;rw[dS] at c6;lia
  ·exact⟨sm,o,d,f,_,t,v,rfl,m,J,F,by lia⟩
  rintro c pH ⟨T,h⟩;rcases h with⟨r,e,hr⟩|⟨B,d,f,G,t,v,rfl,m,J,F,c7⟩
  ·obtain⟨c,c'⟩:=c;dsimp only at e;subst e;exact aJ ⟨T,r,rfl,hr⟩
  ·exact az (fu (aJ ⟨⟨T.kind,T.arr,T.pend,T.failed⟩,B,d,f,_,rfl,m,J,F,by lia⟩))
 ·rintro c qi ⟨sm,l,d,f,G,rfl,m,J,F,c5⟩;have:=m.len 'o' 'o';rw[aK] at this;rw[dS] at c5;lia
 ·exact⟨oa.refl st,#[b0],0,1,_,rfl,m0,by lia,by lia,by simp⟩
 ·rintro⟨c,c'⟩ qi ⟨sm,r,e,hr⟩;dsimp only at e;subst e;exact aJ (q r qi sm hr)
end
section
variable{κ:aQ}
structure Mh(κ:aQ)(a b o:List a8)(i j:Nat):Prop where
 perm:o.Perm (a.drop i++b.drop j)
 srt:pZ κ o.reverse
 la:∀x∈a.take i,∀y∈o,Le κ x y
 lb:∀x∈b.take j,∀y∈o,Le κ x y
variable{a b o:List a8}{i j:Nat}
def Mh.len(h:Mh κ a b o i j):o.length=(a.length-i)+(b.length-j):=by rw[h.perm.length_eq,aB,cg,cg]
def ZS{α:Type}{l:List α}{i k:Nat}(h:k<=i){x:α}(c:x∈l.take k):x∈l.take i:=by
 have:l.take k=(l.take i).take k:=by rw[gc,fN h]
 rw[this] at c;exact cA c
def ze6{α:Type}(l:List α)(h:k<=i):l.drop k=(l.take i).drop k++l.drop i:=by
 by_cases c:i<=l.length
 ·conv=>lhs;rw[<- cJ i l]
  rw[eI (by rw[bK];lia)]
 ·rw[cY 'o',dI (i:=i) 'o',bL]
def pZ.mid(h:pZ κ l)(d:k<=i):∀x∈l.take k,∀y∈(l.take i).drop k,Le κ x y:=by
 have e:pZ κ (l.take i):=h.sublist (cL i l);intro x c y f;have:l.take k=(l.take i).take k:=by rw[gc,fN d]
 rw[this] at c;exact e.take_drop k x c y f
def Mh.addA(h:Mh κ a b o i j)(f:pZ κ a){k:Nat}(d:k<=i)(e:∀z∈b.take j,∀y∈(a.take i).drop k,Le κ z y):Mh κ a b (o++((a.take i).drop k).reverse) k j:=by
 refine⟨?_,?_,λx c y hy=>?_,λx c y hy=>?_⟩
 ·rw[ze6 a d];refine(h.perm.append (my _)).trans ?_;rw[bh];refine cK.trans ?_;rw[bh];exact cK
 ·rw[List.reverse_append,List.reverse_reverse];unfold pZ;rw[bF];exact⟨(f.sublist (cL i a)).sublist (c9 k _),h.srt,λx c y hy=>h.la x (cV c) y (gj.mp hy)⟩
 ·rcases aS.mp hy with hy|hy
  ·exact h.la x (ZS d c) y hy
  ·exact f.mid d x c y (gj.mp hy)
 ·rcases aS.mp hy with hy|hy
  ·exact h.lb x c y hy
  ·exact e x c y (gj.mp hy)
def Mh.swap(h:Mh κ a b o i j):Mh κ b a o j i:=⟨h.perm.trans cK,h.srt,h.lb,h.la⟩
def Mh.addB(h:Mh κ a b o i j)(d:pZ κ b)(e:k<=j)(c:∀z∈a.take i,∀y∈(b.take j).drop k,Le κ z y):Mh κ a b (o++((b.take j).drop k).reverse) i k:=(h.swap.addA d e c).swap
def Mh.fin(h:Mh κ a b o i j)(d:pZ κ a)(e:pZ κ b)(f:∀x∈a.take i,∀y∈b.take j,Le κ x y):Out κ a b (a.take i++b.take j++o.reverse):=by
 refine⟨?_,?_⟩
 ·refine(((my o).trans h.perm).append_left _).trans ?_
  conv=>rhs;rw[<- cJ i a,<- cJ j b]
  simp only[bh];refine f9 _ ?_;rw[<- bh,<- bh];exact cK.append_right _
 ·unfold pZ;rw[bF,bF];refine⟨⟨d.sublist (cL i a),e.sublist (cL j b),f⟩,h.srt,λx g y c=>?_⟩;rcases aS.mp g with h'|h'
  ·exact h.la x h' y (gj.mp c)
  ·exact h.lb x h' y (gj.mp c)
def Mh.fin'(h:Mh κ a b o i j)(c:pZ κ a)(d:pZ κ b)(e:∀y∈b.take j,∀x∈a.take i,Le κ y x):Out κ a b (b.take j++a.take i++o.reverse):=by have:=h.swap.fin d c e;exact⟨this.perm.trans cK,this.srt⟩
def Ey{l:List a8}{i:Nat}{x:a8}(h:l[i]?=KF x):(l.take (i+1)).drop i=[x]:=by obtain⟨c,rfl⟩:=al.mp h;rw[nj,d8,cb c];rfl
def D8{l:List a8}(h:pZ κ l){i:Nat}{x:a8}(c:l[i]?=KF x):∀y∈l.take (i+1),Le κ y x:=by
 intro y hy;have e:=Ey c;have:l.take (i+1)=l.take i++[x]:=by
  rw[jb,c];rfl
 rw[this] at hy;rcases aS.mp hy with hy|hy
 ·exact h.mid (eB i) y hy x (by rw[e];simp)
 ·rw[bV.mp hy];exact Le.refl _
def GZ{c:Array a8}{x:a8}(m:Mh κ a b c.toList (i+1) j)(e:pZ κ a)(d:a[i]?=KF x)(h:∀z∈b.take j,Le κ z x):Mh κ a b (c.push x).toList i j:=by have:=m.addA e (k:=i) 'o' (by rw[Ey d];intro z f y g;rw[bV.mp g];exact h z f);rw[Ey d] at this;rw[fY];exact this
def OL{c:Array a8}{x:a8}(m:Mh κ a b c.toList i (j+1))(e:pZ κ b)(d:b[j]?=KF x)(h:∀z∈a.take i,Le κ z x):Mh κ a b (c.push x).toList i j:=by have:=m.addB e (k:=j) 'o' (by rw[Ey d];intro z f y g;rw[bV.mp g];exact h z f);rw[Ey d] at this;rw[fY];exact this
def Gy(a:Array a8)(i:Nat):(a.extract 0 i).toList=a.toList.take i:=by simp
def Oi(a:Array a8)(k i:Nat):((a.extract k i).reverse).toList=((a.toList.take i).drop k).reverse:=by simp[nj]
end
section
variable{prog:aD}{w:aR}{A:aU}{E:ae->ag->Prop}{s:ag}{κ:aQ}{st:bR}{kd:KT}
def Hj{n:Nat}{o:Array a8}{x:a8}(h:n<=o.size):n+1<=(o.push x).size:=by rw[cf];lia
def Yu(ho:uJ prog w A s κ kd)(hk:kindOf st=kd)(ha:∀x∈a.toList,tj κ x)(hb:∀x∈b.toList,tj κ x)(U:pZ κ a.toList)(Y:pZ κ b.toList)(pa:1<=a.size)(pb:1<=b.size)
  (h0:∀x∈b.toList.take 1,∀y∈a.toList,Le κ x y) (hl:∀y∈b.toList,∀x∈a.toList.drop (a.size-1),Le κ y x) {Q:Array a8->bR->Prop} (q:∀r D,oa st D->Out κ a.toList b.toList r.toList->Q r D):wpS (av prog w) A E s ((oz.hi oC) a b) Q st:=by
 have L5:a.toList.length=a.size:=aK;have L4:b.toList.length=b.size:=aK;have sH:∀{l:Array a8}{d f:Nat},Mh κ a.toList b.toList l.toList d f->(d=0\/f=0)->Out κ a.toList b.toList (a.extract 0 d++b.extract 0 f++l.reverse).toList:=λ{l d f}m h=>by
  rw[bM,bM,Gy,Gy,k9];refine m.fin U Y λx P y W=>?_;rcases h with rfl|rfl
  ·cases P
  ·cases W
 have ua:∀{l:Array a8}{d f:Nat},Mh κ a.toList b.toList l.toList d f->f=1->Out κ a.toList b.toList (b.extract 0 f++a.extract 0 d++l.reverse).toList:=λ{l d f}m h=>by
  rw[bM,bM,Gy,Gy,k9];subst h;exact m.fin' U Y λy W x P=>h0 y W x (cA P)
 obtain⟨x0,g0,l0⟩:=v9 (a:=a) (i:=a.size-1) 'o';have m0:Mh κ a.toList b.toList (#[x0]:Array a8).toList (a.size-1) b.size:=by
  have m00:Mh κ a.toList b.toList (#[]:Array a8).toList (a.size-1+1) b.size:=by
   refine⟨?_,dM,(λx _ y W=>nomatch W),(λx _ y W=>nomatch W)⟩;rw[dI 'o',dI 'o'];exact d0 _
  exact GZ m00 U l0 λz F=>hl z (cA F) x0 (by
   have:=Ak l0;exact cA (by rw[this];simp:x0∈(a.toList.drop (a.size-1)).take 1))
 show wpS _ _ _ _ (_ >>= _) Q st;refine az (ja (dW ⟨rfl,az (sP g0 ?_)⟩));show wpS _ _ _ _ (if (a.size-1==0)=qb then _ else _) Q st;by_cases c1:a.size-1=0
 ·rw[qL ⇑c1];exact aJ (q _ st (oa.refl st) (sH m0 (.inl c1)))
 rw[q0 ⇑c1];show wpS _ _ _ _ (if (b.size==1)=qb then _ else _) Q st;by_cases c2:b.size=1
 ·rw[qL ⇑c2];exact aJ (q _ st (oa.refl st) (ua m0 c2))
 rw[q0 ⇑c2];refine az (gA (az (dD (cG (I:=λk c D=>oa st D/\∃d f l G,c=(KM,d,f,l,G)/\Mh κ a.toList b.toList l.toList d f/\1<=d/\d<=a.size/\2<=f/\f<=b.size/\k+1<=l.size) (Q:=λc D=>oa st D/\∃r,c.1=KF r/\Out κ a.toList b.toList r.toList) ?_ ?_ ?_) ?_)))
 ·rintro k c qi _ hkt ⟨sm,d,f,l,G,rfl,m,J,K,N,O,c5⟩;have Fz:kindOf qi=kd:=sm.kind.trans hk;refine az (dD (cG (I:=λj c D=>D=qi/\∃d f o v B,c=(KM,d,f,o,v,B)/\Mh κ a.toList b.toList o.toList d f/\1<=d/\d<=a.size/\2<=f/\f<=b.size/\l.size+j<=o.size) (Q:=λc D=>D=qi/\((∃r,c.1=KF r/\Out κ a.toList b.toList r.toList) \/ ∃d f o v B,c=(KM,d,f,o,v,B)/\Mh κ a.toList b.toList o.toList d f/\1<=d/\d<=a.size/\2<=f/\f<=b.size/\l.size+1<=o.size)) ?_ ?_ ?_) ?_)
  ·rintro j c pO _ MJ ⟨rfl,d,f,o,v,B,rfl,m,J,K,N,O,c6⟩;obtain⟨p,rfl⟩:∃p,d=p+1:=⟨d-1,by lia⟩;obtain⟨r,rfl⟩:∃r,f=r+1:=⟨f-1,by lia⟩;obtain⟨y,gy,Z⟩:=v9 (a:=b) (i:=r) 'o';obtain⟨x,gx,V⟩:=v9 (a:=a) (i:=p) 'o';refine az (sP gy (az (sP gx (az (D3 ho Fz (hb y (aX Z)) (ha x (aX V)) ?_)))));cases hc:κ.blt (ky κ y) (ky κ x) with
   | true=>
    have m':=GZ m U V λz F=>(D8 Y Z z F).trans (Le.of hc);refine az (sP gx ?_);show wpS _ _ _ _ (if (p==0)=qb then _ else _) _ pO;by_cases e:p=0
    ·rw[qL ⇑e];exact aJ ⟨rfl,.inl ⟨_,rfl,sH m' (.inl e)⟩⟩
    ·rw[q0 ⇑e];split
     ·exact aJ ⟨rfl,.inr ⟨p,r+1,o.push x,v+1,0,rfl,m',by lia,by lia,N,O,by rw[cf];lia⟩⟩
     ·exact aJ ⟨rfl,p,r+1,o.push x,v+1,0,rfl,m',by lia,by lia,N,O,by rw[cf];lia⟩
   | false=>
    have m':=OL m Y Z λz F=>(D8 U V z F).trans (show Le κ x y from hc);refine az (sP gy ?_);show wpS _ _ _ _ (if (r==1)=qb then _ else _) _ pO;by_cases e:r=1
    ·rw[qL ⇑e];exact aJ ⟨rfl,.inl ⟨_,rfl,ua m' e⟩⟩
    ·rw[q0 ⇑e];split
     ·exact aJ ⟨rfl,.inr ⟨p+1,r,o.push y,0,B+1,rfl,m',J,K,by lia,by lia,by rw[cf];lia⟩⟩
     ·exact aJ ⟨rfl,p+1,r,o.push y,0,B+1,rfl,m',J,K,by lia,by lia,by rw[cf];lia⟩
  ·rintro c pO ⟨rfl,d,f,o,v,B,rfl,m,J,K,N,O,c6⟩;have:=m.len;rw[aK] at this;rw[dS] at c6;lia
  ·exact⟨rfl,d,f,l,0,0,rfl,m,J,K,N,O,by lia⟩
  rintro c pO ⟨rfl,h⟩;rcases h with⟨r,e,hr⟩|⟨d,f,o,v,B,rfl,m,J,K,N,O,c6⟩
  ·obtain⟨c,c'⟩:=c;dsimp only at e;subst e;exact aJ ⟨sm,r,rfl,hr⟩
  refine az (ja (dW ⟨rfl,az (dD (cG (I:=λj c D=>oa st D/\∃d f C G v B,c=(KM,d,f,C,G,v,B)/\Mh κ a.toList b.toList C.toList d f/\1<=d/\d<=a.size/\2<=f/\f<=b.size/\o.size+j<=C.size) (Q:=λc D=>oa st D/\((∃r,c.1=KF r/\Out κ a.toList b.toList r.toList) \/ ∃d f C G v B,c=(KM,d,f,C,G,v,B)/\Mh κ a.toList b.toList C.toList d f/\1<=d/\d<=a.size/\2<=f/\f<=b.size/\o.size<=C.size)) ?_ ?_ ?_) ?_)⟩))
  ·rintro j c pH _ MJ ⟨X,d,f,C,G,v,B,rfl,m,J,K,N,O,c6⟩;obtain⟨r,rfl⟩:∃r,f=r+1:=⟨f-1,by lia⟩;obtain⟨y,gy,Z⟩:=v9 (a:=b) (i:=r) 'o';have W:=hb y (aX Z);have B3:∀R,oa st R->∀{Q:Option Nat->bR->Prop},(∀k,k<=d->(∀x∈a.toList.take k,Le κ x y)->(∀x∈(a.toList.take d).drop k,Le κ y x)->Q (KF k) R)->wpS (av prog w) A E s ((oz.g oC) qj y a 0 d (d-1)) Q R:=λR s4 Q h=>
    CP ho (L:=a.toList.take d) (by rw[kM]) (s4.kind.trans hk) W 'o' 'o' (λx P=>ha x (cA P)) (U.sublist (cL d _)) λk h1 h2 h3=>h k h1 (λx P=>by
     have:=h2 x (by rw[gc,fN h1];exact P);unfold tG at this;rw[q0 's'] at this;unfold Le;simpa using this) λx P=>by
     have:=h3 x P;unfold tG at this;rw[q0 's'] at this;exact Le.of ⇑this
   have B2:∀x{n:Nat},a.toList[n]?=KF x->∀R,oa st R->1<=r->∀{Q:Option Nat->bR->Prop},(∀k,k<=r->(∀z∈(b.toList.take r).drop k,Le κ x z)->(∀z∈b.toList.take k,Le κ z x)->Q (KF k) R)->wpS (av prog w) A E s ((oz.g oC) qb x b 0 r (r-1)) Q R:=λx n V R s4 h4 Q h=>
    CP ho (L:=b.toList.take r) (by rw[kM]) (s4.kind.trans hk) (ha x (aX V)) 'o' 'o' (λx P=>hb x (cA P)) (Y.sublist (cL _ _)) λk h1 h2 h3=>h k h1 (λz F=>by
     have:=h3 z F;unfold tG at this;rw[qL rfl] at this;exact this) λz F=>by
     have:=h2 z (by rw[gc,fN h1];exact F);unfold tG at this;rw[qL rfl] at this;exact Le.of this
   show wpS _ _ _ _ (if G>1 then _ else _) _ pH;apply Oq (α:=Nat)
   ·intro S;split
    ·generalize G-1=E5;exact S E5
    ·exact S G
   intro E5;refine az (Qo ⟨rfl,rfl,rfl,rfl⟩ λR s4=>az (sP gy (az (B3 R (X.trans s4) ?_))));have T:=X.trans s4;intro k yf By kt;have m3:=m.addA U yf λz F u hu=>(D8 Y Z z F).trans (kt u hu);rw[<- Oi,<- bM] at m3;have n3:C.size<=(C++(a.extract k d).reverse).size:=by rw[fX];lia
   show wpS _ _ _ _ (if d-k>0 then _ else _) _ _;apply DU (H:=λ(M:Array a8)(Bw:Nat)=>Mh κ a.toList b.toList M.toList Bw (r+1)/\C.size<=M.size/\1<=Bw/\Bw<=a.size/\∀x∈a.toList.take Bw,Le κ x y)
   ·intro S;by_cases sY:d-k>0
    ·rw[qL sY];show wpS _ _ _ _ (if (k==0)=qb then _ else _) _ _;by_cases e1:k=0
     ·rw[qL ⇑e1];exact aJ ⟨T,.inl ⟨_,rfl,sH m3 (.inl e1)⟩⟩
     ·rw[q0 ⇑e1];have hh:=eU m3 (eU n3 (eU (show 1<=k by lia) (eU (show k<=a.size by lia) By)));generalize C++(a.extract k d).reverse=M at hh ⊢;generalize k=q3 at hh ⊢;exact S M q3 hh
    ·rw[q0 sY];have vj:k=d:=by lia
     rw[vj] at By ⊢;exact S C d ⟨m,aE _,J,K,By⟩
   rintro M Bw ⟨m3,n3,f3,f3',By⟩;have m4:=OL m3 Y Z By;refine az (sP gy ?_);show wpS _ _ _ _ (if (r==1)=qb then _ else _) _ _;by_cases e3:r=1
   ·rw[qL ⇑e3];exact aJ ⟨T,.inl ⟨_,rfl,ua m4 e3⟩⟩
   ·rw[q0 ⇑e3];obtain⟨n,rfl⟩:∃n,Bw=n+1:=⟨Bw-1,by lia⟩;obtain⟨x,gx,V⟩:=v9 (a:=a) (i:=n) 'o';refine az (sP gx (az (B2 x V _ T 'o' ?_)));intro t tD L9 Ax;have m5:=m4.addB Y tD λz F u hu=>(D8 U V z F).trans (L9 u hu);rw[<- Oi,<- bM] at m5;have n5:M.size+1<=(M.push y++(b.extract t r).reverse).size:=by rw[fX,cf];lia
    by_cases sY:r-t>0
    ·show wpS _ _ _ _ (if r-t>0 then _ else _) _ _;rw[qL sY];show wpS _ _ _ _ (if (t==1)=qb then _ else _) _ _;by_cases e4:t=1
     ·rw[qL ⇑e4];exact aJ ⟨T,.inl ⟨_,rfl,ua m5 e4⟩⟩
     ·rw[q0 ⇑e4];show wpS _ _ _ _ (if (t==0)=qb then _ else _) _ _;by_cases e6:t=0
      ·rw[qL ⇑e6];exact aJ ⟨T,.inl ⟨_,rfl,sH m5 (.inr e6)⟩⟩
      ·rw[q0 ⇑e6];have f5:2<=t:=by lia
       have m6:=GZ m5 U V Ax;refine az (sP gx ?_);show wpS _ _ _ _ (if (n==0)=qb then _ else _) _ _;by_cases e5:n=0
       ·rw[qL ⇑e5];exact aJ ⟨T,.inl ⟨_,rfl,sH m6 (.inl e5)⟩⟩
       ·rw[q0 ⇑e5];split
        ·exact aJ ⟨T,.inr ⟨n,t,_,_,_,_,rfl,m6,(by lia:1<=n),(by lia:n<=a.size),f5,(by lia:t<=b.size),aF (by lia:o.size<=M.size+1+1) (Hj n5)⟩⟩
        ·exact aJ ⟨T,n,t,_,_,_,_,rfl,m6,(by lia:1<=n),(by lia:n<=a.size),f5,(by lia:t<=b.size),aF (by lia:o.size+(j+1)<=M.size+1+1) (Hj n5)⟩
    ·have vj:t=r:=by lia
     subst vj;show wpS _ _ _ _ (if t-t>0 then _ else _) _ _;rw[q0 sY];have f5:2<=t:=by lia
     replace m5:=m4
     replace n5:M.size+1<=(M.push y).size:=by rw[cf];exact aE _
     have m6:=GZ m5 U V Ax;refine az (sP gx ?_);show wpS _ _ _ _ (if (n==0)=qb then _ else _) _ _;by_cases e5:n=0
     ·rw[qL ⇑e5];exact aJ ⟨T,.inl ⟨_,rfl,sH m6 (.inl e5)⟩⟩
     ·rw[q0 ⇑e5];split
      ·exact aJ ⟨T,.inr ⟨n,t,_,_,_,_,rfl,m6,(by lia:1<=n),(by lia:n<=a.size),f5,(by lia:t<=b.size),aF (by lia:o.size<=M.size+1+1) (Hj n5)⟩⟩
      ·exact aJ ⟨T,n,t,_,_,_,_,rfl,m6,(by lia:1<=n),(by lia:n<=a.size),f5,(by lia:t<=b.size),aF (by lia:o.size+(j+1)<=M.size+1+1) (Hj n5)⟩
  ·rintro c pH ⟨X,d,f,C,G,v,B,rfl,m,J,K,N,O,c6⟩;have:=m.len;rw[aK] at this;rw[dS] at c6;lia
  ·exact⟨sm,d,f,o,_,v,B,rfl,m,J,K,N,O,by lia⟩
  rintro c pH ⟨X,h⟩;rcases h with⟨r,e,hr⟩|⟨d,f,C,G,v,B,rfl,m,J,K,N,O,c7⟩
  ·obtain⟨c,c'⟩:=c;dsimp only at e;subst e;exact aJ ⟨X,r,rfl,hr⟩
  ·exact az (fu (aJ ⟨⟨X.kind,X.arr,X.pend,X.failed⟩,d,f,C,_,rfl,m,J,K,N,O,by lia⟩))
 ·rintro c qi ⟨sm,d,f,l,G,rfl,m,J,K,N,O,c5⟩;have:=m.len;rw[aK] at this;rw[dS] at c5;lia
 ·exact⟨oa.refl st,a.size-1,b.size,#[x0],_,rfl,m0,by lia,by lia,by lia,by lia,by simp⟩
 ·rintro⟨c,c'⟩ qi ⟨sm,r,e,hr⟩;dsimp only at e;subst e;exact aJ (q r qi sm hr)
end
theorem PX(p:Nat):∀(m:List a8)(j:Nat)(xs:Array a8),p+j+m.length<=xs.size->((m.zipIdx j).foldl (λa x=>a.setIfInBounds (p+x.2) x.1) xs).toList=xs.toList.take (p+j)++m++xs.toList.drop (p+j+m.length)
 |[],j,xs,_=>by simp
 | x::m,j,xs,h=>by
  rw[a7] at h;rw[iy,fO,PX p m (j+1) _ (by rw[jQ];lia),ju,<- ir];have b:p+j<xs.toList.length:=by rw[aK];lia
  have c:(xs.toList.set (p+j) x).take (p+j+1)=xs.toList.take (p+j)++[x]:=by
   rw[jb,aZ b,List.take_set_of_le (aE _)];rfl
  rw[c,List.drop_set_of_lt 'o',a7,bh,bh,bh];have:p+j+1+m.length=p+j+(m.length+1):=by lia
  rw[this];rfl
def ze0(h:p+m.length<=xs.size):(lay xs p m).toList=xs.toList.take p++m++xs.toList.drop (p+m.length):=PX p m 0 xs h
section
variable{prog:aD}{w:aR}{A:aU}{E:ae->ag->Prop}{s:ag}{κ:aQ}{st:bR}{kd:KT}
def XR(I:uJ prog w A s κ kd)(t:kindOf st=kd)(N:failedOf st=KM)(d:(q7 st).toList=P++(X++(Y++R)))(h1:(q8 st)[i]?=KF (P.length,X.length,pw))(h2:(q8 st)[i+1]?=KF (P.length+X.length,Y.length,Io))
  (J:1<=X.length) (O:1<=Y.length) (C:pZ κ X) (D:pZ κ Y) (F:∀x∈X++Y,tj κ x) {Q:Bool->bR->Prop}
  (q:∀b M,kindOf b=kd->failedOf b=KM->q8 b=((q8 st).setIfInBounds i (P.length,X.length+Y.length,pw)).eraseIdxIfInBounds (i+1)->(q7 b).toList=P++(M++R)->M.Perm (X++Y)->pZ κ M->Q qb b):wpS (av prog w) A E s (mergeAt' i) Q st:=by
 have G:(q7 st).size=P.length+(X.length+(Y.length+R.length)):=by
  rw[<- aK,d];simp
 have S:∀x∈X,tj κ x:=λx h=>F x (bN _ h);have T:∀x∈Y,tj κ x:=λx h=>F x (aw _ h);have f:∀(j:Nat)(x:a8),(P++(X++(Y++R)))[j]?=KF x->(q7 st)[j]?=KF x:=λj x h=>by
  rw[<- d] at h;rw[<- h];simp
 obtain⟨g,K⟩:∃g,Y[0]?=KF g:=⟨Y[0],aC _⟩;have gb:(q7 st)[P.length+X.length]?=KF g:=f _ _ (by
  rw[br 'o',d8,br (aE _),lV,aG 'o'];exact K)
 have dX:((q7 st).toList.drop P.length).take X.length=X:=by rw[d];simp
 have dY:((q7 st).toList.drop (P.length+X.length)).take Y.length=Y:=by rw[d,<- bh,eI 'd',<- aB];simp
 have U:=T g (aX K);have V:∀y∈Y,Le κ g y:=λy h=>CL D K y ⇑h;refine(oz.at_ oC) h1 h2 gb ?_;refine CP (base:=P.length) (n:=X.length) (hint:=0) I dX ?_ U 'o' 'o' S C ?_
 ·exact t
 refine λk yf kt kf=>⟨k,rfl,λsY=>?_,λsY=>?_⟩
 ·have W:k=X.length:=by lia
  refine q _ (X++Y) t N rfl (by show(q7 st).toList=_;rw[d,bh]) (d0 _) ?_;unfold pZ;rw[bF];refine⟨C,D,λx h y c=>Le.trans ?_ (V y c)⟩;have:=kt x (by rw[W,gk];exact h);unfold tG at this;rw[q0 's'] at this;unfold Le;simpa using this
 have Z:∀x∈X.take k,Le κ x g:=λx h=>by
  have:=kt x h;unfold tG at this;rw[q0 's'] at this;unfold Le;simpa using this
 have UP:∀x∈X.drop k,Le κ g x:=λx h=>by
  have:=kf x h;unfold tG at this;rw[q0 's'] at this;exact Le.of ⇑this
 obtain⟨l,L⟩:∃l,X[X.length-1]?=KF l:=⟨X[X.length-1],aC _⟩;have ga:(q7 st)[P.length+k+(X.length-k)-1]?=KF l:=f _ _ (by
  have:P.length+k+(X.length-k)-1=P.length+(X.length-1):=by lia
  rw[this,br 'o',d8,aG 'o'];exact L)
 have hka:=S l (aX L);have VA:∀x∈X,Le κ x l:=λx h=>D8 C L x (by rw[cY 'o'];exact h);refine⟨l,ga,?_⟩;refine CP (base:=P.length+X.length) (n:=Y.length) (hint:=Y.length-1) I dY ?_ hka 'o' 'o' T D ?_
 ·exact t
 refine λm hm mt mf=>⟨m,rfl,λU8=>?_,λU8=>?_⟩
 ·refine q _ (X++Y) t N rfl (by show(q7 st).toList=_;rw[d,bh]) (d0 _) ?_;unfold pZ;rw[bF];refine⟨C,D,λx h y c=>Le.trans (VA x h) ?_⟩;have:=mf y (by rw[U8];exact c);unfold tG at this;rw[qL rfl] at this;exact this
 have UN:∀y∈Y.take m,Le κ y l:=λy h=>by
  have:=mt y h;unfold tG at this;rw[qL rfl] at this;exact Le.of this
 have UO:∀y∈Y.drop m,Le κ l y:=λy h=>by
  have:=mf y h;unfold tG at this;rw[qL rfl] at this;exact this
 have u:((q7 st).extract (P.length+k) (P.length+X.length)).toList=X.drop k:=by
  simp only[k8,jG];rw[d,<- ez,nk,eI yf];have:P.length+X.length-(P.length+k)=(X.drop k).length:=by rw[cg];lia
  rw[this,nq]
 have v:((q7 st).extract (P.length+X.length) (P.length+X.length+m)).toList=Y.take m:=by
  rw[JN];rw[<- dY,gc,fN hm]
 have szX:((q7 st).extract (P.length+k) (P.length+X.length)).size=X.length-k:=by rw[<- aK,u,cg]
 have szY:((q7 st).extract (P.length+X.length) (P.length+X.length+m)).size=m:=by rw[<- aK,v,bK];lia
 have H:∀(B:Array a8)(o:bR),oa (setPending st (((q8 st).setIfInBounds i (P.length,X.length+Y.length,pw)).eraseIdxIfInBounds (i+1))) o->Out κ (X.drop k) (Y.take m) B.toList->Q (failedOf o).isNone (setArr o (lay (q7 o) (P.length+k) B.toList)):=λB o p a=>by
  have Dm:B.toList.length=(X.length-k)+m:=by rw[a.perm.length_eq,aB,cg,bK];lia
  have Dr:failedOf o=KM:=p.failed.trans N;rw[Dr];have uI:q7 o=q7 st:=p.arr;refine q _ (X.take k++(B.toList++Y.drop m)) (p.kind.trans t) Dr p.pend ?_ ?_ ?_
  ·show(lay (q7 o) (P.length+k) B.toList).toList=_;rw[uI,ze0 (by rw[Dm,G];lia),d,Dm];have e1:(P++(X++(Y++R))).take (P.length+k)=P++X.take k:=by
    rw[List.take_append,cY 'o',d8,List.take_append_of_le_length yf]
   have e2:(P++(X++(Y++R))).drop (P.length+k+(X.length-k+m))=Y.drop m++R:=by
    have:P.length+k+(X.length-k+m)=(P++X).length+m:=by rw[aB];lia
    rw[this,<- bh,<- ez,nk,eI hm]
   rw[e1,e2];simp
  ·conv=>rhs;rw[<- cJ k X,<- cJ m Y]
   rw[bh];refine f9 _ ?_;rw[<- bh];exact a.perm.append_right _
  ·unfold pZ;rw[bF,bF];have E6:∀z∈B.toList,z∈X.drop k\/z∈Y.take m:=λz hz=>aS.mp (a.perm.mem_iff.mp hz);refine⟨C.sublist (cL k X),⟨a.srt,D.sublist (c9 m Y),λz hz y O=>?_⟩,λx J z hz=>?_⟩
   ·rcases E6 z hz with h|h
    ·exact(VA z (cV h)).trans (UO y O)
    ·exact(UN z h).trans (UO y O)
   ·rcases aS.mp hz with hz|hz
    ·rcases E6 z hz with h|h
     ·exact(Z x J).trans (UP z h)
     ·exact(Z x J).trans (V z (cA h))
    ·exact(Z x J).trans (V z (cV hz))
 have p1:∀x∈((q7 st).extract (P.length+k) (P.length+X.length)).toList,tj κ x:=by rw[u];exact λx h=>S x (cV h)
 have p2:∀x∈((q7 st).extract (P.length+X.length) (P.length+X.length+m)).toList,tj κ x:=by rw[v];exact λx h=>T x (cA h)
 have p3:pZ κ ((q7 st).extract (P.length+k) (P.length+X.length)).toList:=by rw[u];exact C.sublist (c9 k X)
 have p4:pZ κ ((q7 st).extract (P.length+X.length) (P.length+X.length+m)).toList:=by rw[v];exact D.sublist (cL m Y)
 have p5:∀x∈((q7 st).extract (P.length+X.length) (P.length+X.length+m)).toList.take 1,∀y∈((q7 st).extract (P.length+k) (P.length+X.length)).toList,Le κ x y:=by
  rw[u,v,gc];intro x h y c;have:x=g:=by
   rw[fN 'o'] at h;have e:=Ak K;rw[kM] at e;rw[e] at h;simpa using h
  rw[this];exact UP y c
 have p6:∀y∈((q7 st).extract (P.length+X.length) (P.length+X.length+m)).toList,∀x∈((q7 st).extract (P.length+k) (P.length+X.length)).toList.drop (((q7 st).extract (P.length+k) (P.length+X.length)).size-1),Le κ y x:=by
  rw[u,v,szX,ez];intro y h x c;have:k+(X.length-k-1)=X.length-1:=by lia
  rw[this] at c;have e:=Ak L;rw[cY (by rw[cg];lia)] at e;rw[e] at c;rw[bV.mp c];exact UN y h
 by_cases hc:X.length-k<=m
 ·rw[qL hc];refine Yd I ?_ p1 p2 p3 p4 'o' 'o' p5 p6 λr b p a=>H r b p (by rw[u,v] at a;exact a);exact t
 ·rw[q0 hc];refine Yu I ?_ p1 p2 p3 p4 'o' 'o' p5 p6 λr b p a=>H r b p (by rw[u,v] at a;exact a);exact t
end
def N7{G:Prop}{H:bR->Prop}(P:bR->Prop)(h:(∀x,H x->P x)->G)(k:∀x,H x->P x):G:=h k
structure Rl(qW:bR)(lo:Nat)(st:bR):Prop where
 perm:(q7 st).Perm (q7 qW)
 kind:kindOf st=kindOf qW
 failed:failedOf st=failedOf qW
 pend:q8 st=q8 qW
 fix:∀i,i<lo->(q7 st)[i]?=(q7 qW)[i]?
def Rl.refl(a:bR)(lo:Nat):Rl a lo a:=⟨iX _,rfl,rfl,rfl,λ_ _=>rfl⟩
def Rl.size{a b:bR}{lo:Nat}(r:Rl a lo b):(q7 b).size=(q7 a).size:=r.perm.size_eq
def Rl.rev{b a:bR}{lo i j:Nat}(r:Rl b lo a)(h:lo<=i)(c:j<=(q7 b).size):Rl b lo (setArr a (mirror (q7 a) i j ((j-i)/2))):=by refine⟨(mirror_perm _ _ _ _).trans r.perm,r.kind,r.failed,r.pend,λk d=>?_⟩;show(mirror (q7 a) i j ((j-i)/2))[k]?=_;rw[getElem?_mirror_all (by rw[r.size];exact c),q0 'o'];exact r.fix k d
section
variable{prog:aD}{w:aR}{A:aU}{E:ae->ag->Prop}{s:ag}{κ:aQ}{qW st:bR}{lo:Nat}{kd:KT}
def Up(κ:aQ)(xs:Array a8)(lo n:Nat):Prop:=∀i j,lo<=i->i<=j->j<lo+n->κ.kle (KK κ xs i) (KK κ xs j)
def Dn(κ:aQ)(xs:Array a8)(lo n:Nat):Prop:=∀i j,lo<=i->i<=j->j<lo+n->κ.kle (KK κ xs j) (KK κ xs i)
def Ao(a:κ.α):κ.kle a a:=κ.irrefl a
def Up.step(h:Up κ xs lo n)(f:1<=n)(a:κ.kle (KK κ xs (lo+n-1)) (KK κ xs (lo+n))):Up κ xs lo (n+1):=λi j b c g=>by
 by_cases e:j=lo+n
 ·subst e;by_cases d:i=lo+n
  ·subst d;exact Ao _
  ·exact iz (h i (lo+n-1) b 'o' 'o') a
 ·exact h i j b c 'o'
def Dn.step(h:Dn κ xs lo n)(f:1<=n)(a:κ.kle (KK κ xs (lo+n)) (KK κ xs (lo+n-1))):Dn κ xs lo (n+1):=λi j b c g=>by
 by_cases e:j=lo+n
 ·subst e;by_cases d:i=lo+n
  ·subst d;exact Ao _
  ·exact iz a (h i (lo+n-1) b 'o' 'o')
 ·exact h i j b c 'o'
def Up.one(xs:Array a8):Up κ xs lo 1:=λi j c d e=>by
 have a:i=lo:=by lia
 have b:j=lo:=by lia
 rw[a,b];exact Ao _
def Dn.one(xs:Array a8):Dn κ xs lo 1:=λi j c d e=>by
 have a:i=lo:=by lia
 have b:j=lo:=by lia
 rw[a,b];exact Ao _
def D9(f:uJ prog w A s κ kd)(a:∀x∈(q7 qW).toList,tj κ x)(g:kindOf qW=kd)(r:Rl qW lo st)(b:i<(q7 qW).size)(c:j<(q7 qW).size)(q:Q (KF (κ.blt (KK κ (q7 st) i) (KK κ (q7 st) j))) st):wpS (av prog w) A E s (ltAt' i j) Q st:=by
 rw[<- r.size] at b c;obtain⟨x,d,h⟩:=v9 b;obtain⟨y,e,k⟩:=v9 c;have l:=a x ((dF.mp r.perm).mem_iff.mp (aX h));have m:=a y ((dF.mp r.perm).mem_iff.mp (aX k));have n:KK κ (q7 st) i=ky κ x:=by unfold KK ky;rw[d]
 have o:KK κ (q7 st) j=ky κ y:=by unfold KK ky;rw[e]
 rw[n,o] at q;rw[ltAt'_eq];exact az (gA (az (sP d (az (sP e (D3 f (r.kind.trans g) l m q))))))
def Up.rev(d:Dn κ xs lo m)(h:lo+m<=xs.size):Up κ (mirror xs lo (lo+m) ((lo+m-lo)/2)) lo m:=λi j a b c=>by
 rw[KK_mirror h,KK_mirror h,qL 'o',qL 'o'];exact d _ _ 'o' 'o' 'o'
set_option hygiene false in
local macro_rules|`(tactic| walk_at "asc")=>`(tactic| (
 refine az (dD (cG (I:=λk c g_=>g_=qi/\∃ n,c=(none,n)/\n=k/\1<=n/\n<=nrem/\Up κ (arrOf qi) lo n) (Q:=λc g_=>g_=qi/\∃ n,c=(none,n)/\1<=n/\n<=nrem/\Up κ (arrOf qi) lo n/\(n=nrem\/κ.blt (KK κ (arrOf qi) (lo+n)) (KK κ (arrOf qi) (lo+n-1))=true)) ?_ ?_ ?_) ?_)
 ·rintro k c g_ h1 h2 ⟨rfl,n,rfl,rfl,g1,g2,g3⟩
  refine az (D9 (i:=lo+n) (j:=lo+n-1) ho hs hk r1 (by lia) (by lia) ?_)
  cases e:κ.blt (KK κ (arrOf g_) (lo+n)) (KK κ (arrOf g_) (lo+n-1)) with
  | true=>exact aJ ⟨rfl,n,rfl,g1,g2,g3,.inr e⟩
  | false=>exact aJ ⟨rfl,n+1,rfl,rfl,by lia,by lia,g3.step (by lia) e⟩
 ·rintro c g_ ⟨rfl,n,rfl,e,g1,g2,g3⟩
  exact⟨rfl,n,rfl,g1,g2,g3,.inl (by lia)⟩
 ·exact⟨rfl,_,rfl,rfl,U5,U6,u1⟩))
def zck(ho:uJ prog w A s κ kd)(hs:∀x∈(q7 qW).toList,tj κ x)(hk:kindOf qW=kd){nrem:Nat}(U6:1<=nrem)(hN:lo+nrem<=(q7 qW).size){qi:bR}(r1:Rl qW lo qi){Q:Option Nat->bR->Prop}(q:∀m g_,Rl qW lo g_->1<=m->m<=nrem->Up κ (q7 g_) lo m->Q (KF m) g_):wpS (av prog w) A E s (countRun' lo nrem) Q qi:=by
 rw[countRun'_eq];have u1:Up κ (q7 qi) lo 1:=Up.one _;have U5:1<=1:=aE _;walk_at "asc";rintro c g_ ⟨rfl,n1,rfl,g1,g2,g3,g4⟩;show wpS _ _ _ _ (if (n1==nrem)=qb then _ else _) Q g_;by_cases e0:n1=nrem
 ·rw[qL ⇑e0];exact aJ (q n1 g_ r1 g1 g2 g3)
 rw[q0 ⇑e0];have qM:κ.blt (KK κ (q7 g_) (lo+n1)) (KK κ (q7 g_) (lo+n1-1))=qb:=by
  rcases g4 with h|h
  ·exact absurd h e0
  ·exact h
 apply N7 (H:=λpO=>Rl qW lo pO/\Dn κ (q7 pO) lo (n1+1));intro key;show wpS _ _ _ _ (if n1>1 then _ else _) Q g_;by_cases hc:n1>1
 ·rw[qL hc];refine az (D9 ho hs hk r1 'o' 'o' ?_);cases e:κ.blt (KK κ (q7 g_) lo) (KK κ (q7 g_) (lo+n1-1)) with
  |true=>exact aJ (q n1 g_ r1 g1 g2 g3)
  | false=>
   refine az (kn ?_);have r2:=r1.rev (i:=lo) (j:=lo+n1) (aE lo) 'o';have all:∀k,lo<=k->k<lo+n1->KK κ (q7 g_) k=KK κ (q7 g_) (lo+n1-1):=λk a b=>
    KeyOrd.kle_antisymm (g3 k (lo+n1-1) a 'o' 'o') (iz (show κ.kle (KK κ (q7 g_) (lo+n1-1)) (KK κ (q7 g_) lo) from e) (g3 lo k (aE _) a b))
   have kk:=j3 (κ:=κ) (xs:=q7 g_) (i:=lo) (j:=lo+n1) (by rw[r1.size];lia) all;have d2:Dn κ (q7 (setArr g_ (mirror (q7 g_) lo (lo+n1) ((lo+n1-lo)/2)))) lo (n1+1):=by
    show Dn κ (mirror (q7 g_) lo (lo+n1) ((lo+n1-lo)/2)) lo (n1+1);refine Dn.step (λi j a b c=>?_) g1 ?_
    ·rw[kk,kk,all i a 'o',all j 'o' c];exact Ao _
    ·rw[kk,kk];exact fZ qM
   generalize setArr g_ (mirror (q7 g_) lo (lo+n1) ((lo+n1-lo)/2))=pO at *;exact key _ ⟨r2,d2⟩
 ·rw[q0 hc];refine key _ ⟨r1,?_⟩;have e1:n1=1:=by lia
  subst e1;exact Dn.step (Dn.one _) (aE _) (fZ qM)
 rintro pO ⟨r2,d2⟩;refine az (ja (dW ⟨rfl,az (dD (cG (I:=λk c g_=>Rl qW lo g_/\∃n rY,c=(KM,n,rY)/\n=k/\n<=nrem/\Dn κ (q7 g_) lo n/\rY+1<=n/\(∀i,lo+n-(rY+1)<=i->i<lo+n->KK κ (q7 g_) i=KK κ (q7 g_) (lo+n-1))) (Q:=λc g_=>Rl qW lo g_/\∃n rY,c=(KM,n,rY)/\n<=nrem/\Dn κ (q7 g_) lo n/\rY+1<=n/\(∀i,lo+n-(rY+1)<=i->i<lo+n->KK κ (q7 g_) i=KK κ (q7 g_) (lo+n-1))) ?_ ?_ ?_) ?_)⟩))
 ·rintro k c pH h1 h2 ⟨r3,n,rY,rfl,rfl,g2,g3,g4,g5⟩;refine az (D9 (i:=lo+n) (j:=lo+n-1) ho hs hk r3 'o' 'o' ?_);cases e:κ.blt (KK κ (q7 pH) (lo+n)) (KK κ (q7 pH) (lo+n-1)) with
  | true=>
   show wpS _ _ _ _ (if rY>0 then _ else _) _ pH;by_cases hq:rY>0
   ·rw[qL hq];refine az (kn (aJ ⟨r3.rev (i:=lo+n-(rY+1)) (j:=lo+n) 'o' 'o',n+1,0,rfl,rfl,by lia,?_,by lia,?_⟩))
    ·have kk:=j3 (κ:=κ) (xs:=q7 pH) (i:=lo+n-(rY+1)) (j:=lo+n) (by rw[r3.size];lia) λk a b=>g5 k a b;have d:Dn κ (mirror (q7 pH) (lo+n-(rY+1)) (lo+n) ((lo+n-(lo+n-(rY+1)))/2)) lo n:=λi j a b c=>by rw[kk,kk];exact g3 i j a b c
     refine d.step 'o' ?_;rw[kk,kk];exact fZ e
    ·intro i a b;have:i=lo+(n+1)-1:=by lia
     rw[this]
   ·rw[q0 hq];refine aJ ⟨r3,n+1,0,rfl,rfl,by lia,g3.step 'o' (fZ e),by lia,?_⟩;intro i a b;have:i=lo+(n+1)-1:=by lia
    rw[this]
  | false=>
   refine az (D9 (i:=lo+n-1) (j:=lo+n) ho hs hk r3 'o' 'o' ?_);cases e':κ.blt (KK κ (q7 pH) (lo+n-1)) (KK κ (q7 pH) (lo+n)) with
   |true=>exact aJ ⟨r3,n,rY,rfl,g2,g3,g4,g5⟩
   | false=>
    have eq:KK κ (q7 pH) (lo+n)=KK κ (q7 pH) (lo+n-1):=κ.total _ _ e e';refine aJ ⟨r3,n+1,rY+1,rfl,rfl,by lia,g3.step 'o' e',by lia,?_⟩;intro i a b;have:lo+(n+1)-1=lo+n:=by lia
    rw[this];by_cases hi:i=lo+n
    ·rw[hi]
    ·rw[eq];exact g5 i 'o' 'o'
 ·rintro c pH ⟨r3,n,rY,rfl,e,g2,g3,g4,g5⟩;exact⟨r3,n,rY,rfl,g2,g3,g4,g5⟩
 ·exact⟨r2,n1+1,0,rfl,rfl,by lia,d2,by lia,λi a b=>by
   have:i=lo+(n1+1)-1:=by lia
   rw[this]⟩
 ·rintro c pH ⟨r3,n0,rY,rfl,U6,g3,g4,g5⟩;have U5:1<=n0:=by lia
  apply N7 (H:=λqw=>Rl qW lo qw/\Dn κ (q7 qw) lo n0);intro key;show wpS _ _ _ _ (if rY>0 then _ else _) Q pH;by_cases hq:rY>0
  ·rw[qL hq];refine az (kn ?_);have r4:=r3.rev (i:=lo+n0-(rY+1)) (j:=lo+n0) 'o' 'o';have kk:=j3 (κ:=κ) (xs:=q7 pH) (i:=lo+n0-(rY+1)) (j:=lo+n0) (by rw[r3.size];lia) λk a b=>g5 k a b;have d4:Dn κ (q7 (setArr pH (mirror (q7 pH) (lo+n0-(rY+1)) (lo+n0) ((lo+n0-(lo+n0-(rY+1)))/2)))) lo n0:=λi j a b c=>by
    show κ.kle (KK κ (mirror _ _ _ _) j) (KK κ (mirror _ _ _ _) i);rw[kk,kk];exact g3 i j a b c
   generalize setArr pH (mirror (q7 pH) (lo+n0-(rY+1)) (lo+n0) ((lo+n0-(lo+n0-(rY+1)))/2))=qw at *;exact key _ ⟨r4,d4⟩
  ·rw[q0 hq];exact key _ ⟨r3,g3⟩
  rintro qw ⟨r4,d4⟩;refine az (kn ?_);have r1:=r4.rev (i:=lo) (j:=lo+n0) (aE lo) 'o';have u1:Up κ (q7 (setArr qw (mirror (q7 qw) lo (lo+n0) ((lo+n0-lo)/2)))) lo n0:=Up.rev d4 (by rw[r4.size];lia);generalize setArr qw (mirror (q7 qw) lo (lo+n0) ((lo+n0-lo)/2))=qi at *;walk_at "asc"
  ·rintro c g_ ⟨rfl,n,rfl,g1,g2,g3,_⟩;exact aJ (q n _ r1 g1 g2 g3)
end
section
variable{prog:aD}{w:aR}{A:aU}{E:ae->ag->Prop}{s:ag}{κ:aQ}{qW:bR}{lo:Nat}{kd:KT}
def zfS(H:uJ prog w A s κ kd)(J:∀x∈(q7 qW).toList,tj κ x)(K:kindOf qW=kd)(L:1<=ok)(U:ok<=n)(V:lo+n<=(q7 qW).size)(M:Rl qW lo qi)(N:Up κ (q7 qi) lo ok)(q:∀f,Rl qW lo f->Up κ (q7 f) lo n->Q qb f):wpS (av prog w) A E s (binarySort' lo n ok) Q qi:=by
 rw[binarySort'_eq];refine az (dD (cG (I:=λk c f=>Rl qW lo f/\c=(KM,())/\1<=k/\Up κ (q7 f) lo k) (Q:=λc f=>Rl qW lo f/\c=(KM,())/\Up κ (q7 f) lo n) ?_ ?_ ?_) ?_)
 ·rintro k c g _ W ⟨h,rfl,O,m⟩;refine az (dD (cG (I:=λj c f=>f=g/\∃l r,c=(KM,l,r)/\l<=r/\r<=k/\r-l<=k-j/\(∀i,i<l->κ.kle (KK κ (q7 g) (lo+i)) (KK κ (q7 g) (lo+k)))/\(∀i,r<=i->i<k->κ.blt (KK κ (q7 g) (lo+k)) (KK κ (q7 g) (lo+i))=qb)) (Q:=λc f=>f=g/\∃l,c=(KM,l,l)/\l<=k/\(∀i,i<l->κ.kle (KK κ (q7 g) (lo+i)) (KK κ (q7 g) (lo+k)))/\(∀i,l<=i->i<k->κ.blt (KK κ (q7 g) (lo+k)) (KK κ (q7 g) (lo+i))=qb)) ?_ ?_ ?_) ?_)
  ·rintro j c d _ X ⟨rfl,l,r,rfl,P,u,y,o,p⟩;show wpS _ _ _ _ (if l ≥ r then _ else _) _ d;by_cases z:l ≥ r
   ·rw[qL z];have:l=r:=by lia
    subst this;exact aJ ⟨rfl,l,rfl,u,o,p⟩
   ·rw[q0 z];refine az (D9 (i:=lo+k) (j:=lo+(l+r)/2) H J K h 'o' 'o' ?_);cases e:κ.blt (KK κ (q7 d) (lo+k)) (KK κ (q7 d) (lo+(l+r)/2)) with
    |true=>exact aJ ⟨rfl,l,(l+r)/2,rfl,by lia,by lia,by lia,o,λi v R=>KeyOrd.klt_of_klt_of_kle e (m _ _ 'o' 'o' 'o')⟩
    |false=>exact aJ ⟨rfl,(l+r)/2+1,r,rfl,by lia,by lia,by lia,λi v=>iz (m _ (lo+(l+r)/2) 'o' 'o' 'o') e,p⟩
  ·rintro c d ⟨rfl,l,r,rfl,P,u,y,o,p⟩;rw[dS] at y;have:l=r:=by lia
   subst this;exact⟨rfl,l,rfl,u,o,p⟩
  ·exact⟨rfl,0,k,rfl,by lia,by lia,by lia,λi v=>by lia,λi L Y=>by lia⟩
  ·rintro c d ⟨rfl,l,rfl,u,o,p⟩;show wpS (av prog w) A E s (moveDown' (lo+k) (lo+l) >>= _) _ d;rw[moveDown'_eq];have B:lo+k<(q7 d).size:=by rw[h.size];lia
   have Z:lo+k-(lo+l)=k-l:=by lia
   refine az (fu (aJ ⟨⟨(bubble_perm _ _ _).trans h.perm,h.kind,h.failed,h.pend,λi v=>?_⟩,rfl,by lia,?_⟩))
   ·show(bubble (q7 d) (lo+k) (lo+k-(lo+l)))[i]?=_;rw[getElem?_bubble B _ 'o',q0 'o',q0 'o'];exact h.fix i v
   ·show Up κ (bubble (q7 d) (lo+k) (lo+k-(lo+l))) lo (k+1);have C:∀x,KK κ (bubble (q7 d) (lo+k) (lo+k-(lo+l))) x=if x=lo+l then KK κ (q7 d) (lo+k) else if lo+l<x/\x<=lo+k then KK κ (q7 d) (x-1) else KK κ (q7 d) x:=λx=>by
     rw[KK_bubble B 'o'];have:lo+k-(lo+k-(lo+l))=lo+l:=by lia
     rw[this]
    have S:∀x,lo<=x->x<lo+l->κ.kle (KK κ (q7 d) x) (KK κ (q7 d) (lo+k)):=λx a b=>by
     have:=o (x-lo) 'o';rw[show lo+(x-lo)=x by lia] at this;exact this
    have T:∀x,lo+l<=x->x<lo+k->κ.kle (KK κ (q7 d) (lo+k)) (KK κ (q7 d) x):=λx a b=>by
     have:=p (x-lo) 'o' 'o';rw[show lo+(x-lo)=x by lia] at this;exact fZ this
    intro i j a b c;rw[C i,C j];by_cases D:i=lo+l
    ·rw[qL D];by_cases t:j=lo+l
     ·rw[qL t];exact Ao _
     ·rw[q0 t,qL 'o'];exact T (j-1) 'o' 'o'
    ·rw[q0 D];by_cases F:lo+l<i/\i<=lo+k
     ·rw[qL F,q0 'o',qL 'o'];exact m _ _ 'o' 'o' 'o'
     ·rw[q0 F];by_cases t:j=lo+l
      ·rw[qL t];exact S i a 'o'
      ·rw[q0 t];by_cases G:lo+l<j/\j<=lo+k
       ·rw[qL G];exact m _ _ a 'o' 'o'
       ·rw[q0 G];exact m _ _ a b 'o'
 ·rintro c g ⟨h,rfl,O,m⟩;rw[show max (max ok 1) n=n by lia] at m;exact⟨h,rfl,m⟩
 ·exact⟨M,rfl,by lia,by rw[show max ok 1=ok by lia];exact N⟩
 ·rintro c g ⟨h,rfl,m⟩;exact aJ (q g h m)
end
def tZ:Nat->List (List a8)->List (Nat×Nat)
 |_,[]=>[]
 |b,X::S=>(b,X.length)::tZ (b+X.length) S
theorem HK:∀(S T:List (List a8))(b:Nat),tZ b (S++T)=tZ b S++tZ (b+S.flatten.length) T
 |[],T,b=>by simp[tZ]
 | X::S,T,b=>by
  rw[jO,tZ,tZ,jO,HK S T,jA,aB,ir]
theorem Bk:∀(S:List (List a8))(b:Nat),(tZ b S).length=S.length
 |[],_=>rfl
 |X::S,b=>by rw[tZ,a7,Bk S,a7]
def se(t:Nat×Nat×Nat):Nat×Nat:=(t.1,t.2.1)
structure Pn(κ:aQ)(kd:KT)(L0:List a8)(st:bR)(lo:Nat)(S:List (List a8))(R:List a8):Prop where
 arr:(q7 st).toList=S.flatten++R
 lo:S.flatten.length=lo
 pend:(q8 st).toList.map se=tZ 0 S
 ne:∀X∈S,1<=X.length
 srt:∀X∈S,pZ κ X
 kind:kindOf st=kd
 failed:failedOf st=KM
 perm:(q7 st).toList.Perm L0
def Pn.size{κ:aQ}{kd:KT}{b:List a8}{a:bR}{lo:Nat}{S:List (List a8)}{R:List a8}(h:Pn κ kd b a lo S R):(q8 a).size=S.length:=by have:=congrArg kg h.pend;rw[ax,aK,Bk] at this;exact this
theorem Qc:∀(S:List (List a8)),(∀X∈S,1<=X.length)->S.length<=S.flatten.length
 |[],_=>by simp
 | X::S,h=>by
  rw[jA,aB,a7];have:=h X am;have:=Qc S λY a=>h Y (ak _ a);lia
theorem RQ{α:Type}:∀(S:List α)(i:Nat),i+1<S.length->∃a X Y b,S=a++X::Y::b/\a.length=i
 |[],i,h=>by simp at h
 |[_],i,h=>by simp at h
 |X::Y::S,0,_=>⟨[],X,Y,S,rfl,rfl⟩
 | X::Y::S,i+1,h=>by
  obtain⟨a,A,B,b,e,l⟩:=RQ (Y::S) i ⇑h;exact⟨X::a,A,B,b,by rw[e];rfl,by simp[l]⟩
theorem SH{α β:Type}(f:α->β):∀(l:List α)(i:Nat),(l.eraseIdx i).map f=(l.map f).eraseIdx i
 |[],_=>rfl
 |_::_,0=>rfl
 |x::l,i+1=>by simp[SH f l i]
section
variable{prog:aD}{w:aR}{A:aU}{E:ae->ag->Prop}{s:ag}{κ:aQ}{L0:List a8}{st:bR}{lo:Nat}{kd:KT}
def Ph(I:uJ prog w A s κ kd)(J:∀x∈L0,tj κ x)(p:Pn κ kd L0 st lo S R)(K:i+1<S.length)(q:∀g r,Pn κ kd L0 g lo r R->r.length+1=S.length->Q qb g):wpS (av prog w) A E s (mergeAt' i) Q st:=by
 obtain⟨c,X,Y,d,rfl,j⟩:=RQ S i K;have l:=p.pend;rw[HK,tZ,tZ,iY] at l;have u:∀k a b,(tZ 0 c++(c.flatten.length,X.length)::(c.flatten.length+X.length,Y.length)::tZ (c.flatten.length+X.length+Y.length) d)[k]?=KF (a,b)->∃v,(q8 st)[k]?=KF (a,b,v):=λk a b h=>by
  rw[<- l,bO] at h;have L:(q8 st)[k]?=(q8 st).toList[k]?:=by simp
  cases e:(q8 st).toList[k]? with
  |none=>rw[e] at h;cases h
  | some t=>
   rw[e] at h;obtain⟨x,y,z⟩:=t;injection h with h;unfold se at h;injection h with h1 h2;dsimp only at h1 h2;exact⟨z,by rw[L,e,h1,h2]⟩
 obtain⟨v,B⟩:=u i c.flatten.length X.length (by rw[br (by rw[Bk];lia),Bk,j,lV];rfl);obtain⟨W,C⟩:=u (i+1) (c.flatten.length+X.length) Y.length (by rw[br (by rw[Bk];lia),Bk,j,d8];rfl);have m:(q7 st).toList=c.flatten++(X++(Y++(d.flatten++R))):=by rw[p.arr];simp
 have n:X∈c++X::Y::d:=by simp
 have D:Y∈c++X::Y::d:=by simp
 refine XR I p.kind p.failed m B C (p.ne X n) (p.ne Y D) (p.srt X n) (p.srt Y D) (λx N=>J x (p.perm.mem_iff.mp (by
   rw[m];rcases aS.mp N with h|h<;>simp[h]))) λg M O P T F G U=>?_
 have o:M.length=X.length+Y.length:=by rw[G.length_eq,aB]
 refine q g (c++M::d) ⟨?_,?_,?_,?_,?_,O,P,?_⟩ (by simp;lia)
 ·rw[F];simp
 ·rw[<- p.lo];simp[o];lia
 ·rw[T,HK,tZ,iY,o];have UY:i<(q8 st).size:=(ef.mp B).1;have V:i+1<(q8 st).size:=(ef.mp C).1;rw[Array.eraseIdxIfInBounds,dif_pos (by rw[jQ];exact V),Array.toList_eraseIdx,ju,SH,List.map_set,l];have H:(tZ 0 c).length=i:=by rw[Bk,j]
  rw[List.set_append_right _ _ 'o',H,lV,List.set_cons_zero,List.eraseIdx_append_of_length_le 'o',H,d8];show _++(_::tZ _ d)=_;rw[ir];rfl
 ·intro Z f;simp only[aS,aq] at f;rcases f with h|rfl|h
  ·exact p.ne Z (by simp[h])
  ·rw[o];have:=p.ne X n;lia
  ·exact p.ne Z (by simp[h])
 ·intro Z f;simp only[aS,aq] at f;rcases f with h|rfl|h
  ·exact p.srt Z (by simp[h])
  ·exact U
  ·exact p.srt Z (by simp[h])
 ·rw[F];refine List.Perm.trans ?_ p.perm;rw[m];refine f9 _ ?_;rw[<- bh X];exact G.append_right _
end
section
variable{prog:aD}{w:aR}{A:aU}{E:ae->ag->Prop}{s:ag}{κ:aQ}{L0:List a8}{st:bR}{lo:Nat}{kd:KT}
def Xj(u:Up κ xs lo m)(h:lo+m<=xs.size):pZ κ ((xs.toList.drop lo).take m):=by
 unfold pZ;rw[fv];intro i j b c d;rw[bK,cg,aK] at b c;have a:∀k,k<m->∀(a:k<((xs.toList.drop lo).take m).length),ky κ ((xs.toList.drop lo).take m)[k]=KK κ xs (lo+k):=λk e a=>by
  rw[mw,mx];unfold KK ky;rw[eG,dN 'o']
 unfold Le;rw[a i 'o',a j 'o'];exact u _ _ 'o' 'o' 'o'
def Pn.run(p:Pn κ kd L0 st lo S R)(r:Rl st lo g_)(h:lo+m<=(q7 st).size)(u:Up κ (q7 g_) lo m):∃b,Pn κ kd L0 g_ lo S b/\b.length=R.length/\pZ κ (b.take m):=by
 have c:=p.lo;have g:=r.size;have a:(q7 g_).toList.length=lo+R.length:=by rw[aK,g,<- aK,p.arr,aB,c]
 have d:(q7 g_).toList.take lo=S.flatten:=by
  have e:(q7 st).toList.take lo=S.flatten:=by rw[p.arr,<- c,nq]
  rw[<- e];apply List.ext_getElem?;intro i;by_cases f:i<lo
  ·rw[fz f,fz f,iF,iF];exact r.fix i f
  ·rw[jv 'o',jv 'o']
 have j:(q7 g_).toList=S.flatten++(q7 g_).toList.drop lo:=by
  conv=>lhs;rw[<- cJ lo (q7 g_).toList]
  rw[d]
 refine⟨(q7 g_).toList.drop lo,⟨j,c,by rw[r.pend];exact p.pend,p.ne,p.srt,r.kind.trans p.kind,r.failed.trans p.failed,(dF.mp r.perm).trans p.perm⟩,by rw[cg,a];lia,?_⟩;exact Xj u (by rw[g];exact h)
def Pn.push(p:Pn κ kd L0 st lo S R)(c:1<=m)(e:m<=R.length)(d:pZ κ (R.take m)):Pn κ kd L0 (setPending st ((q8 st).push (lo,m,pw))) (lo+m) (S++[R.take m]) (R.drop m):=by
 have a:(R.take m).length=m:=by rw[bK];lia
 refine⟨?_,?_,?_,?_,?_,p.kind,p.failed,p.perm⟩
 ·show(q7 st).toList=_;rw[p.arr];simp
 ·rw[List.flatten_append,aB,p.lo];show lo+(R.take m++[]).length=_;rw[bL,a]
 ·show((q8 st).push (lo,m,pw)).toList.map se=_;rw[fY,dq,p.pend,HK,p.lo,iY,tZ,tZ,a];rfl
 ·intro X b;rcases aS.mp b with h|h
  ·exact p.ne X h
  ·rw[bV.mp h,a];exact c
 ·intro X b;rcases aS.mp b with h|h
  ·exact p.srt X h
  ·rw[bV.mp h];exact d
theorem TK{α β:Type}(f:α->β)(g:α->α)(h:∀x,f (g x)=f x):∀(l:List α)(i:Nat),(l.modify i g).map f=l.map f
 |[],_=>by simp
 |x::l,0=>by simp[h]
 |x::l,i+1=>by simp[TK f g h l i]
def Pn.power(p:Pn κ kd L0 st lo S R)(a:∀x,se (g x)=se x)(i:Nat):Pn κ kd L0 (setPending st ((q8 st).modify i g)) lo S R:=by refine⟨p.arr,p.lo,?_,p.ne,p.srt,p.kind,p.failed,p.perm⟩;show((q8 st).modify i g).toList.map se=_;rw[Array.toList_modify,TK se g a,p.pend]
def Yk(h:pZ κ xs.toList):jm κ xs xs.size:=λi j d a=>by
 by_cases e:i=j
 ·subst e;exact Ao _
 have b:KK κ xs i=ky κ xs[i]:=by unfold KK ky;rw[dN 'o']
 have c:KK κ xs j=ky κ xs[j]:=by unfold KK ky;rw[dN a]
 rw[b,c];have:=fv.mp h i j (by rw[aK];lia) (by rw[aK];lia) 'o';rw[eG,eG] at this;exact this
set_option maxHeartbeats 0 in
def RI(J:uJ prog w A s κ kd)(hs:i6 κ a₀)(T:(q7 st).Perm a₀)(bk:kindOf st=kd)(bf:failedOf st=KM)(bn:q8 st = #[])(q:∀d,(q7 d).Perm a₀->failedOf d=KM->jm κ (q7 d) a₀.size->Q () d):wpS (av prog w) A E s sortRuns' Q st:=by
 have v:∀x∈a₀.toList,tj κ x:=hs;have p0:Pn κ kd a₀.toList st 0 [] (q7 st).toList:=⟨rfl,rfl,by rw[bn];rfl,by simp,by simp,bk,bf,dF.mp T⟩;have N:(q7 st).size=a₀.size:=T.size_eq;rw[sortRuns'_eq];refine az (gA ?_);show wpS _ _ _ _ (forIn [:(q7 st).size] (KM,0) _ >>= _) Q st;rw[N];refine az (dD (cG (I:=λk c d=>∃lo S R,c=(KM,lo)/\Pn κ kd a₀.toList d lo S R/\k<=lo) (Q:=λc d=>∃lo S R,c=(KM,lo)/\Pn κ kd a₀.toList d lo S R/\a₀.size<=lo) ?_ ?_ ?_) ?_)
 ·rintro k c z _ hk ⟨lo,S,R,rfl,p,D⟩;have U:lo+R.length=a₀.size:=by
   have:=p.perm.length_eq;rw[p.arr,aB,p.lo,aK] at this;exact this
  have O:(q7 z).size=a₀.size:=by rw[<- aK,p.perm.length_eq,aK]
  show wpS _ _ _ _ (if lo ≥ _ then _ else _) _ z;by_cases o:lo ≥ a₀.size
  ·rw[qL (by first|exact o|(rw[N];exact o))];exact aJ ⟨lo,S,R,rfl,p,o⟩
  rw[q0 (by first|exact o|(rw[N];exact o))];have V:∀x∈(q7 z).toList,tj κ x:=λx hx=>v x (p.perm.mem_iff.mp hx);refine az (zck (lo:=lo) (nrem:=a₀.size-lo) J V p.kind 'o' 'o' (Rl.refl z lo) λn r W Y n2 Z=>?_);apply DU (α:=bR) (β:=Nat) (H:=λF m=>∃i,Pn κ kd a₀.toList F lo S i/\1<=m/\m<=i.length/\pZ κ (i.take m)/\k<lo+m);intro G;show wpS _ _ _ _ (if n<minRun' a₀.size a₀.size 0 then _ else _) _ r;by_cases hm:n<minRun' a₀.size a₀.size 0
  ·rw[qL hm];refine az (ja (dW ⟨rfl,az (zfS (lo:=lo) (n:=min (a₀.size-lo) (minRun' a₀.size a₀.size 0)) (ok:=n) J V p.kind Y 'o' 'o' W Z λF r3 u3=>?_)⟩));obtain⟨i,u,l3,B⟩:=p.run r3 'o' u3;have K:1<=min (a₀.size-lo) (minRun' a₀.size a₀.size 0):=by lia
   have L:min (a₀.size-lo) (minRun' a₀.size a₀.size 0)<=i.length:=by lia
   generalize min (a₀.size-lo) (minRun' a₀.size a₀.size 0)=m at *;exact G _ _ ⟨i,u,K,L,B,by lia⟩
  ·rw[q0 hm];obtain⟨i,u,l3,B⟩:=p.run W 'o' Z;exact G _ _ ⟨i,u,Y,by lia,B,by lia⟩
  rintro F m ⟨i,u,K,L,B,D⟩;refine az (gA ?_);cases hb:(q8 F).back? with
  |none=>exact az (fu (aJ ⟨lo+m,_,_,rfl,u.push K L B,by lia⟩))
  | some t=>
   obtain⟨s1,n1',pw0⟩:=t;refine az (dD (cG (I:=λj c d=>c=(KM,())/\∃e,Pn κ kd a₀.toList d lo e i) (Q:=λc d=>c=(KM,())/\∃e,Pn κ kd a₀.toList d lo e i) ?_ ?_ ?_) ?_)
   ·rintro j c f _ _ ⟨rfl,e,C⟩;refine az (gA ?_);show wpS _ _ _ _ (match (if (q8 f).size>1 then (q8 f)[(q8 f).size-2]? else KM) with|some (fst,fst_1,l)=>_|x=>_) _ f;cases ht:(if (q8 f).size>1 then (q8 f)[(q8 f).size-2]? else KM) with
    |none=>exact aJ ⟨rfl,e,C⟩
    | some t=>
     obtain⟨x,y,l⟩:=t;have P:(q8 f).size>1:=by
      by_cases P:(q8 f).size>1
      ·exact P
      ·rw[q0 P] at ht;cases ht
     show wpS _ _ _ _ (if l<=_ then _ else _) _ f;split
     ·exact aJ ⟨rfl,e,C⟩
     ·exact az (Ph J v C (by rw[C.size] at *;lia) λIi S5 p5 _=>aJ ⟨rfl,S5,p5⟩)
   ·rintro c f h;exact h
   ·exact⟨rfl,S,u⟩
   ·rintro c f ⟨rfl,e,C⟩;refine az (fu (az (fu (aJ ⟨lo+m,_,_,rfl,Pn.push (Pn.power C ?_ _) K L B,by lia⟩))));rintro⟨a,b,c⟩;rfl
 ·rintro c z ⟨lo,S,R,rfl,p,D⟩;exact⟨lo,S,R,rfl,p,by rw[dS] at D;exact D⟩
 ·exact⟨0,[],_,rfl,p0,aE _⟩
 ·rintro c z ⟨lo,S,R,rfl,p,D⟩;have hR:R=[]:=by
   have h:=p.perm.length_eq;rw[p.arr,aB,p.lo] at h;have h2:a₀.toList.length=a₀.size:=aK;exact cx.mp 'o'
  refine az (dD (cG (I:=λk c d=>c=(KM,())/\∃S,Pn κ kd a₀.toList d lo S R/\S.length<=a₀.size-k) (Q:=λc d=>c=(KM,())/\∃S,Pn κ kd a₀.toList d lo S R/\S.length<=1) ?_ ?_ ?_) ?_)
  ·rintro k c r _ hk ⟨rfl,e,g,M⟩;refine az (gA ?_);show wpS _ _ _ _ (if (q8 r).size<=1 then _ else _) _ r;by_cases o:(q8 r).size<=1
   ·rw[qL o];exact aJ ⟨rfl,e,g,by rw[<- g.size];exact o⟩
   ·rw[q0 o];have O:=g.size;refine az (Ph J v g ?_ λF S3 u h3=>aJ ⟨rfl,S3,u,by lia⟩)
    repeat' split
    all_goals lia
  ·rintro c r ⟨rfl,e,g,M⟩;exact⟨rfl,e,g,by rw[dS] at M;lia⟩
  ·refine⟨rfl,S,p,?_⟩;have h1:=Qc S p.ne;have h:=p.perm.length_eq;rw[p.arr,aB] at h;have h2:a₀.toList.length=a₀.size:=aK;lia
  ·rintro c r ⟨rfl,e,g,M⟩;have uI:=g.arr;rw[hR,bL] at uI;have O:(q7 r).size=a₀.size:=by rw[<- aK,g.perm.length_eq,aK]
   refine aJ (q r (dF.mpr g.perm) g.failed ?_);rw[<- O];apply Yk;rw[uI]
   match e,M with
   |[],_=>exact dM
   |[X],_=>rw[jA,List.flatten_nil,bL];exact g.srt X am
end
def list_sort_big(l:κ.OneLt)(f:s.heap.get? a=KF (seqObj "list" vs.toArray n))(m:i6 κ (pairsOf vs))(o:∀p r b,vs=p::r::b->keyKind' (p::r::b).toArray=pure oneType')
  (t:vs.length<=4000000) (q:∀c:bR,(q7 c).Perm (pairsOf vs)->jm κ (q7 c) (pairsOf vs).size->P (Fin.done (nM cH)) { heap:=sortedHeap s.heap a vs (gf (λx=>x.snd) (q7 c)),gens:=s.gens,drawn:=s.drawn,toks:=s.toks,os:=s.os }):ar (av prog w) A (fx.«list.sort» { pos:=[cZ a] }) P E s:=by
 by_cases u:vs.length<64
 ·exact list_sort_treeK l f m o u q
 rw[list_sort_plain];have v:(4000000:Nat)<=q9:=by decide
 obtain⟨v1,d,b,rfl⟩:∃v1 d b,vs=v1::d::b:=by
  match vs,u with
  |[],h=>exact absurd (by show 0<64;decide) h
  |[_],h=>exact absurd (by show 1<64;decide) h
  |v1::d::b,_=>exact⟨v1,d,b,rfl⟩
 generalize j:v1::d::b=vs at *;have y:=bX (bt λ_=>#[]) f rfl;have z:=aj (seqObj "list" #[] 0) (aj (seqObj "tuple" vs.toArray 0) y);refine aa (fB f rfl (aa (iu f rfl (aa (jg y rfl (aa (i9 (aa (gu (bI ?_) 's')) (by simpa using aF t v))))) (by simpa using aF t v) (by show 0<=q9+1;lia))));have B:¬ vs.toArray.size<2:=by rw[aP];lia
 show ar (av prog w) A (if vs.toArray.size<2 then _ else _) P E _;rw[q0 B,<- j,o v1 d b j.symm,j];refine aa (ao ?_);rw[q0 B];show ar (av prog w) A (sortRuns'.run (lc oneType' (vs.toArray.zip vs.toArray) #[] 7 KM) >>= _) P E { heap:=((s.heap.update a (bt λx=>#[])).push (seqObj "tuple" vs.toArray 0)).push (seqObj "list" #[] 0),gens:=s.gens,drawn:=s.drawn,toks:=s.toks,os:=s.os };refine aa (bZ (RI (Q:=λ_ c=>(q7 c).Perm (pairsOf vs)/\failedOf c=KM/\jm κ (q7 c) (pairsOf vs).size) (uJ.one l) (a₀:=pairsOf vs) m (iX _) rfl rfl rfl λc g i k=>⟨g,i,k⟩) ?_ λ_ _ h=>h);rintro⟨_,c⟩ C ⟨rfl,g,i,k⟩;have D:(gf (λx=>x.snd) (q7 c)).size<=4000000:=by
  rw[kN,g.size_eq];show(vs.toArray.zip vs.toArray).size<=_;rw[nu,aP];lia
 refine aa (jg z rfl (aa (iu z rfl ?_ (by show 0<=q9;lia) (by show(gf _ _).size<=q9+1;lia))));dsimp only at i;show ar (av prog w) A (match failedOf c with|some e=>_|x=>_) P E _;rw[i];show ar (av prog w) A (if ((if _ then n else n+1) !=(if _ then n else n+1))=qb then _ else _) P E _;rw[q0 'd'];exact ao (q c g k)
def Cy:ae->Option l_
 |.str x _=>KF x.cps.toList
 |_=>KM
def allS:List ae->Option j_
 |[]=>KF []
 | v::vs=>match Cy v,allS vs with
  |some a,KF r=>KF (a::r)
  |_,_=>KM
def Af(h:aL):ae->Option j_
 | .ref t=>match h.get? t with
  | some o=>match o.data with
   |.seq d_ _=>allS d_.toList
   |_=>KM
  |none=>KM
 |_=>KM
def llt_irrefl(a:j_):¬ a<a:=gd a
def llt_trans{a b c:j_}(d:a<b)(e:b<c):a<c:=iw d e
def llt_total{a b:j_}(c:¬ a<b)(d:¬ b<a):a=b:=jR (ik.mp d) (ik.mp c)
def Hb(h:aL):aQ where
 α:=j_
 blt:=λa b=>decide (a<b)
 irrefl:=λa=>decide_eq_false (llt_irrefl a)
 trans:=λa b c h1 h2=>decide_eq_true (llt_trans (of_decide_eq_true h1) (of_decide_eq_true h2))
 negTrans:=λa b c h=>by
  by_cases h1:a<b
  ·exact .inl (decide_eq_true h1)
  ·right;have hac:=of_decide_eq_true h;by_cases h2:b<a
   ·exact decide_eq_true (llt_trans h2 hac)
   ·rw[<- llt_total h1 h2];exact h
 total:=λa b h1 h2=>llt_total (of_decide_eq_false h1) (of_decide_eq_false h2)
 keyOf:=Af h
 dflt:=[]
def lexR:j_->j_->Option Bool
 |a::as,b::bs=>if a=b then lexR as bs else KF (decide (a<b))
 |_,_=>KM
theorem lexR_lt:∀c bs:j_,(match lexR c bs with|some r=>r|none=>decide (c.length<bs.length))=decide (c<bs)
 |[],[]=>by simp[lexR]
 |[],b::bs=>by simp[lexR]
 |a::c,[]=>by simp[lexR]
 | a::c,b::bs=>by
  unfold lexR;by_cases e:a=b
  ·subst e;rw[qL rfl];have:=lexR_lt c bs;rw[a7,a7];have d:decide (c.length+1<bs.length+1)=decide (c.length<bs.length):=by simp
   rw[d,this];simp[kO]
  ·rw[q0 e];show decide (a<b)=_;simp[kO,e]
theorem Tf
  (m:∀x y i a b{Q:ForInStep (Option Bool×Unit)->ag->Prop},Cy x=KF a->Cy y=KF b->Q (if a=b then .yield (KM,()) else .done (KF (decide (a<b)),())) s->ar M A (f ((x,y),i) (KM,())) Q E s):
  ∀(xs d:List ae)(c bs:j_)(j:Nat){Q:Option Bool×Unit->ag->Prop},allS xs=KF c->allS d=KF bs->Q (lexR c bs,()) s->ar M A (forIn ((xs.zip d).zipIdx j) (KM,()) f) Q E s
 | [],d,c,bs,j,Q,h1,h2,q=>by
  cases h1;exact ao (by cases bs<;>exact q)
 | x::xs,[],c,bs,j,Q,h1,h2,q=>by
  cases h2;exact ao (by cases c<;>exact q)
 | x::xs,y::d,c,bs,j,Q,h1,h2,q=>by
  unfold allS at h1 h2;split at h1
  ·rename_i a g n h;split at h2
   ·rename_i b k o l;cases h1;cases h2;rw[jn,iy,fM];refine aa (m x y j a b n o ?_);unfold lexR at q;by_cases e:a=b
    ·rw[qL e] at q ⊢;exact Tf m xs d g k (j+1) h l q
    ·rw[q0 e] at q ⊢;exact ao q
   ·cases h2
  ·cases h1
theorem Q3{M:gE}{A:aU}{E:ae->ag->Prop}{s:ag}{α β:Type}{f:α->Sem β}(g:α->β):∀(l:List α){Q:List β->ag->Prop},(∀v∈l,∀(a:β->ag->Prop),a (g v) s->ar M A (f v) a E s)->Q (l.map g) s->ar M A (List.mapM f l) Q E s
 |[],Q,_,q=>by rw[List.mapM_nil];exact ao q
 | v::l,Q,h,q=>by
  rw[List.mapM_cons];exact aa (h v am _ (aa (Q3 g l (λu b=>h u (ak _ b)) (ao q))))
def Hc{M:gE}{A:aU}{E:ae->ag->Prop}{s:ag}{α β:Type}{f:α->Sem β}(g:α->β)(l:List α){Q:Array β->ag->Prop}(h:∀v∈l,∀(a:β->ag->Prop),a (g v) s->ar M A (f v) a E s)(q:Q (l.map g).toArray s):ar M A (mW f l.toArray) Q E s:=by rw[Array.mapM_eq_mapM_toList];refine aa (Q3 g l h (ao q))
section
variable{prog:aD}{w:aR}{A:aU}{E:ae->ag->Prop}{s:ag}
def str_of(h:Cy v=KF a):∃x t,v=.str x t/\x.cps.toList=a:=by
 cases v with
 |str x t=>exact⟨x,t,rfl,by cases h;rfl⟩
 |_=>cases h
def XI(c:Cy x=KF a)(d:Cy y=KF b)(q:Q (decide (a<b)) s):ar (av prog w) A (oneLt' o x y) Q E s:=by
 obtain⟨x,t,rfl,rfl⟩:=str_of c;obtain⟨y,u,rfl,rfl⟩:=str_of d;cases o with
 |true=>exact strKind_oneLt prog w A E s _ _ _ _ rfl rfl q
 | false=>
  rw[oneLt'_eq,q0 's'];refine aa (show ar (av prog w) A (cm nN _ _) _ E s from P.lt_str ?_);exact ao q
structure TupS(h:aL)(v:ae)(ks:j_):Prop where
 ok:∃t o d_ c,v=.ref t/\h.get? t=KF o/\o.cls=.type "tuple"/\o.data=.seq d_ c/\allS d_.toList=KF ks
noncomputable def v_(h:aL)(v:ae):Option ae:=match v with
 | .ref t=>match h.get? t with
  | some o=>match o.data with
   |.seq d_ _=>d_[0]?
   |_=>KM
  |none=>KM
 |_=>KM
def Hn(g:h.get? t=KF o)(a:o.data=.seq d_ c):v_ h (.ref t)=d_[0]?:=by show(match h.get? t with|some o=>(match o.data with|.seq d_ _=>d_[0]?|_=>KM)|none=>KM)=_;rw[g];dsimp only;rw[a]
def JY(e:Af h v=KF ks):∃t o a c,v=.ref t/\h.get? t=KF o/\o.data=.seq a c/\allS a.toList=KF ks:=by
 cases v with
 | ref t=>
  unfold Af at e;dsimp only at e;cases g:h.get? t with
  |none=>rw[g] at e;cases e
  | some o=>
   rw[g] at e;dsimp only at e;cases b:o.data with
   |seq a c=>rw[b] at e;exact⟨t,o,a,c,rfl,g,b,e⟩
   |_=>rw[b] at e;cases e
 |_=>cases e
def K2(ok:TupS h v ks)(d:ks≠[]):∃x tk,v_ h v=KF (.str x tk):=by
 obtain⟨t,o,f,c,rfl,g,k,i,b⟩:=ok;rw[Hn g i,<- iF];cases e:f.toList with
 |nil=>rw[e] at b;cases b;exact absurd rfl d
 | cons x r=>
  rw[e] at b;unfold allS at b;split at b
  ·rename_i a l j m;obtain⟨y,tk,rfl,_⟩:=str_of j;exact⟨y,tk,rfl⟩
  ·cases b
theorem KR:∀{l:List ae}{b:j_},allS l=KF b->l.length=b.length
 |[],b,h=>by cases h;rfl
 | v::l,b,h=>by
  unfold allS at h;split at h
  ·rename_i a r d c;cases h;rw[a7,a7,KR c]
  ·cases h
def z8o{vs:List ae}(S:2<=vs.length)(j:∀v∈vs,∃k,TupS s.heap v k/\k≠[]){Q:KT->ag->Prop}(q:∀kd:KT,uJ prog w A s (Hb s.heap) kd->Q kd s):ar (av prog w) A (keyKind' vs.toArray) Q E s:=by
 show ar (av prog w) A (_ >>= _) Q E s;refine aa (Hc (v_ s.heap) vs (λv f l I=>?_) ?_)
 ·obtain⟨k,⟨t,o,T,c,rfl,g,U,K,ha⟩,m⟩:=j v f;show ar (av prog w) A (typeOf (.ref t) >>= _) l E s;refine aa (wpAny_typeOf_ref g ?_);rw[U];show ar (av prog w) A (fR (.ref t) >>= _) l E s;refine aa (fB g K (ao ?_));rw[<- Hn g K];exact I
 ·have V:((vs.map (v_ s.heap)).toArray.all λx=>x.isSome)=qb:=by
   rw[iA,aH];intro x d;obtain⟨v,f,rfl⟩:=ay.mp d;obtain⟨k,C,m⟩:=j v f;obtain⟨y,n,e⟩:=K2 C m;rw[e];rfl
  rw[qL V];refine aa (dW ?_);have W:∀u∈(vs.map (v_ s.heap)).filterMap id,∃y n,u=.str y n:=λu X=>by
   obtain⟨x,d,e⟩:=gM.mp X;obtain⟨v,f,rfl⟩:=ay.mp d;obtain⟨k,C,m⟩:=j v f;obtain⟨y,n,D⟩:=K2 C m;rw[D] at e;injection e with e;exact⟨y,n,e.symm⟩
  have F:(vs.map (v_ s.heap)).filterMap id≠[]:=by
   match vs,S,j with
   | v::_,_,j=>
    obtain⟨k,C,m⟩:=j v am;obtain⟨y,n,D⟩:=K2 C m;rw[bz,D];simp
  rw[kr];generalize (vs.map (v_ s.heap)).filterMap id=p at *;refine aa ?_;show ar (av prog w) A (mW typeOf p.toArray >>= _) _ E s;refine aa (Hc (λ_=>cI "str") p (λv f l I=>?_) ?_)
  ·obtain⟨y,n,rfl⟩:=W v f;exact ao I
  ·have Y:((p.map λ_=>cI "str").toArray)[0]?=KF (cI "str"):=by
    cases p with
    |nil=>exact absurd rfl F
    |cons _ _=>rfl
   rw[Y];have J:((p.map λ_=>cI "str").toArray.all λx=>x==cI "str")=qb:=by
    rw[iA,aH];intro x d;obtain⟨_,_,rfl⟩:=ay.mp d;rfl
   show ar (av prog w) A (pure (if ((p.map λ_=>cI "str").toArray.all λx=>x==cI "str")=qb then KF (cI "str") else KM)) _ E s;rw[J];refine ao (ao (q _ ?_));intro x y L l d z B;obtain⟨(G:j_),d⟩:=d;obtain⟨(H:j_),z⟩:=z;have Z:ky (Hb s.heap) x=G:=by unfold ky;rw[d];rfl
   have eb:ky (Hb s.heap) y=H:=by unfold ky;rw[z];rfl
   rw[Z,eb] at B;obtain⟨t,o,T,c,J,g1,d1,M⟩:=JY d;obtain⟨t2,o2,rZ,c2,D,g2,d2,N⟩:=JY z;rw[J,D];show ar (av prog w) A (fR (.ref t) >>= _) l L s;refine aa (fB g1 d1 (aa (fB g2 d2 (aa (Tf ?_ _ _ G H 0 M N ?_)))))
   ·intro x y i a b Q d z q;obtain⟨x,t,rfl,rfl⟩:=str_of d;obtain⟨y,u,rfl,rfl⟩:=str_of z;show ar (av prog w) A (eqBool (.str x t) (.str y u) >>= _) Q L s;refine aa (jI ?_);by_cases e:x=y
    ·subst e;rw[qL rfl] at q;rw[decide_eq_true rfl];exact ao q
    ·have ne:x.cps.toList≠y.cps.toList:=λh=>e (by
      cases x;cases y;dsimp only at h;rw[iB.mp h])
     rw[q0 ne] at q;rw[decide_eq_false e];exact aa (XI rfl rfl (ao q))
   ·have O:=KR M;have P:=KR N;rw[aK] at O P;have R:=lexR_lt G H;rw[<- O,<- P] at R
    replace B:l (decide (G<H)) s:=B
    rw[<- R] at B;generalize lexR G H=r at *;cases r with
    |none=>exact ao B
    |some r=>exact ao B
end
def keyT(h:aL)(v:ae):j_:=(Af h v).getD []
def SI{vs:List ae}{p:a8}(h:p∈(pairsOf vs).toList):p.1=p.2/\p.1∈vs:=by
 have e:(pairsOf vs).toList=vs.zip vs:=by simp[pairsOf]
 rw[e] at h;have a:vs.zip vs=vs.map λv=>(v,v):=by
  clear h e
  induction vs with
  |nil=>rfl
  |cons v r ih=>rw[jn,ih];rfl
 rw[a] at h;obtain⟨v,b,rfl⟩:=ay.mp h;exact⟨rfl,b⟩
def zby(vs:List ae):(pairsOf vs).toList.map (λx=>x.2)=vs:=by
 have e:(pairsOf vs).toList=vs.zip vs:=by simp[pairsOf]
 rw[e]
 induction vs with
 |nil=>rfl
 |cons v r ih=>rw[jn,bz,ih (by simp[pairsOf])]
abbrev atK(K:aQ)(ko:aL->ae->Option K.α)(h:aL):aQ:={ K with keyOf:=ko h }
def T7{prog:aD}{w:aR}{A:aU}{E:ae->ag->Prop}{s:ag}{a:af}{vs:List ae}{n:Nat}{P:PySem.Fin->ag->Prop}{K:aQ}{ko:aL->ae->Option K.α}{C:aL->ae->Prop}
  (t:∀{h h':aL},(∀b o,h.get? b=KF o->o.cls=.type "tuple"->h'.get? b=KF o)->∀{v},C h v->C h' v/\ko h' v=ko h v) (J:∀{h v},C h v->∃k,ko h v=KF k)
  (kk:∀{E:ae->ag->Prop}{s:ag}{Q:KT->ag->Prop},2<=vs.length->(∀v∈vs,C s.heap v)->(∀kd:KT,uJ prog w A s (atK K ko s.heap) kd->Q kd s)->ar (av prog w) A (keyKind' vs.toArray) Q E s)
  (D:s.heap.get? a=KF (seqObj "list" vs.toArray n)) (Z:∀v∈vs,C s.heap v) (O:vs.length<=4000000)
  (q:∀d:Array ae,d.toList.Perm vs->d.toList.Pairwise (λx y=>K.blt ((ko s.heap y).getD K.dflt) ((ko s.heap x).getD K.dflt)=qj)->P (Fin.done (nM cH)) { heap:=sortedHeap s.heap a vs d,gens:=s.gens,drawn:=s.drawn,toks:=s.toks,os:=s.os }):ar (av prog w) A (fx.«list.sort» { pos:=[cZ a] }) P E s:=by
 rw[list_sort_plain];have R:(4000000:Nat)<=q9:=by decide
 have S:=bX (bt λ_=>#[]) D rfl;have F:=aj (seqObj "list" #[] 0) (aj (seqObj "tuple" vs.toArray 0) S);have f:∀{v},v∈vs->C (((s.heap.update a (bt λx=>#[])).push (seqObj "tuple" vs.toArray 0)).push (seqObj "list" #[] 0)) v/\ko (((s.heap.update a (bt λx=>#[])).push (seqObj "tuple" vs.toArray 0)).push (seqObj "list" #[] 0)) v=ko s.heap v:=λ{v}h=>t (λb o g hc=>by
  have ne:a≠b:=λe=>by
   subst e;rw[D] at g;cases g;exact absurd hc 'd'
  exact aj (seqObj "list" #[] 0) (aj (seqObj "tuple" vs.toArray 0) ((bA s.heap (bt λ_=>#[]) ne).trans g))) (Z v h)
 refine aa (fB D rfl (aa (iu D rfl (aa (jg S rfl (aa (i9 (aa (gu (bI ?_) 's')) (by simpa using aF O R))))) (by simpa using aF O R) (by show 0<=q9+1;lia))));show ar (av prog w) A _ P E { heap:=((s.heap.update a (bt λx=>#[])).push (seqObj "tuple" vs.toArray 0)).push (seqObj "list" #[] 0),gens:=s.gens,drawn:=s.drawn,toks:=s.toks,os:=s.os };generalize hH:((s.heap.update a (bt λx=>#[])).push (seqObj "tuple" vs.toArray 0)).push (seqObj "list" #[] 0)=H at *;have u:∀c:bR,(q7 c).Perm (pairsOf vs)->failedOf c=KM->jm (atK K ko H) (q7 c) (pairsOf vs).size->(gf (λx=>x.snd) (q7 c)).toList.Perm vs/\(gf (λx=>x.snd) (q7 c)).toList.Pairwise (λx y=>K.blt ((ko s.heap y).getD K.dflt) ((ko s.heap x).getD K.dflt)=qj):=λc l _ m=>by
  have T:=dF.mp l;refine⟨?_,?_⟩
  ·rw[mM];have:=T.map (λx:a8=>x.2);rw[zby] at this;exact this
  ·rw[mM,fv];intro i j U G ur;rw[ax,aK] at U G;rw[fC,fC];have V:=m i j 'o' (by rw[<- l.size_eq];exact G);have W:∀k(h:k<(q7 c).size),KK (atK K ko H) (q7 c) k=(ko s.heap ((q7 c).toList[k]'(by rw[aK];exact h)).2).getD K.dflt:=λk h=>by
    unfold KK;rw[dN h];have hm:(q7 c)[k]∈(pairsOf vs).toList:=T.mem_iff.mp (by rw[<- eG];exact el _);obtain⟨X,r⟩:=SI hm;dsimp only;show(ko H (q7 c)[k].1).getD K.dflt=_;rw[(f r).2,eG,<- X]
   rw[W i U,W j G] at V;exact V
 have L:i6 (atK K ko H) (pairsOf vs):=λp I=>by
  obtain⟨X,r⟩:=SI I;exact J (f r).1
 have Y:∀d:Array ae,H.update a (bt λ_=>d)=sortedHeap s.heap a vs d:=λd=>by rw[<- hH];rfl
 by_cases r:vs.length<2
 ·have z:vs.toArray.size<2:=by rw[aP];exact r
  show ar (av prog w) A (if vs.toArray.size<2 then _ else _) P E _;rw[qL z];refine aa (ao ?_);rw[qL z];have pz:(pairsOf vs).size=vs.length:=by simp[pairsOf]
  obtain⟨M,N⟩:=u (lc general' (pairsOf vs) #[] 7 KM) (iX _) rfl (λi j ur G=>by
   have:i=j:=by lia
   subst this;exact Ao _)
  refine aa (ao ?_);have I:(gf (λx=>x.snd) (q7 (lc general' (pairsOf vs) #[] 7 KM))).size<=4000000:=by
   rw[kN];show(pairsOf vs).size<=_;lia
  refine aa (jg F rfl (aa (iu F rfl ?_ (by show 0<=q9;lia) (by show(gf _ _).size<=q9+1;exact aF I 'o'))));show ar (av prog w) A (if ((if _ then n else n+1) !=(if _ then n else n+1))=qb then _ else _) P E _;rw[q0 'd'];refine ao ?_;have:=q _ M N;rw[<- Y] at this;exact this
 ·have z:¬ vs.toArray.size<2:=by rw[aP];exact r
  show ar (av prog w) A (if vs.toArray.size<2 then _ else _) P E _;rw[q0 z];refine aa (kk (s:={ heap:=H,gens:=s.gens,drawn:=s.drawn,toks:=s.toks,os:=s.os }) 'o' (λv h=>(f h).1) λkd ho=>?_);rw[q0 z];show ar (av prog w) A (sortRuns'.run (lc kd (vs.toArray.zip vs.toArray) #[] 7 KM) >>= _) P E _;refine aa (bZ (RI (kd:=kd) (κ:=atK K ko H) (Q:=λ_ c=>(q7 c).Perm (pairsOf vs)/\failedOf c=KM/\jm (atK K ko H) (q7 c) (pairsOf vs).size) ho (a₀:=pairsOf vs) L (iX _) rfl rfl rfl λc l B m=>⟨l,B,m⟩) ?_ λ_ _ h=>h);rintro⟨_,c⟩ s' ⟨rfl,l,B,m⟩;dsimp only at l B m;obtain⟨M,N⟩:=u c l B m;have I:(gf (λx=>x.snd) (q7 c)).size<=4000000:=by
   rw[kN,l.size_eq];show(vs.toArray.zip vs.toArray).size<=_;rw[nu,aP];lia
  refine aa (jg F rfl (aa (iu F rfl ?_ (by show 0<=q9;lia) (by show(gf _ _).size<=q9+1;lia))));show ar (av prog w) A (match failedOf c with|some e=>_|x=>_) P E _;rw[B];show ar (av prog w) A (if ((if _ then n else n+1) !=(if _ then n else n+1))=qb then _ else _) P E _;rw[q0 'd'];refine ao ?_;have:=q _ M N;rw[<- Y] at this;exact this
def z5Y{prog:aD}{w:aR}{A:aU}{E:ae->ag->Prop}{s:ag}{a:af}{vs:List ae}{n:Nat}{P:PySem.Fin->ag->Prop}(j:s.heap.get? a=KF (seqObj "list" vs.toArray n))(f:∀v∈vs,∃b,TupS s.heap v b/\(2<=vs.length->b≠[]))(k:vs.length<=4000000)
  (q:∀d:Array ae,d.toList.Perm vs->d.toList.Pairwise (λx y=>¬ keyT s.heap y<keyT s.heap x)->P (Fin.done (nM cH)) { heap:=sortedHeap s.heap a vs d,gens:=s.gens,drawn:=s.drawn,toks:=s.toks,os:=s.os }):ar (av prog w) A (fx.«list.sort» { pos:=[cZ a] }) P E s:=
 T7 (K:=Hb s.heap) (ko:=Af) (C:=λh v=>∃b,TupS h v b/\(2<=vs.length->b≠[])) (λ{h h'}kp{v}⟨b,⟨t,o,d_,c,e,g,hc,hd,ha⟩,qZ⟩=>by
  subst e;refine⟨⟨b,⟨t,o,d_,c,rfl,kp _ _ g hc,hc,hd,ha⟩,qZ⟩,?_⟩;show(match Heap.get? _ t with|some o=>(match o.data with|.seq d_ _=>allS d_.toList|_=>KM)|none=>KM)=(match h.get? t with|some o=>(match o.data with|.seq d_ _=>allS d_.toList|_=>KM)|none=>KM);rw[kp _ _ g hc,g]) (λ{h v}⟨b,⟨t,o,d_,c,e,g,hc,hd,ha⟩,_⟩=>⟨b,by
  subst e;show(match h.get? t with|some o=>(match o.data with|.seq d_ _=>allS d_.toList|_=>KM)|none=>KM)=KF b;rw[g];dsimp only;rw[hd];exact ha⟩) (λi f q=>z8o i (λv h=>let ⟨b,k1,k2⟩:=f v h;⟨b,k1,k2 i⟩) q) j f k λd l m=>q d l (m.imp λ{x y}h=>of_decide_eq_false (show decide (keyT s.heap y<keyT s.heap x)=qj from h))
def TupS.mono(k:∀b o,h.get? b=KF o->h'.get? b=KF o)(x:TupS h v ks):TupS h' v ks/\keyT h' v=keyT h v:=by obtain⟨t,o,a,c,rfl,g,e,f,i⟩:=x;have d:=k t o g;refine⟨⟨t,o,a,c,rfl,d,e,f,i⟩,?_⟩;show((match h'.get? t with|some o=>(match o.data with|.seq a _=>allS a.toList|_=>KM)|none=>KM):Option _).getD []=((match h.get? t with|some o=>(match o.data with|.seq a _=>allS a.toList|_=>KM)|none=>KM):Option _).getD [];rw[d,g]
def sorted_tups(u:s.heap.IsList l vs.toArray)(g:∀v∈vs,∃c,TupS s.heap v c/\(2<=vs.length->c≠[]))(i:vs.length<=4000000)
  (h:∀a:Array ae,a.toList.Perm vs->a.toList.Pairwise (λx y=>¬ keyT s.heap y<keyT s.heap x)->Q (.ref (s.heap.objs.size+1)) { heap:=sortedAll s.heap vs a,gens:=s.gens,drawn:=s.drawn,toks:=s.toks,os:=s.os }):ar (av prog w) A (call (.builtin "sorted") [.ref l]) Q E s:=by
 have j:vs.length<=q9:=aF i 's';refine gK mF lW lX (lY _) ?_;unfold fx.«sorted»;refine aa (m:=checkCount "sorted" 1 1 _) (ao ?_);refine aa (collect_list u (aa (gu ?_ j)) j);have k:∀b o,s.heap.get? b=KF o->(((s.heap.push (seqObj "list" #[] 0)).update s.heap.objs.size (bt λx=>x++vs.toArray)).push (seqObj "list" vs.toArray 0)).get? b=KF o:=λb o e=>by
  have z:s.heap.objs.size≠b:=λq=>absurd (aI e) (by rw[<- q];exact bU _);exact aj _ ((bA _ _ z).trans (aj _ e))
 have n:(((s.heap.push (seqObj "list" #[] 0)).update s.heap.objs.size (bt λx=>x++vs.toArray)).push (seqObj "list" vs.toArray 0)).get? ((s.heap.push (seqObj "list" #[] 0)).update s.heap.objs.size (bt λx=>x++vs.toArray)).objs.size=KF (seqObj "list" vs.toArray 0):=aN _ rfl;have B:((s.heap.push (seqObj "list" #[] 0)).update s.heap.objs.size (bt λx=>x++vs.toArray)).objs.size=s.heap.objs.size+1:=by rw[fA,cD]
 refine aa (bI (cF kP ⟨_,n,rfl⟩ j4 (z5Y n (λv d=>by
  obtain⟨c,f,p⟩:=g v d;exact⟨c,(f.mono k).1,p⟩) i λa r C=>⟨_,rfl,?_⟩) (kQ _)))
 refine ao ⟨_,rfl,?_⟩;have t:∀v∈a.toList,keyT (((s.heap.push (seqObj "list" #[] 0)).update s.heap.objs.size (bt λx=>x++vs.toArray)).push (seqObj "list" vs.toArray 0)) v=keyT s.heap v:=λv d=>by
  obtain⟨c,f,p⟩:=g v (r.mem_iff.mp d);exact(f.mono k).2
 have D:a.toList.Pairwise (λx y=>¬ keyT s.heap y<keyT s.heap x):=by
  refine gX ?_ C;intro x y F G H;rw[<- t x F,<- t y G];exact H
 have:=h a r D;unfold sortedAll at this;rw[<- B] at this;exact this
abbrev K3:Type:=Int×Int×j_
noncomputable def lt3(p q:K3):Bool:=decide (p.1<q.1)||(decide (p.1=q.1)&&(decide (p.2.1<q.2.1)||(decide (p.2.1=q.2.1)&&decide (p.2.2<q.2.2))))
def lt3_iff{p q:K3}:lt3 p q=qb↔p.1<q.1\/(p.1=q.1/\(p.2.1<q.2.1\/(p.2.1=q.2.1/\p.2.2<q.2.2))):=by unfold lt3;simp only[gH,bi,decide_eq_true_eq]
def lt3_irr(p:K3):lt3 p p=qj:=by
 cases h:lt3 p p with
 |false=>rfl
 | true=>
  rcases lt3_iff.mp h with z|⟨_,z|⟨_,z⟩⟩
  ·lia
  ·lia
  ·exact absurd z (llt_irrefl _)
def lt3_tr{p q r:K3}(a:lt3 p q=qb)(b:lt3 q r=qb):lt3 p r=qb:=by
 rw[lt3_iff] at *;rcases a with a|⟨c,a|⟨d,a⟩⟩<;>rcases b with b|⟨e,b|⟨f,b⟩⟩
 all_goals first|(left;lia)|(right;refine⟨by lia,?_⟩;first|(left;lia)|(right;exact⟨by lia,llt_trans a b⟩))
def lt3_tot{p q:K3}(m:lt3 p q=qj)(n:lt3 q p=qj):p=q:=by
 have j:¬ (lt3 p q=qb):=by rw[m];decide
 have k:¬ (lt3 q p=qb):=by rw[n];decide
 rw[lt3_iff] at j k;have g:p.1=q.1:=by lia
 have i:p.2.1=q.2.1:=by lia
 have l:p.2.2=q.2.2:=llt_total (λh=>j (.inr ⟨g,.inr ⟨i,h⟩⟩)) (λh=>k (.inr ⟨g.symm,.inr ⟨i.symm,h⟩⟩));obtain⟨a,b,c⟩:=p;obtain⟨d,e,f⟩:=q;dsimp only at g i l;rw[g,i,l]
def AR(h:aL):ae->Option j_
 | .ref t=>match h.get? t with
  |some o=>if (o.cls == .type "tuple")=qb then Af h (.ref t) else KM
  |none=>KM
 |_=>KM
def OK(h:aL):List ae->Option K3
 |[.int i _,.int j _,w]=>(AR h w).map λks=>(i,j,ks)
 |_=>KM
def tripAt(h:aL):ae->Option K3
 | .ref t=>match h.get? t with
  | some o=>match o.data with
   |.seq d_ _=>OK h d_.toList
   |_=>KM
  |none=>KM
 |_=>KM
def Hm(h:aL):aQ where
 α:=K3
 blt:=lt3
 irrefl:=lt3_irr
 trans:=λa b c h1 h2=>lt3_tr h1 h2
 negTrans:=λa b c h=>by
  cases h1:lt3 a b with
  |true=>exact .inl rfl
  | false=>
   right;cases h2:lt3 b a with
   |true=>exact lt3_tr h2 h
   |false=>rw[<- lt3_tot h1 h2];exact h
 total:=λa b h1 h2=>lt3_tot h1 h2
 keyOf:=tripAt h
 dflt:=(0,0,[])
structure Trip(h:aL)(v:ae)(k:K3):Prop where
 ok:∃t o c x y b,v=.ref t/\h.get? t=KF o/\o.cls=.type "tuple"/\o.data=.seq #[.int k.1 x,.int k.2.1 y,.ref b] c/\TupS h (.ref b) k.2.2
def TupS.at_{h:aL}{v:ae}{a:j_}(x:TupS h v a):Af h v=KF a:=by obtain⟨t,o,e,c,rfl,g,f,b,d⟩:=x.ok;unfold Af;dsimp only;rw[g];dsimp only;rw[b];exact d
def TupS.c{h:aL}{v:ae}{a:j_}(x:TupS h v a):AR h v=KF a:=by have e:=x.at_;obtain⟨t,o,d,c,rfl,g,b,f,i⟩:=x.ok;unfold AR;dsimp only;rw[g];dsimp only;rw[b,qL (beq_self_eq_true _)];exact e
def Zt{h:aL}{v:ae}{a:j_}(e:AR h v=KF a):∃b,v=.ref b/\TupS h (.ref b) a:=by
 cases v with
 | ref t=>
  unfold AR at e;dsimp only at e;cases g:h.get? t with
  |none=>rw[g] at e;cases e
  | some o=>
   rw[g] at e;dsimp only at e;split at e
   ·rename_i f;obtain⟨l,m,i,c,r,d,j,k⟩:=JY e;cases r;rw[g] at d;cases d;exact⟨t,rfl,t,o,i,c,rfl,g,eq_of_beq f,j,k⟩
   ·cases e
 |_=>cases e
def Qt{h:aL}{v:ae}{k:K3}(e:tripAt h v=KF k):∃t o c x y b,v=.ref t/\h.get? t=KF o/\o.data=.seq #[.int k.1 x,.int k.2.1 y,.ref b] c/\TupS h (.ref b) k.2.2:=by
 cases v with
 | ref t=>
  unfold tripAt at e;dsimp only at e;cases g:h.get? t with
  |none=>rw[g] at e;cases e
  | some o=>
   rw[g] at e;dsimp only at e;cases a:o.data with
   | seq d_ c=>
    rw[a] at e;dsimp only at e;unfold OK at e;split at e
    ·rename_i i f j l m n;cases d:AR h m with
     |none=>rw[d] at e;cases e
     | some ks=>
      rw[d] at e;cases e;obtain⟨b,rfl,p⟩:=Zt d;refine⟨t,o,c,f,l,b,rfl,g,?_,p⟩;rw[a];congr 1;rw[<- iB,n]
    ·cases e
   |_=>rw[a] at e;cases e
 |_=>cases e
def Trip.at_{h:aL}{v:ae}{k:K3}(x:Trip h v k):tripAt h v=KF k:=by obtain⟨t,o,c,x,y,b,rfl,g,e,a,d⟩:=x.ok;unfold tripAt;dsimp only;rw[g];dsimp only;rw[a];show(AR h (.ref b)).map _=_;rw[d.c];rfl
def Trip.mono{h h':aL}(d:∀b o,h.get? b=KF o->o.cls=.type "tuple"->h'.get? b=KF o){v:ae}{k:K3}(x:Trip h v k):Trip h' v k:=by obtain⟨t,o,c,j,l,b,rfl,g,f,m,⟨n,p,q,r,e,s,i,a,u⟩⟩:=x.ok;exact⟨t,o,c,j,l,b,rfl,d _ _ g f,f,m,n,p,q,r,e,d _ _ s i,i,a,u⟩
end TS
namespace DL
open PySem
def byT(w:aR):Bool:=w.params.followText "set-order"
def V1(e:Int×ae):au:=match e.2 with
 |.str x _=>x
 |_=>⟨#[]⟩
def oJ(P:aD)(w:aR)(a:af)(ks:List au)(h:aL):Prop:=
 ∃o es ep t,h.get? a=KF o/\o.ExactSet/\o.data=.set es ep t/\ElemsOf (strKind P w) es.toList/\(es.toList.map V1).Perm ks/\ks.Nodup/\es.size<scanBound/\t.fits es.size=qb/\(byT w=qj->t.led=qb)/\(es.size≠0->t.plain=qj)
section
variable{P:aD}{w:aR}{a:af}{ks:List au}
def oJ.keep(k:∀o,h.get? a=KF o->h'.get? a=KF o):oJ P w a ks h->oJ P w a ks h':=λ⟨o,b,c,t,d,r⟩=>⟨o,b,c,t,k o d,r⟩
def oJ.size(x:oJ P w a ks h):∃o b c t,h.get? a=KF o/\o.data=.set b c t/\b.size=ks.length:=by obtain⟨o,b,c,t,d,g,e,i,f,_⟩:=x;exact⟨o,b,c,t,d,e,by rw[<- f.length_eq];simp⟩
end
section
end
section
abbrev PvS(os:List au):Nat->ae->Prop:=λi v=>∃tk:Tok,v=.str (os.getD i ⟨#[]⟩) tk
end
section
variable{P:aD}{w:aR}{s:ag}{a:af}{ks:List au}
structure ItX(P:aD)(w:aR)(a:af)(ks:List au)(s:ag)(I:af)(s1:ag):Prop where
 ex:∃(os:List au)(fp:List af)(St:Nat->aL->Prop),os.Perm ks/\I∈fp/\(∀b∈fp,b<s1.heap.objs.size)/\(∀b∈fp,b=a\/s.heap.objs.size<=b)/\(∀B:aU,B.handled=KM->Walks P w B I fp [I] os.length (PvS os) St)/\St 0 s1.heap
 keep:∀b o,s.heap.get? b=KF o->s1.heap.get? b=KF o
 ty:∃ob,s1.heap.get? I=KF ob/\ob.cls=.type "set_iterator"
 new:s.heap.objs.size<=I
 gens:s1.gens=s.gens
 os:s1.os=s.os
end
end DL
namespace DL
open PySem PyProof.Rows
section
end
end DL
namespace DL
open PySem L2 PyProof.Rows
def uW(x:l_):j_->j_
 |[]=>[x]
 |y::r=>if x<y then x::y::r else if x=y then y::r else y::uW x r
def qO(ss:j_):j_:=ss.foldl (λl x=>uW x l) []
theorem oG:∀{l:j_},y∈uW x l↔y=x\/y∈l
 |[]=>by simp[uW]
 | z::r=>by
  unfold uW;split
  ·simp
  ·split
   ·rename_i h;subst h;simp
   ·rw[aq,oG,aq];exact⟨λh=>by rcases h with h|h|h<;>simp[h],λh=>by rcases h with h|h|h<;>simp[h]⟩
theorem RJ:∀{l:j_},l.Pairwise (· < ·)->(uW x l).Pairwise (· < ·)
 |[],_=>by simp[uW]
 | z::r,h=>by
  obtain⟨b,c⟩:=bb.mp h;unfold uW;split
  ·rename_i a;exact bb.mpr ⟨λy hy=>by
    rcases aq.mp hy with rfl|hy
    ·exact a
    ·exact iw a (b y hy),h⟩
  ·rename_i a;split
   ·exact h
   ·rename_i d;refine bb.mpr ⟨λy hy=>?_,RJ c⟩;rcases oG.mp hy with rfl|hy
    ·exact jH λq=>d (jR (ik.mp q) (ik.mp a))
    ·exact b y hy
def An(a:j_):y∈qO a↔y∈a:=by
 have:∀(a l:j_),y∈a.foldl (λl x=>uW x l) l↔y∈l\/y∈a:=by
  intro a
  induction a with
  |nil=>intro l;simp
  |cons x a ih=>intro l;rw[fO,ih,oG,aq];exact⟨λh=>by rcases h with(h|h)|h<;>simp[h],λh=>by rcases h with h|h|h<;>simp[h]⟩
 rw[qO,this];simp
def Eg(a:j_):(qO a).Pairwise (· < ·):=by
 have:∀(a l:j_),l.Pairwise (· < ·)->(a.foldl (λl x=>uW x l) l).Pairwise (· < ·):=by
  intro a
  induction a with
  |nil=>intro l h;exact h
  |cons x a ih=>intro l h;exact ih _ (RJ h)
 exact this a [] dM
theorem Hq:∀{l m:j_},l.Pairwise (· < ·)->m.Pairwise (· < ·)->(∀x,x∈l↔x∈m)->l=m
 |[],[],_,_,_=>rfl
 |[],y::m,_,_,h=>absurd ((h y).mpr am) 'd'
 |x::l,[],_,_,h=>absurd ((h x).mp am) 'd'
 | x::l,y::m,hl,hm,h=>by
  obtain⟨c,f⟩:=bb.mp hl;obtain⟨d,g⟩:=bb.mp hm;have b:x=y:=by
   rcases aq.mp ((h x).mp am) with e|e
   ·exact e
   ·rcases aq.mp ((h y).mpr am) with e'|e'
    ·exact e'.symm
    ·exact absurd (iw (d x e) (c y e')) (gd _)
  subst b;rw[Hq f g λz=>⟨λa=>by
    rcases aq.mp ((h z).mp (ak _ a)) with e|e
    ·subst e;exact absurd (c z a) (gd _)
    ·exact e,λa=>by
    rcases aq.mp ((h z).mpr (ak _ a)) with e|e
    ·subst e;exact absurd (d z a) (gd _)
    ·exact e⟩]
abbrev toS(cs:l_):au:=⟨cs.toArray⟩
theorem SQ:∀(p:au)(l:List au),risingS p l=qb->(p::l).Nodup->((p::l).map (·.cps.toList)).Pairwise (· < ·)
 |p,[],_,_=>by simp
 | p,x::r,h,nd=>by
  unfold risingS at h;rw[bi,fW,ltCps_eq,decide_eq_false_iff_not] at h;obtain⟨c,d⟩:=bq.mp nd;have a:=SQ x r h.2 d;have b:=jH λq=>c (by
   have:=jR (ik.mp h.1) (ik.mp q);have e:p=x:=by
    obtain⟨f⟩:=p;obtain⟨g⟩:=x;rw[show f=g from iB.mp this]
   rw[e];exact am)
  refine bb.mpr ⟨λy hy=>?_,a⟩;rcases aq.mp hy with rfl|hy
  ·exact b
  ·exact iw b ((bb.mp a).1 y hy)
def oJ.nd(x:oJ P w a ks h):ks.Nodup:=by obtain⟨_,_,_,_,_,_,_,_,_,b,_⟩:=x;exact b
section
variable{t:DA}
theorem S0:∀{vs:List ae}{a:List au},kS vs a->nY (a.map V.str) vs
 |_,_,.nil=>.nil
 |_,_,.cons y t h=>.cons ⟨t,rfl⟩ (S0 h)
end
section
theorem S9{K:ai}{H:Hp}{XV μ:List af}:∀a:j_,nW K H XV μ (a.map D.str) (a.map λcs=>V.str (toS cs))
 |[]=>.nil
 |cs::r=>.cons Kf (S9 r)
def NF(o:Bool)(r:R (List D)):R D:=r.bnd λKB O1=>match ux KB with
 |some ss=>if ss.length<1000 then (if o=qb then .ok (.own O1.length) (O1++[(qO ss).map .str]) else .ok (.lst ((qO ss).map .str)) O1) else .bad
 |none=>.bad
theorem strL_map:∀a:j_,ux (a.map D.str)=KF a
 |[]=>rfl
 |cs::r=>by show(ux (r.map D.str)).map _=_;rw[strL_map r];rfl
end
section
variable{t:DA}
def Ol(o:Bool)(t:DA):DE:=λσ O=>(t σ O).bnd λxs O1=>match xs with
 | [x]=>match (match sR O1 x with|some ds=>KF ds|none=>Av x) with
  |some ds=>NF o (.ok ds O1)
  |none=>.bad
 |_=>.bad
end
end DL
namespace DL
open PySem L2
structure Nx(l:List au):Prop
section
variable{X:Cx}{Ex:Nat->Hp->Prop}{elt tg iter:aO}{ifs:List aO}{gs:List bJ}{scope:bS}{pos sD py:Pos}{x y:au}{i k:Nat}{ext:List au}{it0:DI}{g:Tg}{ts:List DT}{cs:List Cl}{te:DE}
abbrev GG(X:Cx)(ext:List au)(scope:bS)(tg:aO)(g:Tg)(ifs:List aO)(ts:List DT)(gs:List bJ)(cs:List Cl)(elt:aO)(te:DE):Prop:=∀cells C s H fp,PG (ql X (X.N++ext) scope cells C s H fp) tg (g.rd X.K)/\cj (λe t=>qQ (ql X (X.N++ext) scope cells C s H fp) p_ e t) ifs ts/\oo (ql X (X.N++ext) scope cells C s H fp) gs cs/\PD (ql X (X.N++ext) scope cells C s H fp) p_ elt te
def ze5(_:Nx ext)(o:Bool)(a:X.calm=qb)(b:xJ X.env.scope scope (X.N++ext) (p9 (⟨it0,g,ts⟩::cs)))(c:s_ X Ex tg iter it0)(d:GG X ext scope tg g ifs ts gs cs elt te)(e:ext.length=k:=by rfl)(f:∀x,bT iter X.env x=pure x:=by intro _;rfl):
  PD X Ex (.ListComp elt (⟨tg,iter,ifs,0⟩::gs) scope pos) (pK o k it0 g ts cs te):=e▸ZQ o ext a c b d f
def z7e(_:Nx ext)(o:Bool)(a:X.calm=qb)(b:X.N.Nodup)(c:X.N[i]?=KF y)(d:X.env.scope.names.lookup y=KF .local)(e:xJ X.env.scope scope (X.N++ext) (p9 (⟨it0,g,ts⟩::cs)))(f:s_ X Ex tg iter it0)(h:GG X ext scope tg g ifs ts gs cs elt te)
  (j:swapsWith (.ListComp elt (⟨tg,iter,ifs,0⟩::gs) scope pos) (KF (.Name y py)) sD.line X.env=pure qb) (l:ext.length=k:=by rfl) (m:∀x,bT iter X.env x=pure x:=by intro _;rfl):
  tX X Ex (.Assign [.Name y py] (.ListComp elt (⟨tg,iter,ifs,0⟩::gs) scope pos) sD) (pS i (pK o k it0 g ts cs te)):=l▸z7W o ext a b c d f e h j m
end
noncomputable def vD(c:DT)(b:DS):Nat->Sg->Ow->RS
 |0,_,_=>.bad
 | f+1,σ,O=>(c σ O).bnS λk O1=>if k=qb then (match b σ O1 with
   |.nx σ' O'=>vD c b f σ' O'
   |.ct σ' O'=>vD c b f σ' O'
   |.bk σ' O'=>.nx σ' O'
   |r=>r) else .nx σ O1
def JT(f:Nat)(c:DT)(b:DS):DS:=vD c b f
section
variable{X:Cx}{Ex:Nat->Hp->Prop}{pos:Pos}
def zcR(f:Nat)(y:ji (av X.prog X.w) X.A X.env X.xe)(B:qQ X Ex c tc)(C:rn X Ex body tb):tX X Ex (.While c body [] pos) (JT f tc tb):=
 yG (ze7 y B.out C.out) λa g b O E h H j l q=>by
  refine⟨λm h H=>∃a g b O,nX X.K H a g b h/\nV X.K H a g O/\n6 Ex X.K H a g (vD tc tb m b O) E,⟨f,a,g,b,O,j,l,q⟩,?_⟩;rintro m h H ⟨a,g,b,O,j,l,q⟩;cases m with
  |zero=>exact ah q
  | succ f=>
   refine xF.goS j l q λk n t o u G v p=>?_;cases k with
   |false=>exact p h t o .refl u v
   | true=>
    rw[qL rfl];refine⟨λh H=>∃a g b O,nX X.K H a g b h/\nV X.K H a g O/\n6 Ex X.K H a g (vD tc tb f b O) E,λ_ _ z=>⟨f,eN _,z⟩,a,o,b,n,u,v,?_⟩;have p:n6 Ex X.K t a o (match tb b n with|.nx σ' O'=>vD tc tb f σ' O'|.ct σ' O'=>vD tc tb f σ' O'|.bk σ' O'=>.nx σ' O'|r=>r) E:=p;cases i:tb b n with
    |nx σ' O'=>rw[i] at p;exact λD F s x e c=>⟨a,s,σ',O',e,c,n6.ext p x⟩
    |ct σ' O'=>rw[i] at p;exact λD F s x e c=>⟨a,s,σ',O',e,c,n6.ext p x⟩
    |bk σ' O'=>rw[i] at p;exact p
    |rt d O'=>rw[i] at p;exact p
    |exc c' O'=>rw[i] at p;exact p
    |bad=>rw[i] at p;exact p
end
end DL
namespace DL
open PySem L2 PyProof.Rows
abbrev DK:=Sum Int l_
noncomputable def vW:D->Option DK
 |.int i=>KF (.inl i)
 |.str cs=>KF (.inr cs)
 |_=>KM
def Cj(k:DK):D->Bool
 |.map [j] _=>decide (j=k)
 |_=>qj
def Dd:List D->List DK
 |.map [k] _::r=>k::Dd r
 |_=>[]
def De:List D->List D
 |.map _ [d]::r=>d::De r
 |_=>[]
def su(p:DK×D):D:=.map [p.1] [p.2]
theorem Ks:∀a:List (DK×D),Dd (a.map su)=a.map (·.1)
 |[]=>rfl
 |p::r=>by show p.1::Dd (r.map su)=_;rw[Ks r];rfl
theorem Kc:∀a:List (DK×D),De (a.map su)=a.map (·.2)
 |[]=>rfl
 |p::r=>by show p.2::De (r.map su)=_;rw[Kc r];rfl
def G2:∀{a b:DK},kD a=kD b->a=b
 |.inl i,.inl j,h=>by cases h;rfl
 | .inr x,.inr y,h=>by
  have h:=je h;have:x=y:=⇑h
  rw[this]
 |.inl _,.inr _,h=>by cases h
 |.inr _,.inl _,h=>by cases h
def B6(tk tv:DE):Em:=λσ O KB=>(tk σ O).bnd λx O1=>match vW x with
 |some k=>(tv σ O1).bnd λd O2=>if KB.length<1000/\KB.any (Cj k)=qj then .ok (KB++[.map [k] [d]]) O2 else .bad
 |none=>.bad
def Cs(ke ve:aO):vA where
 ex:=λgens scope pos=>.DictComp ke ve gens scope pos
 emit:=λKB env=>do
  let kv <- eval ke env;let vv <- holding [kv] (eval ve env)
  match KB with
  | .ref d=>do
   standAt { ke.pos with endLine:=ve.pos.endLine,endCol:=ve.pos.endCol }
   holding [kv,vv] (dictSet d kv vv)
  |_=>unsupported "internal:dictcomp"
 new:=newDict
 ho:=λ_ _ _=>.dK []
 G:=λK _ _ A XV H μ KB=>∃(ps:List (DK×D))(vs:List V),KB=ps.map su/\H A=KF (.dK ((ps.map λp=>kD p.1).zip vs))/\ps.length=vs.length/\nW K H (A::XV) μ (ps.map (·.2)) vs
def zdQ(j l:aO):Bd (Cs j l) where
 cl:=λ_ _ _=>rfl
 turn:=λc b f k o g i z m p n d=>by
  show compTurn (.DictComp j l c b f) k o g i=_;unfold compTurn A7;rcases d with d|⟨A,B,C,d⟩
  ·simp only[n,d];rfl
  ·simp only[n,d,bne_self_eq_false,dR,if_false,bind_assoc,pure_bind]
   first|rfl|congr 1
 keep:=λ⟨q,r,e,s,t,u⟩ v x=>⟨q,r,e,x.keep _ _ s v,t,u.ext x⟩
 new:=λh=>dL (h _ rfl λH h a w e=>by
  refine⟨ck _,beq_eq_false_iff_ne.mpr (bB (bu w)),[],.nil,?_⟩;exact⟨_,#[],0,e,⟨rfl,rfl,rfl⟩,rfl,λ_ y=>by simp at y,Pairs.nil,f8⟩)
 g0:=⟨[],[],rfl,qS,rfl,.nil⟩
 q1:=λ_ _ _ _ _ _ _=>rfl
 u1:=λ_ _ _ _ _ _ _ _=>rfl
 d1:=λ_ _ _ _ _ _ _ _ _=>rfl
 u2:=λ_ _ _ _ _ _ _ _=>rfl
 d2:=λ_ _ _ _ _ _ _ _ _=>rfl
def zc(f:H A=KF (.dK i_)):∀P2,oi H P2->oi (upd H A o) P2:=by
 rintro P2 ⟨g,a,h,i⟩;have j:P2≠A:=by rintro rfl;rw[f] at a;cases a
 refine⟨g,by rw[pj j];exact a,h,λb k e=>?_⟩;obtain⟨c,l,rfl,d,m⟩:=i b k e;have n:c≠A:=by rintro rfl;rw[f] at d;cases d
 exact⟨c,l,rfl,by rw[pj n];exact d,m⟩
theorem Sd:∀(ps:List (DK×D))(vs:List V),(ps.map su).any (Cj k)=qj->tw ((ps.map λp=>kD p.1).zip vs) (kD k)=KM
 |[],_,_=>rfl
 |_::_,[],_=>rfl
 | p::r,v::vs,h=>by
  rw[bz,fD,Bool.or_eq_false_iff] at h;obtain⟨a,b⟩:=h;have n:¬ p.1=k:=λe=>by
   have:decide (p.1=k)=qj:=a;rw[decide_eq_true e] at this;cases this
  show tw ((kD p.1,v)::(r.map λp=>kD p.1).zip vs) (kD k)=KM;rw[CT (λe=>n (G2 e))];exact Sd r vs b
def JH{K:ai}{H:Hp}{XV μ:List af}{x:D}{k:DK}{v:V}(e:vW x=KF k)(h:Y2 K H XV μ x v):v=kV (kD k):=by
 cases x with
 |int i=>cases e;unfold Y2 at h;exact h
 |str cs=>cases e;unfold Y2 at h;exact h
 |_=>cases e
section
variable{X:Cx}{A:af}{XV:List af}{ke ve:aO}{gens:List bJ}{tk tv:DE}
def zbc{Z:L2.St->Hp->List af->Prop}{k:Nat}{e:aO}(V:X.xe=λ_ _=>False)(L:PD X p_ ke tk)(M:PD X p_ ve tv)(hk:gens[k]?=KM):zq X Z (Cs ke ve) A XV e gens (B6 tk tv) k []:=by
 intro a s i H j l O KB Q E _ B q;unfold A7;rw[hk];show ar _ _ (do
  let kv <- eval ke X.env;let vv <- holding [kv] (eval ve X.env)
  (do
   standAt { ke.pos with endLine:=ve.pos.endLine,endCol:=ve.pos.endCol }
   holding [kv,vv] (dictSet A kv vv))) _ _ s
 obtain⟨b,C,rfl,hA,N,dA⟩:=B.grown;unfold uz B6 at q;cases D:tk l O with
 |exc c O1=>rw[D] at q;exact q.elim
 |bad=>rw[D] at q;exact q.elim
 | ok x O1=>
  rw[D] at q;have f:yH X (Cs ke ve) A XV a i H j (p9 []) (match vW x with
   |some k=>(tv l O1).bnd λd n=>if (b.map su).length<1000/\(b.map su).any (Cj k)=qj then .ok (b.map su++[.map [k] [d]]) n else .bad
   |none=>.bad) Q:=q
  cases P:vW x with
  |none=>rw[P] at f;exact f.elim
  | some kk=>
   rw[P] at f;refine aa (Aq V (L.out a s i H (λv g=>∃h,Ext H j g h/\nV X.K g (A::XV) h O1/\Y2 X.K g (A::XV) h x v) B.inv ⟨A::XV,j,l,O,B.env,B.cells,by rw[D];exact λv H' R x c r=>⟨R,x,c,r⟩⟩)
    λu s1 ⟨v,g,I1,ru,h,W,c1,r1⟩=>?_)
   cases F:tv l O1 with
   |exc c n=>rw[F] at f;exact f.elim
   |bad=>rw[F] at f;exact f.elim
   | ok d n=>
    rw[F] at f;have G:yH X (Cs ke ve) A XV a i H j (p9 []) (if (b.map su).length<1000/\(b.map su).any (Cj kk)=qj then .ok (b.map su++[.map [kk] [d]]) n else .bad) Q:=f;by_cases I:(b.map su).length<1000/\(b.map su).any (Cj kk)=qj
    ·rw[qL I] at G;refine aa (bI (Aq V (M.out a s1 i g (λv J=>∃o,Ext g h J o/\nV X.K J (A::XV) o n/\Y2 X.K J (A::XV) o d v) I1 ⟨A::XV,h,l,O1,B.env.ext W,c1,by rw[F];exact λv H' R x c r=>⟨R,x,c,r⟩⟩)
      λu2 s2 ⟨Y,J,I2,LN,o,x2,c2,r2⟩=>?_))
     refine aa (fg (bI ?_));have nA:A∉j:=λm=>B.cells.nh A m 'd';have S:=W.trans x2;have t:=S.keep A _ hA nA;have T:=dA.ext S;have ek:=JH P r1;subst ek;obtain⟨z,hd,ws,w,dd⟩:=GC I2.hok t;have y:((b.map λp=>kD p.1).zip C).length=b.length:=by rw[mX,ax,<- N,Nat.min_self]
     have U:b.length<1000:=by have:=I.1;rwa [ax] at this
     have hz:ws.length<=q9:=by rw[<- w.length];exact z
     refine wpAny_dictSet_pairs (CA ru) dd λh' yT sb=>?_;have he:∃q,h'.get? A=KF q:=let ⟨q,_,_,hq,_⟩:=yT;⟨q,hq⟩;have sF:(xR ((b.map λp=>kD p.1).zip C) (kD kk) Y).length<=q9:=aF (TX _ _ _) (by rw[y];exact aF U 's');have I3:=Kr (t':=s2.toks+1) I2 (by rw[t];exact eE) sb he (GR sF hd (w.put _ LN) yT);rw[zea _ (Sd b C I.2)] at I3;refine G _ i _ o I3 (S.ea.trans (.putX (zc t))) (c2.putX (zc t)) ⟨b++[(kk,d)],C++[Y],by rw[dq];rfl,?_,by simp[N],?_⟩ rfl λ_ _=>rfl
     ·rw[qS,dq,List.zip_append (by rw[ax];exact N)];rfl
     ·rw[dq];exact(T.append (.cons r2 .nil)).mv (Ea.putX (zc t)).mv
    ·rw[q0 I] at G;exact G.elim
end
def Inv.swapK(I:L2.Inv X Y1 σ H s)(e:H a=KF u0)(h:(∃i,u0=.dK i) \/ ∃o i,u0=.frz o (.dK i))(r:∀o u,X.H₀ a≠KF (.frz o u))(j:on X.prog X.w (upd H a u1) s.heap a u1):L2.Inv X Y1 σ (upd H a u1) s:=by
 have k:∀{b:af}{d:List V},H b=KF (.tup d)->b≠a:=λ{b d}z q=>by
  rw[q,e] at z;rcases h with⟨_,rfl⟩|⟨_,_,rfl⟩<;>cases z
 have f:∀{b:af},H b=KM->upd H a u1 b=KM:=λ{b}z=>by rw[pj (bB (rD e z))];exact z
 refine⟨I.ok,I.os,I.bare,⟨I.base.keep,I.base.slot,λb o g n t=>f (I.base.free b o g n t),I.base.there,λb d g=>?_,λb o u g=>?_,λb v g=>?_⟩,I.loc,I.cell,f I.free,λx c g=>f (I.freeC x c g),λp y=>let ⟨g1,g2,g3⟩:=I.pin p y;⟨g1,f g2,g3⟩,λb u g=>?_,I.len,I.tk⟩
 ·have z:=I.base.tups b d g;rw[pj (k z)];exact z
 ·have n:b≠a:=λq=>r o u (q▸g);rw[pj n];exact I.base.frzs b o u g
 ·obtain⟨m,z⟩:=I.base.tbls b v g;refine⟨m,?_⟩;rw[pj (λq=>?_)];exact z;rw[q,e] at z;rcases h with⟨_,rfl⟩|⟨_,_,rfl⟩<;>cases z
 ·by_cases l:b=a
  ·subst l;rw[qS] at g;cases g;exact j
  ·rw[pj l] at g;refine(I.hok b u g).stay (λ_ _ _ z=>z) (λA z=>?_) λA d z=>?_
   ·rw[pj (λq=>?_)];exact z;rw[q,e] at z;rcases h with⟨_,rfl⟩|⟨_,_,rfl⟩<;>cases z
   ·rw[pj (k z)];exact z
def Inv.nofrz(I:L2.Inv X Y1 σ H s)(e:H a=KF (.dK i_)):∀o u,X.H₀ a≠KF (.frz o u):=λo u z=>by
 have:=I.base.frzs a o u z;rw[e] at this;cases this
def Inv.frzK(I:L2.Inv X Y1 σ H s)(e:H a=KF (.dK i_)):∃o,L2.Inv X Y1 σ (upd H a (.frz o (.dK i_))) s:=by obtain⟨z,d,f,b,c⟩:=GC I.hok e;obtain⟨o,h,i,g,r⟩:=id c;exact⟨o,Inv.swapK I e (.inl ⟨_,rfl⟩) (Inv.nofrz I e) ⟨g,z,d,f,b,c⟩⟩
def Inv.thawK(I:L2.Inv X Y1 σ H s)(e:H a=KF (.frz o (.dK i_)))(c:∀o u,X.H₀ a≠KF (.frz o u)):L2.Inv X Y1 σ (upd H a (.dK i_)) s:=by obtain⟨z,d,f,b,g⟩:=Cz I.hok (.inr ⟨o,e⟩);exact Inv.swapK I e (.inr ⟨_,_,rfl⟩) c ⟨z,d,f,b,g⟩
def z8b{K:ai}{H:Hp}{XV μ:List af}{O:Ow}{L:af}{a:List (DK×D)}{vs:List V}{o:Obj}(c:nV K H (L::XV) μ O)(b:L∉XV)(h:H L=KF (.frz o (.dK ((a.map λp=>kD p.1).zip vs))))(d:a.length=vs.length)(q:nW K H (L::XV) μ (a.map (·.2)) vs):
  Y2 K H XV μ (.map (Dd (a.map su)) (De (a.map su))) (.ref L):=by rw[Ks,Kc];exact⟨L,vs,rfl,⟨o,by rw[bH];exact h⟩,b,λm=>c.nh L m 'd',by rw[ax];exact d,q.mv .unhide⟩
def Bc(ext:Nat)(it0:DI)(g:Tg)(ts:List DT)(cs:List Cl)(tk tv:DE):DE:=λσ O=>(Bj ext it0 g ts cs (B6 tk tv) σ O).bnd λKB O1=>.ok (.map (Dd KB) (De KB)) O1
section
variable{X:Cx}{Ex:Nat->Hp->Prop}
def V6{h i d a:aO}{b:List aO}{f:List bJ}{scope:bS}{pos:Pos}{ext:List au}{g:Tg}{ts:List DT}{cs:List Cl}{tk tv:DE}
  (j:∀cells C s H c,PG (ql X (X.N++ext) scope cells C s H c) d (g.rd X.K)/\cj (λe t=>qQ (ql X (X.N++ext) scope cells C s H c) p_ e t) b ts/\oo (ql X (X.N++ext) scope cells C s H c) f cs/\PD (ql X (X.N++ext) scope cells C s H c) p_ h tk/\PD (ql X (X.N++ext) scope cells C s H c) p_ i tv) {Z:af->Hp->L2.St->Hp->List af->Prop} (cells Cn s H c):
  PG (ql X (X.N++ext) scope cells Cn s H c) d (g.rd X.K)/\cj (λe t=>qQ (ql X (X.N++ext) scope cells Cn s H c) p_ e t) b ts/\oo (ql X (X.N++ext) scope cells Cn s H c) f cs/\∀A XV k,(⟨d,a,b,0⟩::f:List bJ)[k]?=KM->zq (ql X (X.N++ext) scope cells Cn s H c) (Z A H) (Cs h i) A XV ((Cs h i).ex (⟨d,a,b,0⟩::f) scope pos) (⟨d,a,b,0⟩::f) (B6 tk tv) k []:=
 let ⟨h1,h2,h3,h4,h5⟩:=j cells Cn s H c
 ⟨h1,h2,h3,λ_ _ _ l=>zbc rfl h4 h5 l⟩
def zel(ext:List au)(B:X.calm=qb)(D:s_ X Ex tg iter it0)(E:xJ X.env.scope scope (X.N++ext) (p9 (⟨it0,g,ts⟩::cs)))
  (F:∀cells C s H a,PG (ql X (X.N++ext) scope cells C s H a) tg (g.rd X.K)/\cj (λe t=>qQ (ql X (X.N++ext) scope cells C s H a) p_ e t) ifs ts/\oo (ql X (X.N++ext) scope cells C s H a) gs cs/\PD (ql X (X.N++ext) scope cells C s H a) p_ ke tk/\PD (ql X (X.N++ext) scope cells C s H a) p_ ve tv)
  (G:∀x,bT iter X.env x=pure x:=by intro _;rfl):PD X Ex (.DictComp ke ve (⟨tg,iter,ifs,0⟩::gs) scope pos) (Bc ext.length it0 g ts cs tk tv):=by
 refine⟨?_⟩;rintro j s a_ H Q I ⟨f,μ,M,O,P,k,q⟩;show ar _ _ (comprehension (.DictComp ke ve (⟨tg,iter,ifs,0⟩::gs) scope pos) scope X.env _ newDict qj (eval iter X.env)) _ _ s;unfold Bc at q;refine Ht (zdQ ke ve) (use:=KM) B D E (λcells R s H a _ _ _=>V6 F cells R s H a) G I P k ?_;cases h:Bj ext.length it0 g ts cs (B6 tk tv) M O with
 |bad=>rw[h] at q;exact q
 |exc c' O'=>rw[h] at q;exact q
 | ok KB O'=>
  rw[h] at q;rintro L l r v x c ⟨w,y,rfl,i,S,T⟩ s' C U V W Y Z ce pn;obtain⟨m,hn⟩:=V;have n1:L∉f:=λm=>k.ht L m v;refine⟨m,hn,λh' BG=>?_⟩;obtain⟨o,J⟩:=Inv.frzK (Inv.bare U BG W Y Z ce pn) i;have z:Ea L l r (upd l L (.frz o (.dK ((w.map λp=>kD p.1).zip y)))) r:=.putX (zc i);have A:=c.putX (o:=.frz o (.dK ((w.map λp=>kD p.1).zip y))) (zc i);have d:=x.ea.trans z;exact⟨.ref L,_,J,rfl,post.ok q ⟨d.pre,λb u g n ht=>d.kept b u g n (rD g v) ht,d.fresh,d.there,d.tab⟩ A.unhide (z8b A n1 qS S (T.mv z.mv))⟩
end
def zfW{b:j_}{a:List au}(d:a.Perm (b.map toS))(f:b.Nodup)(g:sortedS a=qb):a=(qO b).map toS:=by
 have i:(b.map toS).Nodup:=by
  rw[List.nodup_iff_pairwise_ne] at f ⊢;rw[ee];refine f.imp λh e=>h ?_;have e:(toS _).cps=(toS _).cps:=congrArg Str.cps e;simpa using e
 have j:(a.map (·.cps.toList)).Pairwise (· < ·):=by
  cases a with
  |nil=>exact dM
  |cons p l=>exact SQ p l g (d.nodup_iff.mpr i)
 have k:a.map (·.cps.toList)=qO b:=Hq j (Eg b) λx=>by
  rw[An,ay];constructor
  ·rintro⟨o,m,rfl⟩;obtain⟨r,n,rfl⟩:=ay.mp (d.mem_iff.mp m);exact n
  ·intro q;exact⟨toS x,d.mem_iff.mpr (ay.mpr ⟨x,q,rfl⟩),rfl⟩
 rw[<- k,bH];refine(List.map_id a).symm.trans (lC λo _=>?_);obtain⟨c⟩:=o;rfl
def v8(k:DK):List DK->List D->Option D
 |j::ks,d::ds=>if j=k then KF d else v8 k ks ds
 |_,_=>KM
theorem Rq{K:ai}{H:Hp}{XV μ:List af}{k:DK}{d:D}:∀{a:List DK}{ds:List D}{vs:List V},a.length=vs.length->nW K H XV μ ds vs->v8 k a ds=KF d->∃v,tw ((a.map kD).zip vs) (kD k)=KF v/\Y2 K H XV μ d v
 |[],_,_,_,_,h=>by unfold v8 at h;cases h
 |_::_,[],_,_,_,h=>by unfold v8 at h;cases h
 |j::a,d'::ds,[],hl,_,_=>by cases hl
 | j::a,d'::ds,v::vs,hl,dd,h=>by
  obtain⟨g,i,b,c,f⟩:=(show ∃w r,v::vs=w::r/\Y2 K H XV μ d' w/\nW K H XV μ ds r from dd);cases b;unfold v8 at h;show ∃w,tw ((kD j,v)::(a.map kD).zip vs) (kD k)=KF w/\_;by_cases e:j=k
  ·rw[qL e] at h;cases h;exact⟨v,El (p:=(kD j,v)) (congrArg kD e),c⟩
  ·rw[q0 e] at h;rw[CT (p:=(kD j,v)) (λz=>e (G2 z))];exact Rq (lZ hl) f h
def CB(td ty:DE):DE:=λσ O=>(td σ O).bnd λx O1=>match x with
 | .map ks ds=>(ty σ O1).bnd λy O2=>match vW y with
  | some k=>match v8 k ks ds with
   |some d=>.ok d O2
   |none=>.bad
  |none=>.bad
 |_=>.bad
section
variable{X:Cx}{Ex:Nat->Hp->Prop}{o i:aO}{pos:Pos}{td ty:DE}
def zey{o i:aO}{pos:Pos}{td ty:TE}(n:PE X o td)(p:PE X i ty)(q:B9 i):PE X (.Subscript o i pos) (λσ H Q=>td σ H λx d=>ty σ d λy c=>∃a f k v,x=.ref a/\Rd c a (.dK f)/\y=kV k/\tw f k=KF v/\Q v c):=by intro b s σ H Q I h;refine Kb (T := "dict") gG.lookup q (o_ (n b s σ H _ I h) λu r ⟨x,d,t,w,A⟩=>o_ (p b r σ d _ t A) λK L ⟨y,c,j,B,a,f,k,v,C,e,D,l,E⟩=>?_);subst C D;obtain rfl:u=cZ a:=w;obtain⟨z,M,F,g,m⟩:=Cz j.hok e;obtain⟨N,G,J⟩:=oA.some_of (v:=v) (o:=valueAt F k) (by rw[<- l];exact g.val k);exact⟨m.mapOf.typeIs,jN (CA B) m.mapOf G ⟨v,c,j.tok _,J,E⟩⟩
def ZT(g:PD X Ex o td)(h:PD X Ex i ty)(j:B9 i):PD X Ex (.Subscript o i pos) (CB td ty):=
 rl (zey g.out h.out j) λl G I O J H Q m n q=>rd.go m n q λd K v L M s x t r p=>by
  cases d with
  | map ks ds=>
   refine rd.go s t p λy N w P R S u z A b=>?_;have f:=Y2.ext u r;unfold Y2 at f;obtain⟨a,T,rfl,B,U,V,C,D⟩:=f;cases c:vW y with
   |none=>rw[c] at b;exact b.elim
   | some k=>
    rw[c] at b;dsimp only at b;cases e:v8 k ks ds with
    |none=>rw[e] at b;exact b.elim
    | some d=>
     rw[e] at b;obtain⟨v,E,F⟩:=Rq C D e;exact⟨a,_,kD k,v,rfl,.inr B,JH c A,E,post.here b z F⟩
  |_=>exact ah p
end
noncomputable def JF(y z:l_)(to:DE):DE:=λσ O=>(to σ O).bnd λx O1=>match x with
 |.str i=>if i.length<=1000 then .ok (.str (Txt.replace ⟨i.toArray⟩ ⟨y.toArray⟩ ⟨z.toArray⟩).cps.toList) O1 else .bad
 |_=>.bad
section
variable{X:Cx}{Ex:Nat->Hp->Prop}{o:aO}{to:DE}{apos o9 p1 p2:Pos}
def YW(y z:l_)(j:ys=⟨y.toArray⟩)(l:zs=⟨z.toArray⟩)(f:(ys==zs)=qj)(g:z.length<=14)(m:PD X Ex o to)(u:attributeBase o "replace" X.env (eval o X.env)=eval o X.env:=by rfl)
  (w:(apos.endLine==o9.line)=qb:=by rfl):PD X Ex (.Call (.Attribute o "replace" apos) [.Constant (.str ys) j1 p1,.Constant (.str zs) j2 p2] [] o9) (JF y z to):=by
 refine⟨?_⟩;rintro b s A H Q I ⟨B,S,T,O,C,D,q⟩;refine ki u rfl w rfl (o_ (m.out b s A H (λv c=>∃i:l_,v=.str ⟨i.toArray⟩/\i.length<=1000/\Q (.str (Txt.replace ⟨i.toArray⟩ ⟨y.toArray⟩ ⟨z.toArray⟩)) c) I (rd.go C D q λd U v c V W x E r p=>?_)) λv G ⟨x,c,h,J,i,K,L,M⟩=>?_)
 ·cases d with
  | str i=>
   unfold Y2 at r;obtain⟨N,q⟩:=post.ite p;exact⟨i,r,N,post.here q E (by unfold Y2;rw[D_])⟩
  |_=>exact ah p
 ·subst K;obtain⟨t,rfl⟩:=J;refine⟨"str", "str.replace",ig,PySem.F.slot_str_replace,PySem.F.type_str_replace,kU _ _ _,(λa e=>by cases e),?_⟩;refine kl rfl (ie ?_);show ar _ _ (spliced ((qj,eval (.Constant (.str ys) j1 p1) X.env)::(qj,eval (.Constant (.str zs) j2 p2) X.env)::[])) _ _ G;refine fH (jh (fH (jh (hU ?_))));have P:(⟨i.toArray⟩:au).length<=1048576:=aF (show i.toArray.size<=1000 by simpa using L) 's';subst j l;refine e8 (n:=1) (Nat.le_add_left _ _) (SC.replaceW (dQ h.tk) (Nat.succ_ne_zero _) (bu (eN _)) f P (show z.toArray.size<=14 by simpa using g) λY k R=>⟨.str _,c,h.tok k R,⟨_,rfl⟩,M⟩)
def Xr:bg "sum" = KF (.builtin "sum"):=by boot_by_name
def zch(f:X.calm=qb):oh X (.builtin "sum") (λxs H Q=>∃(p:af)(ns:List Int),xs=[.ref p]/\qr X.K H p (ns.map V.int)/\Q (.int ns.sum) H):=by
 intro b s v H xs w Q I r h;obtain⟨p,ns,rfl,g,q⟩:=h;obtain⟨u,rfl,i⟩:=uy r;cases i;obtain⟨x,j,k,y⟩:=I.list g;have c:=TJ j;obtain⟨a,d⟩:=c.allInts.items;have l:ns=a.toList.map (·.1):=by rw[<- c.numsOf,<- lF,<- d]
 have e:=k.isList;rw[d] at e;refine wT I (sum_intListG (I.ok.hd f) e λz m t' n A=>?_);have t:preSum (numAt a) a.size=ns.sum:=by
  rw[preSum_eq,cY 'd',l]
 rw[t];exact⟨.int _,H,I.kept (t':=m) n,⟨_,rfl⟩,q⟩
def yC:Ow->List D->R D:=λO xs=>match xs with
 | [x]=>match sR O x with
  | some ds=>match xw ds with
   |some ns=>.ok (.int ns.sum) O
   |none=>.bad
  |none=>.bad
 |_=>.bad
def X8:uA X Ex (λxs H Q=>∃(p:af)(ns:List Int),xs=[.ref p]/\qr X.K H p (ns.map V.int)/\Q (.int ns.sum) H) yC:=by
 intro H a i O xs j Q c d q;unfold yC at q;split at q
 ·rename_i x;obtain⟨v,rfl,b⟩:=tO d;split at q
  ·rename_i k e;obtain⟨p,l,rfl,f,g⟩:=uB c b e;split at q
   ·rename_i ns h;refine⟨p,ns,rfl,?_,post.here q c sv⟩;rw[<- J8 g h];exact f
   ·exact ah q
  ·exact ah q
 ·exact ah q
end
section
variable{X:Cx}{Ex:Nat->Hp->Prop}
def zb0(_:Nx ext)(b:X.calm=qb)(c:xJ X.env.scope scope (X.N++ext) (p9 (⟨it0,g,ts⟩::cs)))(d:s_ X Ex tg iter it0)
  (f:∀cells C s H a,PG (ql X (X.N++ext) scope cells C s H a) tg (g.rd X.K)/\cj (λe t=>qQ (ql X (X.N++ext) scope cells C s H a) p_ e t) ifs ts/\oo (ql X (X.N++ext) scope cells C s H a) gs cs/\PD (ql X (X.N++ext) scope cells C s H a) p_ ke tk/\PD (ql X (X.N++ext) scope cells C s H a) p_ ve tv)
  (h:ext.length=k:=by rfl) (i:∀x,bT iter X.env x=pure x:=by intro _;rfl):PD X Ex (.DictComp ke ve (⟨tg,iter,ifs,0⟩::gs) scope pos) (Bc k it0 g ts cs tk tv):=h▸zel ext b d c f i
end
end DL
namespace DL
open PySem L2
open PyProof.Rows (AllBare)
structure CM(Cl:Nat->ae)(P:aD)(w:aR)(K:ai)(mg:au->Option ae)(base:aL)(x:au)(k n:Nat)(Pt:af)(F:pD):Prop where
 ex:∃f fd ps,mg x=KF (.ref f)/\cR K (.ref f)=qb/\Binds K fd ps []/\oj P w K mg base (qR P w Cl) k f fd ps (Cb K (Xk Cl) n Pt F)
structure yA(K:ai)(mg:au->Option ae)(x:au)(st:cN)(c:af):Prop where
 ex:∃f fd,mg x=KF (.ref f)/\L2.Fun K x x st f fd/\fd.code=.ref c
def rJ(Pt iT n:Nat)(F:pD)(t:DA):DE:=λσ O=>match σ[iT]? with
 |some (KF (.tab p))=>if p=Pt then o6 n F t σ O else .bad
 |_=>.bad
def Bb{Cl:Nat->ae}{X:Cx}{E:XK}{x:au}{k j n Pt i:Nat}{F:pD}{p pos:Pos}{e:aO}{a:List aO}{t:DA}(c:CM Cl X.prog X.w X.K X.mg X.base x k n Pt F)(o:Ag (qR X.prog X.w Cl) X E)(r:nZ j X.A)(s:k<=j)(u:Gl X x)(y:sI X (Xk Cl E) (e::a) t)
  (z:qP x:=by decide) (B:aA (e::a) X.env=(qj,eval e X.env)::aA a X.env:=by rfl) (C:(backTo pos (aA a X.env)).any (·.1)=qj:=by rfl):
  PD X (Xk Cl E) (.Call (.Name x p) (e::a) [] pos) (rJ Pt i n F t):=by
 obtain⟨f,Y,Z,D,I,J,G⟩:=c.ex;refine rl (Kq (dvs:=[]) (ds:=[]) (G.mono s) r u D I J .nil o y.out z B C) λb L M O a_ H Q l N q=>?_;obtain⟨P,q⟩:oi H Pt/\qt (Xk Cl E) X.K H b L (o6 n F t M O) Q:=by
  unfold rJ at q;split at q
  ·rename_i p R;by_cases g:p=Pt
   ·rw[qL g] at q;obtain⟨v,_,d⟩:=l.at_ i _ R;unfold Y2 at d;rw[g] at d;exact⟨d.2,q⟩
   ·rw[q0 g] at q;exact ah q
  ·exact ah q
 refine t6.go l N q λds S vs H1 T e2 U V m h=>?_;obtain⟨W,h⟩:=post.ite h;refine⟨by rw[bL,<- m.length];exact W,b,T,ds,S,?_,V,U.tab _ P,h⟩;rw[bL];exact m
def Wa{Cl:Nat->ae}{P:aD}{w:aR}{K:ai}{e:au->Option ae}{base:aL}{k i:Nat}{f Pt:af}{g:dB}{x z:au}{b:cN}{N d:List au}{t:DS}(h:L2.Fun K x x b f g)(S:rj N d (pF b))(j:N[i]?=KF z)(l:¬ rG (pF b) z)
  (m:∀(c:ae)(A:aU)(a:List Env)(s:ag)(H:Hp)(E:XK),nZ k (A.deeper (aT x (pF b) s.heap.objs.size f c))->rn (tN Cl P w K e base N x (pF b) f c A a s H E) (Xk Cl E) (rV b) t):
  oj P w K e base (qR P w Cl) (k+1) f g d (Cb K (Xk Cl) d.length Pt (vB N.length i Pt t)):=by obtain⟨q,r,u,n,v,y,c,B,C,rfl,o,p⟩:=h.ex;exact WU o p S j l (m c)
structure Jc where
 params:eu
 body:aO
 scope:bS
 tE:DE
def Xf(X:Cx)(L:Jc)(c:af)(ct:ae):Obj:={ cls:=.type "function",data:=.func (ci "<lambda>" (X.env.qual ++ "<lambda>") L.params L.body L.scope (rh X.env.cells L.scope.names []) ((X.mg "__name__").getD .none) (.ref c) ct) }
def oD(X:Cx)(L:Jc)(H:Hp)(a:af):Prop:=∃c φ ct,H a=KF (.ext λh=>h.get? a=KF (Xf X L c ct))/\H c=KF (.ext φ)/\∀h:aL,φ h->∃q,h.CodeRec (.ref c) q
structure zmK(Cl:Nat->ae)(X:Cx)(k:Nat)(L:Jc):Prop where
 ls:Ho X.env.scope L.scope
 df:defaultsOf L.params X.env=([],[])
 bl:∀(name qual:au)(cl:List (au×af))(pm cd ct:ae),bindArgs (ci name qual L.params L.body L.scope cl pm cd ct) ⟨[],[]⟩=pure []
 E:∀(q:au)(lam:af)(cd:ae)(cl:List (au×af))(A:aU)(outer:List Env)(s:ag)(H:Hp)(E:XK),nZ k (A.deeper (sj q L.scope s.heap.objs.size lam cd cl))->PD (B8 (qR X.prog X.w Cl) X.prog X.w X.K X.mg X.base X.N (sj q L.scope s.heap.objs.size lam cd cl) A outer s H E) (Xk Cl E) L.body L.tE
section
variable{X:Cx}{H H':Hp}
def oD.ext(h:oD X L H a)(x:Ext H [] H' []):oD X L H' a:=by obtain⟨c,b,d,e,f,g⟩:=h;exact⟨c,b,d,x.keep _ _ e 'd',x.keep _ _ f 'd',g⟩
end
structure Jf(X:Cx)(H0:Hp)(l:af)(ls:List Jc)(as:List af)(H:Hp):Prop where
 nl:H0 l=KM
 ea:Ea l H0 [] H []
 at_:H l=KF (.lst (as.map V.ref))
 lam:cj (λL a=>oD X L H a) ls as
 nd:as.Nodup
def Jf.ext(b:Jf X H0 l ls as H)(μ:List af):Ext H0 μ H μ:=
 ⟨⟨[],by simp⟩,λc o h _ a=>b.ea.kept c o h 'd' (rD h b.nl) a,λ_ m=>.inl m,b.ea.there,b.ea.tab⟩
def Jf.cells(b:Jf X H0 l ls as H)(c:nV K H0 XV μ O):nV K H XV μ O:=by refine⟨c.len,c.nd,c.nh,λa m=>b.ea.there a (c.ht a m),λk a e=>?_⟩;obtain⟨f,g,h,d,i⟩:=c.at_ k a e;exact⟨f,g,h,b.ea.kept a _ d 'd' (rD d b.nl) (by intro j z;cases z),i.ext (b.ext μ)⟩
def nX.take(e:nX K H XV μ σ a_)(n:Nat):nX K H XV μ (σ.take n) (a_.take n):=
 ⟨by simp[e.len],λi d h=>by
  rw[jk] at h;split at h
  ·rename_i a;obtain⟨v,b,c⟩:=e.at_ i d h;exact⟨v,by rw[jk,qL a];exact b,c⟩
  ·cases h⟩
def nX.drop(e:nX K H XV μ σ a_)(i:Nat):nX K H XV μ (σ.set i KM) a_:=
 ⟨by simp[e.len],λj d h=>by
  by_cases a:i=j
  ·subst a;by_cases b:i<σ.length
   ·rw[aZ b] at h;cases h
   ·rw[ba.mpr (by simp;lia)] at h;cases h
  ·rw[aW a] at h;exact e.at_ j d h⟩
section
end
def oD.mono(h:oD X L H a)(k:∀b d,H b=KF (.ext d)->H' b=KF (.ext d)):oD X L H' a:=by obtain⟨c,d,e,f,g,i⟩:=h;exact⟨c,d,e,k _ _ f,k _ _ g,i⟩
end DL
namespace DL
open PySem L2 PySem.Spec PyProof.Rows
open Sem (wp)
end DL
namespace DL
open PySem L2 PySem.Spec PyProof.Rows
open Sem (wp)
open AutoSeq1 (wpAny_loadPart')
end DL
namespace DL
open PySem L2 PySem.Spec PyProof.Rows
section
end
end DL
namespace DL
open PySem L2
section
variable{Ex:Nat->Hp->Prop}
def n6.seq(q:n6 Ex K H XV μ (pd t u σ O) E):n6 Ex K H XV μ (t σ O) { E with nx:=λf H'=>Im Ex K u E f H' }:=by
 unfold pd at q;cases e:t σ O with
 | nx σ' O'=>
  rw[e] at q;exact λi H' g h a b=>⟨XV,g,σ',O',a,b,q.ext h⟩
 |rt d O'=>rw[e] at q;exact q
 |bk σ' O'=>rw[e] at q;exact q
 |ct σ' O'=>rw[e] at q;exact q
 |exc c O'=>rw[e] at q;exact q
 |bad=>rw[e] at q;exact q
end
end DL
namespace DL
open PySem L2 PySem.Spec PyProof.Rows
noncomputable def Og:List ae->List Int->Bool
 |[],[]=>qb
 |.int i _::vs,k::ks=>i==k&&Og vs ks
 |_,_=>qj
def Wb(o:Obj)(ks:List Int):Bool:=(match o.cls with|.type n=>n == "tuple"|_=>qj)&&o.dict.isNone&&(match o.data with|.seq d_ _=>Og d_.toList ks&&decide (d_.size<=1000)|_=>qj)
structure zmM(K:ai)(mg:au->Option ae)(x:au)(ks:List Int):Prop where
 ex:∃e o,mg x=KF (.ref e)/\K.lookup e=KF o/\Wb o ks=qb
end DL
namespace DL
open PySem L2 PyProof.Rows
def yZ:List D->Option (List j_)
 |[]=>KF []
 | .tup ds::r=>match ux ds,yZ r with
  |some ks,KF t=>KF (ks::t)
  |_,_=>KM
 |_::_=>KM
def Ck(x:j_):List j_->List j_
 |[]=>[x]
 |y::l=>if y<x then y::Ck x l else x::y::l
def AS(l:List j_):List j_:=l.foldr Ck []
def toT(ks:j_):D:=.tup (ks.map .str)
def DJ:Ow->List D->R D:=λO xs=>match xs with
 | [x]=>match sR O x with
  | some ds=>match yZ ds with
   |some pN=>if (2<=pN.length->(pN.all λks=>!ks.isEmpty)=qb)/\pN.length<=4000000 then .ok (.lst ((AS pN).map toT)) O else .bad
   |none=>.bad
  |none=>.bad
 |_=>.bad
abbrev vO(a b:j_):Prop:=¬ b<a
def vO.trans{a b c:j_}(g:vO a b)(d:vO b c):vO a c:=λh=>by
 by_cases e:b<a
 ·exact g e
 ·by_cases f:a<b
  ·exact d (TS.llt_trans h f)
  ·rw[TS.llt_total f e] at h;exact d h
theorem KZ(x:j_):∀l,(Ck x l).Perm (x::l)
 |[]=>d0 _
 | y::l=>by
  unfold Ck;split
  ·exact((KZ x l).cons y).trans (nv x y l)
  ·exact d0 _
theorem HB:∀l,(AS l).Perm l
 |[]=>d0 _
 |x::l=>(KZ x (AS l)).trans ((HB l).cons x)
theorem Rv(x:j_):∀l,l.Pairwise vO->(Ck x l).Pairwise vO
 |[],_=>d7 _ _
 | y::l,h=>by
  unfold Ck;have a:=bb.mp h;split
  ·rename_i c;refine bb.mpr ⟨λz hz=>?_,Rv x l a.2⟩;rcases aq.mp ((KZ x l).mem_iff.mp hz) with rfl|hz
   ·exact λd=>TS.llt_irrefl _ (TS.llt_trans d c)
   ·exact a.1 z hz
  ·rename_i b;refine bb.mpr ⟨λz hz=>?_,h⟩;rcases aq.mp hz with rfl|hz
   ·exact b
   ·exact vO.trans b (a.1 z hz)
theorem Ky:∀l,(AS l).Pairwise vO
 |[]=>dM
 |x::l=>Rv x _ (Ky l)
theorem Ss:∀{a b:List j_},a.Pairwise vO->b.Pairwise vO->a.Perm b->a=b
 |[],b,_,_,p=>p.nil_eq
 |x::a,[],_,_,p=>absurd p.symm.nil_eq 'd'
 | x::a,y::b,ha,hb,p=>by
  have c:=bb.mp ha;have d:=bb.mp hb;have e:x=y:=by
   have f:vO y x:=by
    rcases aq.mp (p.mem_iff.mp am) with h|h
    ·rw[h];exact TS.llt_irrefl _
    ·exact d.1 x h
   have g:vO x y:=by
    rcases aq.mp (p.mem_iff.mpr am) with h|h
    ·rw[h];exact TS.llt_irrefl _
    ·exact c.1 y h
   exact TS.llt_total f g
  subst e;rw[Ss c.2 d.2 (jo p)]
def vw{α:Type}(R:V->α->Prop):List V->List α->Prop
 |[],[]=>True
 |v::vs,k::ks=>R v k/\vw R vs ks
 |_,_=>False
def Jv(K:ai)(H:Hp)(v:V)(ks:j_):Prop:=∃t,v=.ref t/\rH K H t (ks.map λcs=>V.str ⟨cs.toArray⟩)
def vT:ae->V
 |.ref t=>.ref t
 |_=>.non
theorem Hz:∀{a:j_}{b:List ae},nY (a.map λcs=>V.str ⟨cs.toArray⟩) b->TS.allS b=KF a
 |[],_,.nil=>rfl
 | k::a,u::us,.cons r h=>by
  obtain⟨c,rfl⟩:=r;unfold TS.allS;rw[Hz h];rfl
section
variable{X:Cx}{Ex:Nat->Hp->Prop}{H:Hp}{XV μ:List af}
def Oz(K:ai):List V->Hp->VK->Prop:=λxs H Q=>∃p vs pN,∃R:V->j_->Prop,xs=[.ref p]/\qr K H p vs/\vw R vs pN/\(∀v k,R v k->Jv K H v k/\(2<=vs.length->k≠[]))/\vs.length<=4000000/\∀l qV t7,vw R qV t7->t7.Perm pN->t7.Pairwise vO->H l=KM->Q (.ref l) (upd H l (.lst qV))
theorem QB{b:List (af×Obj)}{σ:L2.St}{s:ag}(I:L2.Inv X b σ H s){R:V->j_->Prop}{B:Prop}(d:∀v k,R v k->Jv X.K H v k/\(B->k≠[])):∀{vs:List V}{c:List j_}{a:List ae},vw R vs c->nY vs a->a.map (TS.keyT s.heap)=c/\∀u∈a,R (vT u) (TS.keyT s.heap u)/\RelV (vT u) u/\∃f,TS.TupS s.heap u f/\(B->f≠[])
 |[],[],_,_,.nil=>⟨rfl,λ_ h=>by cases h⟩
 |[],_::_,_,h,_=>h.elim
 |v::vs,[],_,h,_=>h.elim
 | v::vs,k::c,u::us,⟨h1,h2⟩,.cons r hv=>by
  obtain⟨e,m⟩:=QB I d h2 hv;obtain⟨⟨t,rfl,p⟩,q⟩:=d v k h1;cases r;obtain⟨a,i,⟨o,g,w,n,j⟩,_⟩:=I.tuple p;have x:TS.TupS s.heap (.ref t) k:=⟨t,o,a.toArray,n,rfl,g,w,j,by simpa using Hz i⟩;have l:TS.keyT s.heap (.ref t)=k:=by
   show((match s.heap.get? t with|some o=>(match o.data with|.seq a _=>TS.allS a.toList|_=>KM)|none=>KM):Option _).getD []=_;rw[g];dsimp only;rw[j];dsimp only;rw[show TS.allS a.toArray.toList=KF k from by simpa using Hz i];rfl
  refine⟨by rw[bz,l,e],λu hu=>?_⟩;rcases aq.mp hu with rfl|hu
  ·exact⟨by rw[l];exact h1,rfl,k,x,q⟩
  ·exact m u hu
theorem RX{R:V->j_->Prop}{f:ae->j_}:∀{l:List ae},(∀u∈l,R (vT u) (f u))->vw R (l.map vT) (l.map f)
 |[],_=>trivial
 |u::l,h=>⟨h u am,RX λv a=>h v (ak _ a)⟩
theorem KO:∀{l:List ae},(∀u∈l,RelV (vT u) u)->nY (l.map vT) l
 |[],_=>.nil
 |u::l,h=>.cons (h u am) (KO λv a=>h v (ak _ a))
def zbm:oh X (.builtin "sorted") (Oz X.K):=by intro f s C H D E Q I r h;obtain⟨p,F,G,R,rfl,k,l,m,n,q⟩:=h;obtain⟨u,rfl,o⟩:=uy r;cases o;obtain⟨g,i,t,J⟩:=I.list k;obtain⟨w,c⟩:=QB I m l i;have b:=i.length.symm;refine TS.sorted_tups t.isList (λv x=>let ⟨ks,k1,k2⟩:=(c v x).2.2;⟨ks,k1,λz=>k2 'o'⟩) 'o' λa d y=>?_;obtain⟨e,A⟩:=sortedAll_at s.heap g a;have B:=I.hok.fresh (eB _);have j:∀u∈a.toList,u∈g:=λu h=>d.mem_iff.mp h;refine⟨.ref _,_,I.laid (λ_ _ z=>sortedAll_old z) (eB _) ?_,rfl,q _ _ _ (RX λu h=>(c u (j u h)).1) (by rw[<- w];exact d.map _) (ee.mpr y) B⟩;refine⟨?_,a.toList,e,KO λu h=>(c u (j u h)).2.1,by rw[A]⟩;rw[ax,d.length_eq,b];exact aF n 's'
theorem Kk:∀{ds:List D}{a:j_},ux ds=KF a->ds=a.map D.str
 |[],a,h=>by cases h;rfl
 | d::ds,a,h=>by
  cases d with
  | str cs=>
   unfold ux at h;cases e:ux ds with
   |none=>rw[e] at h;cases h
   |some r=>rw[e] at h;cases h;rw[Kk e];rfl
  |_=>cases h
theorem Rz:∀{ds:List D}{a:List j_},yZ ds=KF a->ds.length=a.length
 |[],a,h=>by cases h;rfl
 | d::ds,a,h=>by
  cases d with
  | tup xs=>
   unfold yZ at h;split at h
   ·rename_i c t e b;cases h;rw[a7,a7,Rz b]
   ·cases h
  |_=>cases h
theorem QQ{K:ai}{B:Prop}:∀{ds:List D}{vs:List V}{a:List j_},nW K H XV μ ds vs->yZ ds=KF a->(∀k∈a,B->k≠[])->vw (λv k=>Y2 K H XV μ (toT k) v/\(B->k≠[])) vs a
 | [],vs,a,h,e,_=>by
  cases e;subst h;trivial
 | d::ds,vs,a,h,e,qZ=>by
  obtain⟨v,r,rfl,b,c⟩:=h;cases d with
  | tup xs=>
   unfold yZ at e;split at e
   ·rename_i f t g i;cases e;refine⟨⟨?_,qZ f am⟩,QQ c i λk j=>qZ k (ak _ j)⟩;have:=Kk g;unfold toT;rw[<- this];exact b
   ·cases e
  |_=>cases e
theorem RC{α:Type}{R:V->α->Prop}:∀{vs:List V}{a:List α},vw R vs a->vs.length=a.length
 |[],[],_=>rfl
 |[],_::_,h=>h.elim
 |_::_,[],h=>h.elim
 |_::_,_::_,h=>by rw[a7,a7,RC h.2]
theorem SS{K:ai}{B:Prop}:∀{vs:List V}{a:List j_},vw (λv k=>Y2 K H XV μ (toT k) v/\(B->k≠[])) vs a->nW K H XV μ (a.map toT) vs
 |[],[],_=>by unfold nW;rfl
 |[],_::_,h=>h.elim
 |v::vs,[],h=>h.elim
 | v::vs,k::a,h=>by
  exact⟨v,vs,rfl,h.1.1,SS h.2⟩
def YU:uA X Ex (Oz X.K) DJ:=by
 intro H XV μ O C D Q c d q;unfold DJ at q;split at q
 ·rename_i x;obtain⟨v,rfl,o⟩:=tO d;split at q
  ·rename_i E e;obtain⟨p,f,rfl,r,g⟩:=uB c o e;split at q
   ·rename_i a h;obtain⟨⟨s,i⟩,q⟩:=post.ite q;have b:f.length=a.length:=by rw[<- g.length,Rz h]
    have u:∀k∈a,2<=f.length->k≠[]:=λk w i e=>by
     have:=aH.mp (s 'o') k w;rw[e] at this;cases this
    have j:=QQ g h u;refine⟨p,f,a,_,rfl,r,j,λv k m=>⟨?_,m.2⟩,?_,λl F G y z A b=>?_⟩
    ·obtain⟨t,I,rfl,n,B⟩:=Ai m.1 rfl;have:=Hg B (strL_map k);rw[this] at n;exact⟨t,rfl,n⟩
    ·rw[RC j];exact i
    ·have e:=Ss A (Ky a) (z.trans (HB a).symm);subst e;exact post.ok q (.laid b) (c.laid b) (Y2.newL c b (SS y))
   ·exact ah q
  ·exact ah q
 ·exact ah q
end
end DL
namespace DL
open PySem L2
open PyProof.Rows (AllBare)
section
variable{prog:aD}{w:aR}{A:aU}{s:ag}{R:Result->ag->Prop}
def zdE(f:A.depth<recursionLimit)
  (g:s.heap.get? lam=KF { cls:=.type "function",data:=.func (ci name qual params body scope cl pm cd ct) }) (i:s.heap.CodeRec cd q) (j:scope.isCoroutine=qj) (k:scope.isGenerator=qj) (l:scope.kind=.function) (m:∀x∈scope.names,x.2 ≠ .cell) (n:scope.names.lookup x=KF .local)
  (p:bindArgs (ci name qual params body scope cl pm cd ct) ⟨[u],[]⟩=pure [(x,u)]) (r:s.heap.NoLimit)
  (h:∀h' tk,0<tk->h'.Ns s.heap.objs.size (λy=>[(x,u)].lookup y)->(∀b o,s.heap.get? b=KF o->h'.get? b=KF o)->
   ar (av prog w) (A.deeper (sj q scope s.heap.objs.size lam cd cl)) (eval body (sj q scope s.heap.objs.size lam cd cl)) (λv s'=>R (.ok (.ret v)) s') (λ_ _=>False) { s with heap:=h',toks:=tk }):
  codeAny (av prog w) A (.call (.ref lam) ⟨[u],[]⟩) R s:=by
 refine jY ?_;show ar _ A.in1 (callAny (.ref lam) ⟨[u],[]⟩) _ _ s;refine aa (wpAny_load g ?_);obtain⟨c,H,I,J,t,B,C,D⟩:=i;subst t;simp only[callFunction,j,k];refine aa (bD B C D (aa (ao ?_)));rw[p];refine aa (ao (aa (kZ m (λy E=>?_) (λa F G=>?_) l)))
 ·have e:y=(x,u):=⇑E
  rw[e];exact n
 have d:∀b o,s.heap.get? b=KF o->a.get? b=KF o:=λb o e=>G.extBut b o (bu (aI e)) (aj _ e);refine aa (wpAny_enterFrame (r.keeps d) f (ao ⟨rfl,?_⟩));exact k7 (bZ (h a _ (cU _) F d) (λ_ _ z=>z) λ_ _ z=>z.elim)
end
noncomputable def F3(P:aD)(w:aR)(K:ai)(mg:au->Option ae)(base:aL)(N:List au)(env:Env)(A:aU)(outer:List Env)(s:ag)(H:Hp):Cx where
 prog:=P
 w:=w
 K:=K
 mg:=mg
 base:=base
 A:=A.deeper env
 N:=N
 s₀:=s
 H₀:=H
 env:=env
 outer:=outer
 stack:=env::outer
 ex:=[]
 calm:=qb
 fn:=λ_=>qj
 pn:=[]
 xe:=λ_ _=>False
structure Ou(out sc:bS)(x:au):Prop where
 kind:sc.kind=.function
 co:sc.isCoroutine=qj
 gen:sc.isGenerator=qj
 nd:(sc.names.map (·.1)).Nodup
 cell:∀y∈sc.names,y.2 ≠ .cell
 one:sc.names.lookup x=KF .local
 loc:∀y∈sc.names,y.2=.local->y.1=x
 frees:∀y∈sc.names,y.2=.free->out.names.lookup y.1=KF .cell\/out.names.lookup y.1=KF .free
section
variable{P:aD}{w:aR}{K:ai}{mg:au->Option ae}{base:aL}{N:List au}{A:aU}{outer:List Env}{s:ag}{H:Hp}{q x:au}{scope:bS}{lam:af}{cd:ae}{cl:List (au×af)}{σ:St}{h':aL}{tk:Nat}{v:V}{u:ae}
def zex(f:oB P w K mg base A outer s H)(D:A.handled=KM)(E:scope.kind=.function)(B:∀y,rG scope y->scope.names.lookup y=KF .free\/y=x)(C:scope.names.lookup x=KF .local)(F:x∉N)
  (cells:∀x c,cl.lookup x=KF c->(∃v,s.heap.IsCell c v)/\H c=KM) (inj:∀x y c,cl.lookup x=KF c->cl.lookup y=KF c->x=y) (k:∀x,scope.names.lookup x=KF .free->∃c,cl.lookup x=KF c)
  (h:∀(i:Nat)x v,N[i]?=KF x->σ[i]?=KF (KF v)->scope.names.lookup x=KF .free->∃u c,RelV v u/\cl.lookup x=KF c/\s.heap.IsCell c (KF u)) (l:σ.length=N.length) (G:RelV v u)
  (I:h'.Ns s.heap.objs.size (λy=>[(x,u)].lookup y)) (m:∀b o,s.heap.get? b=KF o->h'.get? b=KF o) (J:0<tk):
  L2.Inv (F3 P w K mg base (N++[x]) (sj q scope s.heap.objs.size lam cd cl) A outer s H) [] (σ++[KF v]) H { s with heap:=h',toks:=tk }:=by
 have a:∀{c:af}{v:Option ae},s.heap.IsCell c v->h'.IsCell c v:=λ{c v}⟨o,ho,r⟩=>⟨o,m c o ho,r⟩;have n:∀b:af,b∉(F3 P w K mg base (N++[x]) (sj q scope s.heap.objs.size lam cd cl) A outer s H).ex:=λb z=>absurd (show b∈([]:List af) from z) 'd';refine⟨⟨f.mod,E,rfl,rfl,aE _,inj,λy L=>?_,λy c z _=>absurd (show qj=qb from z) 's',λ_=>D,iP f.frames,.inr ⟨rfl,rfl⟩,λb z=>absurd z (n b),f.bs,f.bsz,λb _ _=>n b,λb z=>absurd z (n b),f.funs,f.frf⟩,
  rfl,f.bare,Un.kept m,⟨_,I,λi y M d j O=>?_⟩,λy c g=>?_,f.hok.fresh (aE _),λy c g=>(cells y c g).2,λp Q=>absurd (show p∈([]:List (af×Obj)) from Q) 'd',f.hok.kept m,by show(σ++[KF v]).length=(N++[x]).length;simp[l],J⟩
 ·have t:scope.names.lookup y=KF .cell\/scope.names.lookup y=KF .free:=L;rcases B y (t.elim (λz=>.inr (.inl z)) λz=>.inr (.inr z)) with z|z
  ·exact k y z
  ·rw[z,C] at t;rcases t with z|z<;>cases z
 ·have d:(N++[x])[i]?=KF y:=d;by_cases R:i<N.length
  ·rw[aG R] at d;rw[aG 'o'] at j;rcases B y O with z|z
   ·obtain⟨u,c,r,S,T⟩:=h i y M d j z;exact⟨u,r,.inr ⟨.inr z,c,S,a T⟩⟩
   ·rw[z] at d;exact absurd (aX d) F
  ·rw[br 'o'] at d j;have e:i-N.length=0:=by
    have:=(al.mp d).1;simp at this;lia
   rw[e] at d;rw[show i-σ.length=0 by lia] at j;cases d;cases j;exact⟨u,G,.inl ⟨C,by simp[eQ]⟩⟩
 ·obtain⟨⟨v,z⟩,_⟩:=cells y c g;exact⟨v,a z⟩
def X2(d:nZ (k+1) A)(f:oB P w K mg base A outer s H)
  (m:s.heap.get? lam=KF { cls:=.type "function",data:=.func (ci name qual params body scope cl pm cd ct) }) (n:s.heap.CodeRec cd q) (p:scope.isCoroutine=qj) (r:scope.isGenerator=qj) (j:scope.kind=.function) (B:∀x∈scope.names,x.2 ≠ .cell)
  (C:bindArgs (ci name qual params body scope cl pm cd ct) ⟨[u],[]⟩=pure [(x,u)]) (D:∀y,rG scope y->scope.names.lookup y=KF .free\/y=x) (l:scope.names.lookup x=KF .local) (E:x∉N)
  (cells:∀x c,cl.lookup x=KF c->(∃v,s.heap.IsCell c v)/\H c=KM) (inj:∀x y c,cl.lookup x=KF c->cl.lookup y=KF c->x=y) (g:∀x,scope.names.lookup x=KF .free->∃c,cl.lookup x=KF c)
  (a:∀(i:Nat)x v,N[i]?=KF x->σ[i]?=KF (KF v)->scope.names.lookup x=KF .free->∃u c,RelV v u/\cl.lookup x=KF c/\s.heap.IsCell c (KF u)) (h:σ.length=N.length) (F:RelV v u)
  (G:nZ k (A.deeper (sj q scope s.heap.objs.size lam cd cl))->PD (F3 P w K mg base (N++[x]) (sj q scope s.heap.objs.size lam cd cl) A outer s H) p_ body t)
  (I:nX K H XV μ σd (σ++[KF v])) (L:nV K H XV μ O) (M:qt p_ K H XV μ (t σd O) Q):codeAny (av P w) A (.call (.ref lam) ⟨[u],[]⟩) (CR AJ outer P w H s Q E0) s:=by refine zdE d.depth m n p r j B l C (f.mod.nolimit.keeps λb o e=>(f.bs b o e).1) λh' tk R S T=>?_;refine bZ ((G (d.deeper _)).out [] _ (σ++[KF v]) H Q (zex f d.hd j D l E cells inj g a h F S T R) ⟨XV,μ,σd,O,I,L,M⟩) (λv U ⟨W,X,J,Y,z⟩=>?_) λe U z=>z;exact⟨⟨W,X,J.os,J.bare,J.base,J.hok,Y,z⟩,J.tk⟩
end
end DL
namespace DL
open PySem L2 PyProof.Rows
def minGo(tE:DE)(σ:Sg):List D->D->Int->Ow->R D
 |[],b,_,O=>.ok b O
 | x::xs,b,k,O=>match tE (σ++[KF x]) O with
  |.ok (.int j) O1=>if j<k then minGo tE σ xs x j O1 else minGo tE σ xs b k O1
  |_=>.bad
def Cc(tE:DE)(σ:Sg)(O:Ow):List D->R D
 |[]=>.bad
 | x::xs=>match tE (σ++[KF x]) O with
  |.ok (.int j) O1=>minGo tE σ xs x j O1
  |_=>.bad
def Cr(Pt iT:Nat)(te tE:DE):DE:=λσ O=>match σ[iT]? with
 | some (KF (.tab p))=>if p=Pt then (te σ O).bnd λx O1=>match x with
  |.lst ds=>Cc tE σ O1 ds
  |_=>.bad else .bad
 |_=>.bad
def nX.snoc{K:ai}{H:Hp}{XV μ:List af}{σ:Sg}{a:L2.St}{d:D}{v:V}(e:nX K H XV μ σ a)(q:Y2 K H XV μ d v):nX K H XV μ (σ++[KF d]) (a++[KF v]):=by
 refine⟨by simp[e.len],λi x h=>?_⟩;have j:=e.len;by_cases b:i<σ.length
 ·rw[aG b] at h;obtain⟨w,c,f⟩:=e.at_ i x h;exact⟨w,by rw[aG 'o'];exact c,f⟩
 ·rw[br 'o'] at h;have g:i-σ.length=0:=by
   have:=(al.mp h).1;simp at this;lia
  rw[g] at h;cases h;exact⟨v,by rw[br 'o',show i-a.length=0 by lia];rfl,q⟩
section
variable{X:Cx}{Ex:Nat->Hp->Prop}{XV:List af}{σ:Sg}{a_:L2.St}{tE:DE}{lam cc:af}{lo:Obj}
def JI(X:Cx)(lam:af)(lo:Obj)(cc:af)(XV:List af)(σ:Sg)(a_:L2.St)(tE:DE):Prop:=
 ∀(Y1:List (af×Obj))(s:ag)(H:Hp)(μ:List af)(O:Ow)(d:D)(v:V)(u:ae)(Q:VK),L2.Inv X Y1 a_ H s->(lam,lo)∈Y1->(∃φ,H cc=KF (.ext φ)/\∀h:aL,φ h->∃q,h.CodeRec (.ref cc) q)->nX X.K H XV μ σ a_->nV X.K H XV μ O->Y2 X.K H XV μ d v->RelV v u->
  qt p_ X.K H XV μ (tE (σ++[KF d]) O) Q->ar (av X.prog X.w) X.A.in1 (call (.ref lam) [u]) (EP X Y1 a_ Q) (λ_ _=>False) s
def WI{K:ai}{H:Hp}{μ:List af}{d:D}{O:Ow}:qt p_ K H XV μ (.ok d O) (λv a=>∃b,Ext H μ a b/\nV K a XV b O/\Y2 K a XV b d v):=λv f e x c r=>⟨e,x,c,r⟩
def R0{K:ai}{H H':Hp}{μ d:List af}{O:Ow}(c:nV K H XV μ O)(x:Ext H μ H' d){a:aL->Prop}(h:H cc=KF (.ext a)):H' cc=KF (.ext a):=by refine x.kept cc _ h (λm=>?_) (by intro g z;cases z);obtain⟨k,f,e⟩:=dU.mp m;obtain⟨i,j,_,b,_⟩:=c.at_ k cc (by rw[aC f,e]);rw[h] at b;cases b
variable{l:af}{vs:List V}{ds:List D}{Q:VK}{Y1:List (af×Obj)}{E:ae->ag->Prop}
def R7{a S:af}{c oI:Obj}{j:Nat}{s:ag}{H:Hp}{μ:List af}{O:Ow}{d:D}{R:ae->ae->ag->Prop}(o8:X.calm=qb)(hK:JI X lam lo cc XV σ a_ tE)
  (I:L2.Inv X ((S,c)::(a,oI)::(lam,lo)::Y1) a_ H s) (AF:rS X ((S,c)::(lam,lo)::Y1) H a) (hl:l≠a) (i:s.heap.IsListIter a l j) (la:LstAt X.K H XV μ l vs) (dd:nW X.K H XV μ ds vs) (ev:nX X.K H XV μ σ a_) (cl:nV X.K H XV μ O) (tU:∃F,H cc=KF (.ext F)/\∀h:aL,F h->∃q,h.CodeRec (.ref cc) q)
  (G:ds[j]?=KF d) {k:Int} {O1:Ow} (hE:tE (σ++[KF d]) O=.ok (.int k) O1)
  (h:∀(v:ae)(tk:Tok)(f:Obj)(s':ag)(H':Hp)(m:List af)(x:V),L2.Inv X ((S,c)::(a,f)::(lam,lo)::Y1) a_ H' s'->s'.heap.IsListIter a l (j+1)->Ext H μ H' m->nV X.K H' XV m O1->RelV x v->Y2 X.K H' XV m d x->R v (.int k tk) s') {E2:ae->ag->Prop}:
  ar (av X.prog X.w) X.A.in1 (pyNext (.ref a)) (λo s1=>∃v,o=KF v/\ar (av X.prog X.w) X.A.in1 (call (.ref lam) [v]) (λr n=>R v r n) (λ_ _=>False) s1) E2 s:=by
 obtain⟨g,J,pl,hz⟩:=I.list la.sq;have W:=kY (prog:=X.prog) (w:=X.w) (A:=X.A.in1) (I.ok.hd o8) a l hl g.toArray;have L:ds.length=g.length:=by rw[dd.length,J.length]
 have hj:j<g.length:=by have:=(al.mp G).1;lia
 refine wT I (W.item j _ _ _ ⇑hj ⟨i,pl.isList⟩ λv M t hP Ms tT pP=>?_);have hv:g[j]?=KF v:=⇑hP
 obtain⟨N,P,f2,f3,f4,f5⟩:=AF;have I0:L2.Inv X ((S,c)::(lam,lo)::Y1) a_ H s:=I.pins_of λp hp=>I.pin p (aw _ (by
  rcases aq.mp hp with rfl|hp
  ·exact .head _
  ·exact .tail _ (.tail _ hp)))
 have y:L2.Inv X ((S,c)::(lam,lo)::Y1) a_ H { s with heap:=M,toks:=t }:=I0.turned (t':=t) (it:=a) (λb o hb e=>tT b o ⇑hb e) N P f3 f4 f5;obtain⟨f,MD,AB,T⟩:=id Ms.1;have I2:L2.Inv X ((S,c)::(a,f)::(lam,lo)::Y1) a_ H { s with heap:=M,toks:=t }:=y.pins_of λp hp=>by
  rcases aq.mp hp with rfl|hp
  ·exact y.pin _ (aw _ (.head _))
  ·rcases aq.mp hp with rfl|hp
   ·exact⟨MD,N,P,f2,λv z=>by rw[T] at z;cases z⟩
   ·exact y.pin p (aw _ (.tail _ hp))
 obtain⟨x,hx,U⟩:=dd.get G;obtain⟨u,Y,Z⟩:∃u,g[j]?=KF u/\RelV x u:=J.get hx;rw[hv] at Y;cases Y;refine⟨v,rfl,bZ (hK _ _ H μ O d x v (λv B=>∃C,Ext H μ B C/\nV X.K B XV C O1/\Y2 X.K B XV C (.int k) v) I2 (.tail _ (.tail _ (.head _))) tU ev cl U Z (by rw[hE];exact WI)) (λr n ⟨v2,H2,I3,r2,pe,x2,c2,d2⟩=>?_) λ_ _ z=>z⟩;unfold Y2 at d2;subst d2;obtain⟨t2,rfl⟩:=r2;exact h v t2 f n H2 pe x I3 ⟨f,(I3.pin (a,f) (aw _ (.tail _ (.head _)))).1,AB,T⟩ x2 c2 Z (U.ext x2)
def X9{a S:af}(o8:X.calm=qb)(hK:JI X lam lo cc XV σ a_ tE)(hl:l≠a)(zV:S≠a){s0:ag}:
  ∀(r j:Nat)(s:ag)(H:Hp)(μ:List af)(O:Ow)(b:D)(N:V)(m:ae)(f:Int)(k:Tok)(c:Nat)(oI:Obj),ds.length-j=r->j<=ds.length->
   L2.Inv X ((S,seqObj "list" #[m,.int f k] c)::(a,oI)::(lam,lo)::Y1) a_ H s->rS X ((lam,lo)::Y1) H a->rS X ((lam,lo)::Y1) H S->s.heap.IsListIter a l j->LstAt X.K H XV μ l vs->nW X.K H XV μ ds vs->nX X.K H XV μ σ a_->nV X.K H XV μ O->(∃L,H cc=KF (.ext L)/\∀h:aL,L h->∃q,h.CodeRec (.ref cc) q)->
   RelV N m->Y2 X.K H XV μ b N->qt Ex X.K H XV μ (minGo tE σ (ds.drop j) b f O) Q->
   codeAny (av X.prog X.w) X.A (.builtin "min.loop" ⟨[.ref a,.ref lam,.ref S],[]⟩) (λr s'=>match r with|.ok (.ret u)=>EP X Y1 a_ Q u s'|_=>False) s:=by
 have uG:(toString "min" ++ toString ".loop":String) = "min.loop":=by decide
 intro r
 induction r with
 | zero=>
  intro j s H μ O b N m f k c oI hr hj I n fS M la dd ev cl tU rb db q;have FA:j=ds.length:=by lia
  have nS:=I.pin (S,seqObj "list" #[m,.int f k] c) (aw _ (.head _));obtain⟨d_,rv,pl,hz⟩:=I.list la.sq;have W:=kY (prog:=X.prog) (w:=X.w) (A:=X.A.in1) (I.ok.hd o8) a l hl d_.toArray;have hlen:ds.length=d_.length:=by rw[dd.length,rv.length]
  refine j5 il ?_;rw[iZ dJ _];show ar _ X.A.in1 (seqItems? (.ref S) >>= _) _ _ _;refine aa (dH nS.1 rfl ?_);show ar _ X.A.in1 (tryCatch (pyNext (.ref a)) _ >>= _) _ _ _;refine aa (ge (wT I (W.done _ _ _ ⟨by rw[show d_.toArray.size=j by simp;lia];exact M,pl.isList⟩ λh' Br tT pP=>?_)));have I0:L2.Inv X ((lam,lo)::Y1) a_ H s:=I.pins_of λp hp=>I.pin p (aw _ (.tail _ (.tail _ hp)));obtain⟨f0,f1,f2,f3,f4,f5⟩:=n;have I1:L2.Inv X ((lam,lo)::Y1) a_ H { s with heap:=h',toks:=Br }:=I0.turned (t':=Br) (it:=a) (λb o Z e=>tT b o ⇑Z e) f0 f1 f3 f4 f5;have hS':=tT S _ ⇑zV nS.1;have s1:=eL h' S (bt λ_=>(#[]:Array ae));obtain⟨g0,g1,g2,g3,g4,g5⟩:=fS;show ar _ X.A.in1 (updateSeq S (λ_=>#[]) >>= _) _ _ _;refine aa ?_;refine iW hS' rfl (aa (fQ (ao ?_)));have C:=I1.turned (h':=h'.update S (bt λ_=>(#[]:Array ae))) (t':=Br) (it:=S) (λb o Z e=>(s1.2 b Z).trans e) g0 g1 g3 g4 g5;have I3:L2.Inv X Y1 a_ H _:=C.pins_of λp hp=>C.pin p (aw _ (.tail _ hp));rw[FA,mO] at q;exact⟨N,H,I3,rb,post.here q cl db⟩
 | succ r ih=>
  intro j s H μ O b N m f k c oI hr hj I n fS M la dd ev cl tU rb db q;have qM:j<ds.length:=by lia
  have nS:=I.pin (S,seqObj "list" #[m,.int f k] c) (aw _ (.head _));have nI:=I.pin (a,oI) (aw _ (.tail _ (.head _)));obtain⟨d,hd⟩:∃d,ds[j]?=KF d:=⟨_,aC qM⟩;rw[cb qM,(al.mp hd).2] at q;unfold minGo at q;split at q
  case h_2=>exact ah q
  rename_i g O1 hE;refine j5 il ?_;rw[iZ dJ _];show ar _ X.A.in1 (seqItems? (.ref S) >>= _) _ _ _;refine aa (dH nS.1 rfl ?_);show ar _ X.A.in1 (tryCatch (pyNext (.ref a)) _ >>= _) _ _ _;have M9:rS X ((S,seqObj "list" #[m,.int f k] c)::(lam,lo)::Y1) H a:=⟨n.1,n.2.1,n.2.2.1,n.2.2.2.1,n.2.2.2.2.1,λp hp=>by
   rcases aS.mp hp with hp|hp
   ·exact n.2.2.2.2.2 p (bN _ hp)
   ·rcases aq.mp hp with rfl|hp
    ·exact zV
    ·exact n.2.2.2.2.2 p (aw _ hp)⟩
  refine aa (ge (bZ (R7 o8 hK I M9 hl M la dd ev cl tU hd hE (R:=λv u s'=>∃tk y T c_ x,u=.int g tk/\L2.Inv X ((S,seqObj "list" #[m,.int f k] c)::(a,y)::(lam,lo)::Y1) a_ T s'/\s'.heap.IsListIter a l (j+1)/\Ext H μ T c_/\nV X.K T XV c_ O1/\RelV x v/\Y2 X.K T XV c_ d x)
   λv tk y s' T c_ x a1 a2 a3 a4 a5 a6=>⟨tk,y,T,c_,x,rfl,a1,a2,a3,a4,a5,a6⟩) (λo s1 ho=>?_) λ_ _ z=>z))
  obtain⟨v,rfl,rO⟩:=ho;show ar _ X.A.in1 (tryCatch (holding [v] (call (.ref lam) [v])) _ >>= _) _ _ _;refine aa (ge (bI (bZ rO (λu F he=>?_) λ_ _ hF=>hF.elim)));obtain⟨B,y,G,pe,x,rfl,C,zS,U,AH,rx,dx⟩:=he;have Y:=C.pin (S,seqObj "list" #[m,.int f k] c) (aw _ (.head _));have LW:=C.pin (a,y) (aw _ (.tail _ (.head _)));have Iv:=la.mv U.mv (hid':=XV);have yq:=dd.ext U;have FY:=ev.ext U;have FK:∃L,G cc=KF (.ext L)/\∀h:aL,L h->∃q,h.CodeRec (.ref cc) q:=let ⟨L,h1,h2⟩:=tU;⟨L,R0 cl U h1,h2⟩;have Vt:rS X ((lam,lo)::Y1) G a:=⟨LW.2.1,n.2⟩;have J:rS X ((lam,lo)::Y1) G S:=⟨Y.2.1,fS.2⟩;have q2:=post.ext q U;show ar _ X.A.in1 (tryCatch (holding [v,.int g B] (richCompare .Lt (.int g B) (.int f k) >>= _)) _ >>= _) _ _ _;refine aa (ge (bI (aa (CmpOf.ints_lt (prog:=X.prog) (w:=X.w) (A:=X.A.in1) (P:=λ(i:Nat)v=>∃t,v=.int (if i=0 then g else f) t) (λi=>if i=0 then g else f) (λi v h=>h) 0 1 _ _ _ _ _ ⟨B,rfl⟩ ⟨k,rfl⟩ ?_))));refine aa (bI (c8 ?_));refine aa (fQ (ao ?_));by_cases tM:g<f
  ·have s1:=eL F.heap S (bt λ_=>#[v,.int g B]);obtain⟨c2,tF⟩:∃c2,(F.heap.update S (bt λ_=>#[v,.int g B])).get? S=KF (seqObj "list" #[v,.int g B] c2):=⟨_,get?_update_seq Y.1 λ_=>#[v,.int g B]⟩;rw[qL tM] at q2;simp only[mY,tM,decide_true,if_true,dR,if_false];refine aa ?_;refine iW Y.1 rfl (aa (fQ ?_));rw[uG];have I3:L2.Inv X ((a,y)::(lam,lo)::Y1) a_ G F:=C.pins_of λp hp=>C.pin p (aw _ (.tail _ hp));have I4:L2.Inv X ((a,y)::(lam,lo)::Y1) a_ G { F with heap:=F.heap.update S (bt λ_=>#[v,.int g B]),toks:=F.toks }:=I3.turned (t':=F.toks) (it:=S) (λb o Z e=>(s1.2 b Z).trans e) J.1 J.2.1 J.2.2.2.1 J.2.2.2.2.1 (λp hp=>by
    rcases aS.mp hp with hp|hp
    ·exact J.2.2.2.2.2 p (bN _ hp)
    ·rcases aq.mp hp with rfl|hp
     ·exact zV.symm
     ·exact J.2.2.2.2.2 p (aw _ hp))
   have I5:L2.Inv X ((S,seqObj "list" #[v,.int g B] c2)::(a,y)::(lam,lo)::Y1) a_ G _:=I4.pins_of λp hp=>by
    rcases aq.mp hp with rfl|hp
    ·exact⟨tF,Y.2.1,Y.2.2.1,Y.2.2.2.1,λv z=>nomatch z⟩
    ·exact I4.pin p (aw _ hp)
   obtain⟨oq,My,Mx,Mw⟩:=id zS;exact ao ⟨jw dJ _,ih (j+1) _ G pe O1 d x v g B c2 y 'o' qM I5 Vt J ⟨oq,(s1.2 a zV.symm).trans My,Mx,Mw⟩ Iv yq FY AH FK rx dx q2⟩
  ·rw[q0 tM] at q2;simp only[mY,tM,decide_false,dR,if_false,if_true];refine aa (fQ ?_);rw[uG];exact ao ⟨jw dJ _,ih (j+1) F G pe O1 b N m f k c y 'o' qM C Vt J zS Iv yq FY AH FK rb (db.ext U) q2⟩
def zds{s:ag}{H:Hp}{μ:List af}{O:Ow}(o8:X.calm=qb)(hK:JI X lam lo cc XV σ a_ tE)(I:L2.Inv X ((lam,lo)::Y1) a_ H s)(Y:LstAt X.K H XV μ l vs)(dd:nW X.K H XV μ ds vs)(ev:nX X.K H XV μ σ a_)(cl:nV X.K H XV μ O)
  (tU:∃L,H cc=KF (.ext L)/\∀h:aL,L h->∃q,h.CodeRec (.ref cc) q) (q:qt Ex X.K H XV μ (Cc tE σ O ds) Q):ar (av X.prog X.w) X.A (call (.builtin "min") [.ref l] [(gm "key",.ref lam)]) (EP X Y1 a_ Q) E s:=by
 have uG:(toString "min" ++ toString ".loop":String) = "min.loop":=by decide
 obtain⟨d_,rv,pl,hz⟩:=I.list Y.sq;have U9:=pl.isList;obtain⟨ol,Dl,_⟩:=id U9;have Fw:l<s.heap.objs.size:=aI Dl;cases ds with
 |nil=>exact ah q
 |cons d sU=>
 have q:qt Ex X.K H XV μ (match tE (σ++[KF d]) O with|.ok (.int j) M=>minGo tE σ sU d j M|_=>.bad) Q:=q;split at q
 case h_2=>exact ah q
 rename_i g M hE;refine kmb_tree PySem.F.kind_min PySem.F.plain_min PySem.F.entry_min (kmb_min_key _ _) ?_;show ar _ X.A.in1 (jp "min" ["key", "default"] 0 ⟨[],[(gm "key",.ref lam)]⟩ >>= _) _ _ s;refine aa (mD (show jp "min" ["key", "default"] 0 ⟨[],[(gm "key",.ref lam)]⟩=pure [KF (.ref lam),KM] from rfl) ?_);refine aa (ao ?_);refine aa (fo U9 ?_);refine aa (gu ?_ (ck _));rw[uG];generalize n:s.heap.objs.size=a at *;generalize Z:s.heap.push { cls:=.type "list_iterator",data:=.fields #[.ref l,.int 0 0] } = h1 at *;have hS:h1.objs.size=a+1:=by rw[<- Z,size_push',n]
 generalize hSS:h1.objs.size=S at *;have U_:l≠a:=bu Fw;have N:S≠a:=by rw[hS];exact dQ (eN _)
 have kp:∀b o,s.heap.get? b=KF o->(h1.push (seqObj "list" #[] 0)).get? b=KF o:=λb o e=>aj _ (by rw[<- Z];exact aj _ e);have gI:(h1.push (seqObj "list" #[] 0)).get? a=KF { cls:=.type "list_iterator",data:=.fields #[.ref l,.int 0 0] }:=aj _ (by rw[<- Z,<- n];exact aN _ rfl);have gS:(h1.push (seqObj "list" #[] 0)).get? S=KF (seqObj "list" #[] 0):=by rw[<- hSS];exact aN _ rfl
 have c:rS X ((lam,lo)::Y1) H a:=I.fpOk (gY n) (I.hok.fresh (gY n));have P:rS X ((lam,lo)::Y1) H S:=I.fpOk (by rw[hS,n];exact eB _) (I.hok.fresh (by rw[hS,n];exact eB _));have I1:L2.Inv X ((lam,lo)::Y1) a_ H { s with heap:=h1.push (seqObj "list" #[] 0),toks:=s.toks }:=I.kept (t':=s.toks) kp;have I2:L2.Inv X ((S,seqObj "list" #[] 0)::(a,{ cls:=.type "list_iterator",data:=.fields #[.ref l,.int 0 0] })::(lam,lo)::Y1) a_ H { s with heap:=h1.push (seqObj "list" #[] 0),toks:=s.toks }:=I1.pins_of λp hp=>by
  rcases aq.mp hp with rfl|hp
  ·exact⟨gS,P.1,P.2.1,P.2.2.1,λv z=>nomatch z⟩
  ·rcases aq.mp hp with rfl|hp
   ·exact⟨gI,c.1,c.2.1,c.2.2.1,λv z=>nomatch z⟩
   ·exact I1.pin p (aw _ hp)
 refine ao ⟨jw dJ _,?_⟩;refine eC (R:=λr t=>match r with|.ok (.ret u)=>EP X Y1 a_ Q u t|_=>False) ?_ (λr t h=>by
  cases r with
  |error e=>exact h.elim
  |ok f=>cases f<;>first|exact h|exact h.elim)
 refine j5 il ?_;rw[iZ dJ _];show ar _ X.A.in1 (seqItems? (.ref _) >>= _) _ _ _;refine aa (dH gS rfl ?_);show ar _ X.A.in1 (tryCatch (pyNext (.ref a)) _ >>= _) _ _ _;have M9:rS X ((S,seqObj "list" #[] 0)::(lam,lo)::Y1) H a:=⟨c.1,c.2.1,c.2.2.1,c.2.2.2.1,c.2.2.2.2.1,λp hp=>by
  rcases aS.mp hp with hp|hp
  ·exact c.2.2.2.2.2 p (bN _ hp)
  ·rcases aq.mp hp with rfl|hp
   ·exact N
   ·exact c.2.2.2.2.2 p (aw _ hp)⟩
 refine aa (ge (bZ (R7 o8 hK I2 M9 U_ (j:=0) ⟨_,gI,rfl,rfl⟩ Y dd ev cl tU rfl hE (R:=λv u t=>∃tk i y C x,u=.int g tk/\L2.Inv X ((S,seqObj "list" #[] 0)::(a,i)::(lam,lo)::Y1) a_ y t/\t.heap.IsListIter a l (0+1)/\Ext H μ y C/\nV X.K y XV C M/\RelV x v/\Y2 X.K y XV C d x)
  λv tk i t y C x a1 a2 a3 a4 a5 a6=>⟨tk,i,y,C,x,rfl,a1,a2,a3,a4,a5,a6⟩) (λo s1 ho=>?_) λ_ _ z=>z))
 obtain⟨v,rfl,rO⟩:=ho;show ar _ X.A.in1 (tryCatch (holding [v] (call (.ref lam) [v])) _ >>= _) _ _ _;refine aa (ge (bI (bZ rO (λu G he=>?_) λ_ _ hF=>hF.elim)));obtain⟨k,i,T,pe,x,rfl,U,zS,J,AH,rx,dx⟩:=he;have B:=U.pin (S,seqObj "list" #[] 0) (aw _ (.head _));have LW:=U.pin (a,i) (aw _ (.tail _ (.head _)));have s1:=eL G.heap S (bt λ_=>#[v,.int g k]);obtain⟨W,tF⟩:∃W,(G.heap.update S (bt λ_=>#[v,.int g k])).get? S=KF (seqObj "list" #[v,.int g k] W):=⟨_,get?_update_seq B.1 λ_=>#[v,.int g k]⟩;show ar _ X.A.in1 (updateSeq S (λ_=>#[v,.int g k]) >>= _) _ _ _;refine aa ?_;refine iW B.1 rfl ?_;rw[uG];have m:rS X ((lam,lo)::Y1) T S:=⟨B.2.1,P.2⟩;have I4:L2.Inv X ((a,i)::(lam,lo)::Y1) a_ T G:=U.pins_of λp hp=>U.pin p (aw _ (.tail _ hp));have I5:=I4.turned (h':=G.heap.update S (bt λ_=>#[v,.int g k])) (t':=G.toks) (it:=S) (λb o hb e=>(s1.2 b hb).trans e) m.1 m.2.1 m.2.2.2.1 m.2.2.2.2.1 (λp hp=>by
  rcases aS.mp hp with hp|hp
  ·exact m.2.2.2.2.2 p (bN _ hp)
  ·rcases aq.mp hp with rfl|hp
   ·exact N.symm
   ·exact m.2.2.2.2.2 p (aw _ hp))
 have I6:L2.Inv X ((S,seqObj "list" #[v,.int g k] W)::(a,i)::(lam,lo)::Y1) a_ T _:=I5.pins_of λp hp=>by
  rcases aq.mp hp with rfl|hp
  ·exact⟨tF,B.2.1,B.2.2.1,B.2.2.2.1,λv z=>nomatch z⟩
  ·exact I5.pin p (aw _ hp)
 obtain⟨oq,My,Mx,Mw⟩:=id zS;exact ao ⟨jw dJ _,X9 (ds:=d::sU) (vs:=vs) o8 hK U_ N (s0:=s) _ 1 _ T pe M d x v g k W i rfl (Nat.succ_le_succ (ck _)) I6 ⟨LW.2.1,c.2⟩ m ⟨oq,(s1.2 a N.symm).trans My,Mx,Mw⟩ (Y.mv J.mv (hid':=XV)) (dd.ext J) (ev.ext J) AH (let ⟨L,h1,h2⟩:=tU;⟨L,R0 cl J h1,h2⟩) rx dx (post.ext q J)⟩
def zfL(hr:nZ (k+2) X.A)(o8:X.calm=qb)(L:tI X.mg X.base c Pt)(rz:X.env.code=.ref c)(b:Ou X.env.scope scope x)(t_:defaultsOf params X.env=([],[]))
  (BW:∀(name n:au)(cl:List (au×af))(pm o ct u:ae),bindArgs (ci name n params body scope cl pm o ct) ⟨[u],[]⟩=pure [(x,u)]) (zK:x∉X.N) (he:PD X Ex e te)
  (hE:∀(q:au)(lam:af)(o:ae)(cl:List (au×af))(A:aU)(outer:List Env)(s:ag)(H:Hp),nZ k (A.deeper (sj q scope s.heap.objs.size lam o cl))->PD (F3 X.prog X.w X.K X.mg X.base (X.N++[x]) (sj q scope s.heap.objs.size lam o cl) A outer s H) p_ body tE)
  (hg:Gl X "min") (hm:X.mg "min" = KM) (F:aA [e] X.env=[(qj,eval e X.env)]:=by rfl):PD X Ex (.Call (.Name "min" pn) [e] [⟨KF (gm "key"),.Lambda params body scope pl,kq⟩] pp) (Cr Pt iT te tE):=by
 refine⟨?_⟩;rintro Y1 s a_ H Q I ⟨XV,μ,σ,O,ev,c1,q⟩;obtain⟨ti,q⟩:oi H Pt/\qt Ex X.K H XV μ ((te σ O).bnd λx f=>match x with|.lst ds=>Cc tE σ f ds|_=>.bad) Q:=by
  unfold Cr at q;split at q
  ·rename_i p hp;by_cases G:p=Pt
   ·rw[qL G] at q;obtain⟨v,_,d⟩:=ev.at_ iT _ hp;unfold Y2 at d;rw[G] at d;exact⟨d.2,q⟩
   ·rw[q0 G] at q;exact ah q
  ·exact ah q
 have J:∀{cells:List (au×af)},(∀y∈scope.names,y.2=.free->∃c,cells.lookup y.1=KF c)->∀x c,(rh cells scope.names []).lookup x=KF c->cells.lookup x=KF c:=λ{cells}i x c e=>by
  rcases Ez _ _ (bj e) with m|⟨m,z⟩
  ·cases m
  ·obtain⟨c',xm⟩:=i (x,.free) m rfl;have tF:cells.lookup x=KF c':=xm;rw[tF] at z ⊢;rw[z];rfl
 have i:∀y∈scope.names,y.2=.free->∃c,X.env.cells.lookup y.1=KF c:=λy M hf=>I.ok.has y.1 (b.frees y M hf);have yo:∀x,scope.names.lookup x=KF .free->∃c,(rh X.env.cells scope.names []).lookup x=KF c:=λx e=>by
  have m:=Es (cells:=X.env.cells) scope.names [] (bj e);exact⟨_,xZ (EC _ _ b.nd 'd' (by intro p hp;cases hp)) m⟩
 have Dq:∀x,scope.names.lookup x=KF .free->X.env.scope.names.lookup x=KF .cell\/X.env.scope.names.lookup x=KF .free:=λx e=>b.frees (x,.free) (bj e) rfl;have rm:∀y,rG scope y->scope.names.lookup y=KF .free\/y=x:=λy M=>by
  rcases M with z|z|z
  ·exact .inr (b.loc _ (bj z) rfl)
  ·exact absurd rfl (b.cell _ (bj z))
  ·exact .inl z
 refine eT (Be I hg hm JV ?_ 's' 's');refine callWith_kw ?_ (by rw[F];rfl) (by rw[F];rfl);rw[F];show ar _ _ (spliced ((qj,eval e X.env)::backTo pp [])) _ _ s;refine fH (o_ (he.out Y1 s a_ H _ I (rd.go (Q1:=λP h=>∃j f a,nX X.K h XV a σ a_/\Ext H μ h a/\nV X.K h XV a f/\Y2 X.K h XV a j P/\qt Ex X.K h XV a (match j with|.lst ds=>Cc tE σ f ds|_=>.bad) Q) ev c1 q λj f P h a R S T r1 U=>⟨j,f,a,R,S,T,r1,U⟩)) λu1 s1 ⟨P,h,I1,W,j,f,a,R,S,T,Y,U⟩=>?_);refine hU ?_;refine kws_cons (O_ I1 L rz (S.tab _ ti) (Lh i) t_ λlam o yr h' tk H' I3 ext cells IK uu qk r8=>?_);refine kws_nil ?_;obtain⟨cc,φ,rfl,tU,Me⟩:=r8;have M_:=R.ext (ext a);have Z:=cells XV a f T;have q3:=post.ext U (ext a);have Vy:=Y.ext (ext a);cases j with
 | lst ds=>
  unfold Y2 at Vy;obtain⟨l,vs,rfl,la,dd⟩:=Vy;cases W;have B:rS X Y1 H' lam:=I1.fpOk uu IK;have I4:L2.Inv X ((lam,_)::Y1) a_ H' { s1 with heap:=h',toks:=tk }:=I3.pins_of λp hp=>by
   rcases aq.mp hp with rfl|hp
   ·exact⟨qk,B.1,B.2.1,B.2.2.1,λv z=>nomatch z⟩
   ·exact I3.pin p (aw _ hp)
  refine zds (cc:=cc) o8 ?_ I4 la dd M_ Z ⟨φ,tU,Me⟩ q3;intro UH s5 H5 yW O5 d5 v5 u5 Q5 g Fm BV IY cl5 dx5 rx5 q5;obtain⟨φ5,BV,Md⟩:=BV;obtain⟨qn,Mu⟩:=Md _ (g.hok cc _ BV).1;have hg5:=(g.pin _ (aw _ Fm)).1;refine iM (eC (X2 (k:=k) (t:=tE) (XV:=XV) (μ:=yW) (σd:=σ++[KF d5]) (O:=O5) (Q:=Q5) (N:=X.N) (σ:=a_) hr.in1 g.env0.in1 hg5 Mu b.co b.gen b.kind b.cell (BW _ _ _ _ _ _ _) rm b.one zK (Tt g Un.refl (J i)) (RD g (J i)) yo (SU g Un.refl (J i) yo Dq) g.len rx5 (hE _ _ _ _ _ _ _ _) (IY.snoc dx5) cl5 q5) λr s8 C=>?_);cases r with
  |error e=>exact C.elim
  | ok B=>
   cases B with
   |ret u=>exact g.after C
   |next=>exact ah C
   |brk=>exact ah C
   |cont=>exact ah C
 |_=>exact ah q3
end
end DL
namespace DL
open PySem L2
mutual
def nm:D->Bool
 |.map _ _=>qj
 |.dct=>qj
 |.exn _=>qj
 |.lst ds=>nms ds
 |.tup ds=>nms ds
 |_=>qb
def nms:List D->Bool
 |[]=>qb
 |d::ds=>nm d&&nms ds
end
section
variable{K:ai}{H:Hp}{XV μ:List af}{p:af}{i_:List (Key×V)}
def OH(b:H p=KF (.frz o (.dK i_)))(h:Rd H a u)(c:∀i_,u ≠ .dK i_)(d:∀o v,u ≠ .frz o v):a≠p:=by
 rintro rfl;rcases h with h|⟨o,h⟩
 ·rw[b] at h;cases h;exact d _ _ rfl
 ·rw[b] at h;cases h;exact c _ rfl
mutual
theorem Y2.hide(b:H p=KF (.frz o (.dK i_))):∀{d:D}{v:V},nm d=qb->Y2 K H XV μ d v->Y2 K H (p::XV) μ d v
 |.non,_,_,h=>h
 |.bl _,_,_,h=>h
 |.int _,_,_,h=>h
 |.str _,_,_,h=>h
 | .lst ds,v,n,h=>by
  unfold Y2 at h ⊢;obtain⟨a,c,r,l,q⟩:=h;refine⟨a,c,r,l.imp (λz=>⟨z.1,λm=>?_,z.2.2⟩) id,nW.hide b n q⟩;rcases aq.mp m with e|m
  ·exact OH b z.1 (λ_ z=>nomatch z) (λ_ _ z=>nomatch z) e
  ·exact z.2.1 m
 | .tup ds,v,n,h=>by
  unfold Y2 at h ⊢;obtain⟨a,c,r,l,q⟩:=h;refine⟨a,c,r,l.imp (λz=>⟨z.1,λm=>?_,z.2.2⟩) id,nW.hide b n q⟩;rcases aq.mp m with e|m
  ·exact OH b z.1 (λ_ z=>nomatch z) (λ_ _ z=>nomatch z) e
  ·exact z.2.1 m
 |.own k,v,_,h=>by unfold Y2 at h ⊢;exact h
 |.dct,_,n,_=>by cases n
 |.exn _,_,n,_=>by cases n
 |.tab P,v,_,h=>by unfold Y2 at h ⊢;exact h
 |.map _ _,_,n,_=>by cases n
 |.adr _,_,_,h=>h
theorem nW.hide(a:H p=KF (.frz o (.dK i_))):∀{ds:List D}{vs:List V},nms ds=qb->nW K H XV μ ds vs->nW K H (p::XV) μ ds vs
 |[],_,_,h=>h
 | d::ds,vs,n,h=>by
  unfold nW at h ⊢;unfold nms at n;obtain⟨b,c⟩:=i3.mp n;obtain⟨v,r,e,f,g⟩:=h;exact⟨v,r,e,Y2.hide a b f,nW.hide a c g⟩
end
def nV.hide(d:H p=KF (.frz o (.dK i_)))(n:O.all nms=qb)(c:nV K H XV μ O):nV K H (p::XV) μ O:=by
 refine⟨c.len,c.nd,λa m z=>?_,λa m=>?_,λk a e=>?_⟩
 ·rcases aq.mp z with e|z
  ·obtain⟨k,i,j⟩:=dU.mp m;obtain⟨f,g,_,b,_⟩:=c.at_ k a (by rw[aC i,j]);rw[e,d] at b;cases b
  ·exact c.nh a m z
 ·rcases aq.mp m with e|m
  ·rw[e,d];simp
  ·exact c.ht a m
 ·obtain⟨f,g,h,b,l⟩:=c.at_ k a e;exact⟨f,g,h,b,l.hide d (aH.mp n f (aX h))⟩
def nX.put(e:nX K H XV μ σ a_)(h:a_[i]?=KF (KF v))(q:Y2 K H XV μ d v):nX K H XV μ (σ.set i (KF d)) a_:=by
 refine⟨by simp[e.len],λj x g=>?_⟩;by_cases a:i=j
 ·subst a;have b:i<σ.length:=by have:=(al.mp g).1;simpa using this
  rw[aZ b] at g;cases g;exact⟨v,h,q⟩
 ·rw[aW a] at g;exact e.at_ j x g
def nX.forget(e:nX K H XV μ σ a_)(o:Option V):nX K H XV μ (σ.set i KM) (a_.set i o):=by
 refine⟨by simp[e.len],λj x g=>?_⟩;by_cases a:i=j
 ·subst a;have b:i<σ.length:=by have:=(al.mp g).1;simpa using this
  rw[aZ b] at g;cases g
 ·rw[aW a] at g;obtain⟨v,c,d⟩:=e.at_ j x g;exact⟨v,by rw[aW a];exact c,d⟩
def Dh(k:DK)(ks:List DK):Bool:=ks.any λj=>decide (j=k)
def uC(k:DK)(ks:List DK):List DK:=ks.filter λj=>decide (j≠k)
def xV(k:DK):List DK->List D->List D
 |j::ks,d::ds=>if j=k then xV k ks ds else d::xV k ks ds
 |_,_=>[]
theorem QC:∀{a:List DK}{ds:List D}{vs:List V},a.length=vs.length->nW K H XV μ ds vs->∃b,zm ((a.map kD).zip vs) (kD k)=((uC k a).map kD).zip b/\(uC k a).length=b.length/\nW K H XV μ (xV k a ds) b
 |[],ds,vs,_,_=>⟨[],rfl,rfl,.nil⟩
 |j::a,ds,[],h,_=>by cases h
 |j::a,[],v::vs,_,h=>by unfold nW at h;cases h
 | j::a,d::ds,v::vs,hl,h=>by
  obtain⟨w,r,e,i,l⟩:=(by unfold nW at h;exact h);cases e;obtain⟨b,c,f,g⟩:=QC (k:=k) (lZ hl) l;show ∃b,zm ((kD j,v)::(a.map kD).zip vs) (kD k)=_/\_;by_cases e:j=k
  ·subst e;refine⟨b,?_,?_,?_⟩
   ·unfold zm uC at *;rw[cP 'd',cP 'd'];exact c
   ·unfold uC at *;rw[cP 'd'];exact f
   ·unfold xV;rw[qL rfl];exact g
  ·have m:kD j≠kD k:=λz=>e (G2 z);refine⟨v::b,?_,?_,?_⟩
   ·unfold zm uC at *;rw[cQ ⇑m,cQ ⇑e,c];rfl
   ·unfold uC at *;rw[cQ ⇑e];simpa using f
   ·unfold xV;rw[q0 e];exact .cons i g
theorem SG:∀{a:List DK}{vs:List V},a.length=vs.length->Dh k a=qb->(tw ((a.map kD).zip vs) (kD k)).isSome=qb
 |[],_,_,h=>by cases h
 |_::_,[],h,_=>by cases h
 | j::a,v::vs,hl,h=>by
  show(tw ((kD j,v)::(a.map kD).zip vs) (kD k)).isSome=qb;by_cases e:j=k
  ·rw[El (congrArg kD e)];rfl
  ·rw[CT (λz=>e (G2 z))];unfold Dh at h;rw[fD,decide_eq_false e,lp] at h;exact SG (lZ hl) h
end
def zo(iR tK iL:Nat)(t1 t3:DE):List D->List DK->List D->Sg->Ow->RS
 |[],_,_,σ,O=>.nx σ O
 | x::xs,ks,ds,σ,O=>match vW x with
  | some k=>if Dh k ks=qb then match t1 (σ.set tK (KF x)) O with
    | .ok d1 O1=>match t3 (((σ.set tK (KF x)).set iL (KF d1)).set iR (KF (.map (uC k ks) (xV k ks ds)))) O1 with
     |.ok _ O2=>if O2.all nms=qb then zo iR tK iL t1 t3 xs (uC k ks) (xV k ks ds) ((σ.set tK (KF x)).set iL (KF d1)) O2 else .bad
     |_=>.bad
    |_=>.bad
   else .bad
  |none=>.bad
def DQ(iR tK iL:Nat)(tH:DE)(it:DI)(t1 t3:DE)(tt:DS):DS:=λσ O=>(tH σ O).bnS λx O1=>match x with
 | .map ks ds=>(it (σ.set iR KM) O1).bnS λsrc O2=>match src with
  | .val xs=>match zo iR tK iL t1 t3 xs ks ds (σ.set iR KM) O2 with
   |.nx σ' O'=>tt σ' O'
   |_=>.bad
  |_=>.bad
 |_=>.bad
def Ea.ext(e:Ea p H μ H' c_)(h:H p=KM):Ext H μ H' c_:=⟨e.pre,λb o g n a=>e.kept b o g n (rD g h) a,e.fresh,e.there,e.tab⟩
section
variable{X:Cx}{Ex:Nat->Hp->Prop}
def N0(f:H A=KF (.frz ob u)):∀P2,oi H P2->oi (upd H A o) P2:=by
 rintro P2 ⟨g,a,h,i⟩;have j:P2≠A:=by rintro rfl;rw[f] at a;cases a
 refine⟨g,by rw[pj j];exact a,h,λb k e=>?_⟩;obtain⟨c,l,rfl,d,m⟩:=i b k e;have n:c≠A:=by rintro rfl;rw[f] at d;cases d
 exact⟨c,l,rfl,by rw[pj n];exact d,m⟩
def X_(d:PE X e te):PE X e (λσ H Q=>∃p a,H p=KF (.dK a)/\∀o,te σ (upd H p (.frz o (.dK a))) λv H'=>H' p=KF (.frz o (.dK a))/\Q v (upd H' p (.dK a))):=by rintro b s σ H Q I ⟨p,a,c,h⟩;obtain⟨o,J⟩:=Inv.frzK I c;exact o_ (d b s σ _ _ J (h o)) λv i ⟨x,j,f,r,g,q⟩=>⟨x,_,Inv.thawK f g (Inv.nofrz I c),r,q⟩
def za0:oh X (.type "dict") (λxs H Q=>∃(a:af)(d:List (Key×V)),xs=[.ref a]/\Rd H a (.dK d)/\∀p,H p=KM->Q (.ref p) (upd H p (.dK d))):=by intro f s w H xs x Q I r h;obtain⟨a,d,rfl,g,q⟩:=h;obtain⟨u,rfl,i⟩:=uy r;cases i;obtain⟨z,j,y,c,k⟩:=Cz I.hok g;refine kt_call_dict j k (by rw[<- c.length];exact z) λl m n=>?_;have t:∀b o,s.heap.get? b=KF o->l.get? b=KF o:=λb o e=>(n.2 b (bu (aI e))).trans (aj _ e);have v:=I.hok.fresh (aE s.heap.objs.size);exact⟨.ref _,_,I.laid t (aE _) (GR z (beq_eq_false_iff_ne.mpr (bB (bu I.big))) c m),rfl,q _ v⟩
def z9Z{c h b:aO}{d:List aO}{j:List bJ}{scope:bS}{pos k l:Pos}{y:au}{i:Nat}(o:Bool)(ext:List au){it0:DI}{g:Tg}{ts:List DT}{cs:List Cl}{te:DE}(w:X.calm=qb)(A:X.N.Nodup)(B:X.N[i]?=KF y)(n:X.env.scope.names.lookup y=KF .local)
  (D:s_ X Ex h b it0) (F:xJ X.env.scope scope (X.N++ext) (p9 (⟨it0,g,ts⟩::cs)))
  (G:GG X ext scope h g d ts j cs c te)
  (J:swapsWith (.ListComp c (⟨h,b,d,0⟩::j) scope pos) (KF (.Name y l)) k.line X.env=pure qb)
  (M:∀x,bT b X.env x=pure x:=by intro _;rfl):PS X (.Assign [.Name y l] (.ListComp c (⟨h,b,d,0⟩::j) scope pos) k) (Co (rd Ex X.K (pK o ext.length it0 g ts cs te)) (zh i)):=by
 rintro p s a_ H E I ⟨P,μ,σ,O,Q,r,q⟩;rw[kG _ _ _ _ J];refine aa (fg (aa ?_));unfold pK at q;rw[<- Ld] at q;refine aa (bZ (Ht (KC c) w D F (λf R s H S _ _ _=>Jz G f R s H S) M I Q r (RU r q λL T U V C W Y Z t y1 u pn=>?_)) (λ_ V hq=>ao (ao hq)) λ_ _ e=>e);obtain⟨m,hn⟩:=Y;refine jx (KW (v:=.ref L) W A B (.inl n) rfl (λqK Nu x_=>?_) (.inr n));obtain⟨a,BF,ha⟩:=x_;have M3:C≠a:=by
  rcases ha with z|z
  ·rw[z];exact t
  ·exact λe=>u y a z e.symm
 refine⟨m,hn.sameBut BF M3,λh' BG=>?_⟩;exact⟨_,T,Inv.bare Nu BG Z t y1 u pn,U⟩
def zaF(n:ji (av X.prog X.w) X.A X.env X.xe)(hc:X.calm=qb)
  (hA:∀te,PE X e te->PS X sA (Co (Ig (λxs H Q=>∃(a:af)(i_:List (Key×V)),xs=[.ref a]/\Rd H a (.dK i_)/\∀p,H p=KM->Q (.ref p) (upd H p (.dK i_))) (Oa te NI)) (zh iR))) (hH:PD X Ex e tH)
  (hi:s_ X Ex tg iter it) (hg:PG X tg ((Tg.one tK).rd X.K)) (vR:PE X (.Name r p2) (Jy iR)) (vT:PE X (.Name tm p3) (Jy tK)) (hL:PS X sL (Co (rd Ex X.K t1) (zh iL))) (hE:PD X Ex e3 t3) (zM:swapsWith e3 KM pE.line X.env=pure qj) (ht:rn X Ex xs tt)
  (n1:iR≠tK) (n2:iR≠iL) (hl:iR<X.N.length) (hT:tK<X.N.length) (hs:∀x,bT iter X.env x=pure x:=by intro _;rfl):rn X Ex (sA :: .For tg iter [.Delete [.Subscript (.Name r p2) (.Name tm p3) p4] p1,sL,.Expr e3 pE] [] pos::xs) (DQ iR tK iL tH it t1 t3 tt):=by
 refine⟨?_⟩;rintro U s a_ H E I ⟨b,μ,σ,O,e1,c1,q⟩;have hlv:iR<a_.length:=by rw[I.len];exact hl
 refine(CU (hA _ hH.out) (CU (PK n hc hi.out hg (CU (Zd vR vT) (CU hL (QS (Q_ (X_ hE.out) zM)))) hs) ht.out)) U s a_ H E I (rd.goS e1 c1 q λx O1 v F C ea xa ca da qa=>?_);cases x with
 | map ks ds=>
  obtain⟨a0,W,rfl,ra,na1,na2,Y,dvs⟩:=da;refine⟨a0,_,rfl,.inr ra,λp n=>?_⟩;have LY:Mv F b C (upd F p (.dK ((ks.map kD).zip W))) (p::b) C:=(Mv.hide n).trans (Ext.laid n).mv;have Vv:nX X.K (upd F p (.dK ((ks.map kD).zip W))) (p::b) C (σ.set iR KM) (a_.set iR (KF (.ref p))):=(ea.mv LY).forget _;have UJ:p∉C:=λm=>by
   obtain⟨k,Z,e2⟩:=dU.mp m;obtain⟨_,_,_,h2,_⟩:=ca.at_ k p (by rw[aC Z,e2]);rw[n] at h2;cases h2
  have nph:p∉b:=λm=>ca.ht p m n;have cap:nV X.K (upd F p (.dK ((ks.map kD).zip W))) (p::b) C O1:=by
   have c0:=ca.laid (o:=.dK ((ks.map kD).zip W)) n;refine⟨c0.len,c0.nd,λa m z=>?_,λa m=>?_,λk a e=>?_⟩
   ·rcases aq.mp z with e|z
    ·exact UJ (e▸m)
    ·exact c0.nh a m z
   ·rcases aq.mp m with e|m
    ·rw[e,qS];simp
    ·exact c0.ht a m
   ·obtain⟨G,D,S,h2,T⟩:=ca.at_ k a e;exact⟨G,D,S,by rw[pj (rD h2 n)];exact h2,T.mv LY⟩
  have t:=qa;refine⟨p::b,C,σ.set iR KM,O1,Vv,cap,?_⟩;cases L:it (σ.set iR KM) O1 with
  |bad=>rw[L] at t;exact ah t
  | exc c' l=>
   rw[L] at t;exact λg j x c2=>t g j ((Ext.laid n).trans x) c2.unhide
  | ok src O2=>
   rw[L] at t;intro J H1 e_ x1 c2 sa;cases src with
   |own _=>exact ah t
   |zip _ _=>exact ah t
   | val ys=>
    have t:=t;have e0:Ea p F C H1 e_:=(Ext.laid n).ea.trans x1.ea;have hp1:=x1.keep p _ qS UJ;refine⟨λi m M g=>∃j f l P G D,m=ys.length-i/\i<=ys.length/\M.length=X.N.length/\Ea p H1 e_ g j/\nX X.K g (p::b) j f M/\nV X.K g (p::b) j l/\M[iR]?=KF (KF (.ref p))/\g p=KF (.dK ((P.map kD).zip D))/\P.length=D.length/\nW X.K g (p::b) j G D/\
     n6 Ex X.K F b C (match zo iR tK iL t1 t3 (ys.drop i) P G f l with
      |.nx f l=>tt f l
      |_=>.bad) E,
     ⟨_,e_,_,O2,ks,ds,W,rfl,ck _,by rw[cr];exact I.len,.refl,Vv.ext x1,c2,by rw[aZ hlv],hp1,Y,(dvs.mv LY).ext x1,t⟩,?_⟩
    rintro i m vQ H2 ⟨u,rR,F9,B,F1,Ar,hm,hile,Dj,Nj,FY,AH,IF,Fp,Fy,yq,c⟩;have C9:=sa (p::b) H2 u F9 Nj.mv AH i;have Ij:match ys[i]? with
     |some d=>J.go i H2/\∀x tu,J.yld i H2 x tu->Ext H2 u tu u/\nV X.K tu (p::b) u F9/\Y2 X.K tu (p::b) u d x
     |none=>J.stop i H2:=C9
    cases qk:ys[i]? with
    | none=>
     rw[qk] at Ij;have yh:i=ys.length:=by have:=ba.mp qk;lia
     rw[yh,mO] at c;exact .inl ⟨Ij,b,u,rR,F9,FY.mv .unhide,AH.unhide,c.ext ((e0.trans Nj).ext n)⟩
    | some d=>
     rw[qk] at Ij;obtain⟨go,yl⟩:=Ij;have yh:=(al.mp qk).1;rw[cb yh,(al.mp qk).2] at c;unfold zo at c;cases Z:vW d with
     |none=>rw[Z] at c;exact ah c
     | some k=>
      rw[Z] at c;dsimp only at c;by_cases vI:Dh k B=qb
      case neg=>rw[q0 vI] at c;exact ah c
      rw[qL vI] at c;refine .inr ⟨go,λM g=>∃j f l P G D,M.length=X.N.length/\Ea p H1 e_ g j/\nX X.K g (p::b) j f M/\nV X.K g (p::b) j l/\M[iR]?=KF (KF (.ref p))/\g p=KF (.dK ((P.map kD).zip D))/\P.length=D.length/\nW X.K g (p::b) j G D/\
       n6 Ex X.K F b C (match zo iR tK iL t1 t3 (ys.drop (i+1)) P G f l with
        |.nx f l=>tt f l
        |_=>.bad) E,λf g ⟨j,rM,O3,ks3,ds3,vs3,h⟩=>⟨ys.length-(i+1),by lia,j,rM,O3,ks3,ds3,vs3,rfl,yh,h⟩,λv H3 y=>?_⟩
      obtain⟨x3,c3,r3⟩:=yl v H3 y;have EU:p∉u:=λm=>AH.nh p m 'd';have Mz:=x3.keep p _ Fp EU;have M_:=(FY.ext x3).set r3 tK;have dd3:=yq.ext x3;have ekv:=JH Z r3;have Fg:(vQ.set tK (KF v))[iR]?=KF (KF (.ref p)):=by rw[aW (bB n1)];exact IF
      have Mr:(vQ.set tK (KF v))[tK]?=KF (KF v):=by
       rw[aZ (by rw[Dj];exact hT)]
      refine⟨_,Fg,v,Mr,p,_,kD k,rfl,Mz,ekv,SG Fy vI,?_⟩;obtain⟨R,hd1,hd2,hd3⟩:=QC Fy dd3;rw[hd1];have Ni:Ea p H3 u (upd H3 p (.dK (((uC k B).map kD).zip R))) u:=.putX (zc Mz);have Vw:=M_.mv (Ni.mv);have cl4:=c3.putX (o:=.dK (((uC k B).map kD).zip R)) (zc Mz);have dd4:=hd3.mv (Ni.mv);cases S:t1 (rR.set tK (KF d)) F9 with
      |bad=>rw[S] at c;exact ah c
      |exc c' l=>rw[S] at c;exact ah c
      | ok d1 O5=>
       rw[S] at c;dsimp only at c;refine⟨p::b,u,rR.set tK (KF d),F9,Vw,cl4,?_⟩;rw[S];intro v1 H5 yW x5 c5 r5;have Fm:=x5.keep p _ qS EU;have ET:p∉yW:=λm=>c5.nh p m 'd';have IY:=(Vw.ext x5).set r5 iL;have Vx:=dd4.ext x5;have Ff:((vQ.set tK (KF v)).set iL (KF v1))[iR]?=KF (KF (.ref p)):=by rw[aW (bB n2)];exact Fg
       cases T:t3 (((rR.set tK (KF d)).set iL (KF d1)).set iR (KF (.map (uC k B) (xV k B F1)))) O5 with
       |bad=>rw[T] at c;exact ah c
       |exc c' l=>rw[T] at c;exact ah c
       | ok d3 O6=>
        rw[T] at c;dsimp only at c;by_cases hn:O6.all nms=qb
        case neg=>rw[q0 hn] at c;exact ah c
        rw[qL hn] at c;refine⟨p,_,Fm,λo=>?_⟩;have Nh:Ea p H5 yW (upd H5 p (.frz o (.dK (((uC k B).map kD).zip R)))) yW:=.putX (zc Fm);have dm:Y2 X.K (upd H5 p (.frz o (.dK (((uC k B).map kD).zip R)))) b yW (.map (uC k B) (xV k B F1)) (.ref p):=by
         exact⟨p,R,rfl,⟨o,qS⟩,nph,ET,hd2,(Vx.mv (Nh.mv)).mv .unhide⟩
        refine⟨b,yW,_,O5,((IY.mv (Nh.mv)).mv .unhide).put Ff dm,(c5.putX (zc Fm)).unhide,?_⟩;rw[T];intro v3 H6 Gc x6 c6 r6;have IH:=x6.keep p _ qS ET;have ea7:Ea p H6 Gc (upd H6 p (.dK (((uC k B).map kD).zip R))) Gc:=.putX (N0 IH);have Ng:=(Nh.trans x6.ea).trans ea7;exact⟨IH,Gc,_,O6,_,_,R,by rw[cr,cr];exact Dj,((Nj.trans x3.ea).trans Ni).trans (x5.ea.trans Ng),IY.mv (Ng.mv),(c6.hide IH hn).putX (N0 IH),Ff,qS,hd2,Vx.mv (Ng.mv),c⟩
 |_=>exact ah qa
end
end DL
namespace DL
open PySem L2
def Ge(o:Obj):Nat:=match o.data with
 |.dict _ ep=>ep
 |_=>0
def VF(a:af)(o:Obj)(i_:List (Key×V)):It:=⟨λi H=>H a=KF (.frz o (.dK i_))/\i<i_.length,λi H x H'=>H'=H/\∃k v,i_[i]?=KF (k,v)/\x=kV k,λi H=>H a=KF (.frz o (.dK i_))/\i_.length<=i⟩
theorem P7:∀{i_:List (Key×V)}{ws:List (Key×ae)}{i:Nat}{k:Key}{v:V},KV i_ ws->i_[i]?=KF (k,v)->∃u,ws[i]?=KF (k,u)
 |_,_,_,_,_,.nil,h=>by simp at h
 | (k0,v0)::_,(k1,u1)::_,0,k,v,.cons h _,e=>by
  obtain⟨rfl,rfl⟩:=e;have a:=h.1;subst a;exact⟨u1,rfl⟩
 |_::_,_::_,i+1,k,v,.cons _ t,e=>P7 (i:=i) t ⇑e
def Y6(h:(uk P w).is k u=qb):RelV (kV k) u:=by
 rcases yL h with⟨i,t,rfl,rfl⟩|⟨x,t,rfl,rfl⟩
 ·exact⟨t,rfl⟩
 ·exact⟨t,rfl⟩
def J_(ok:HOk P w H h)(e:H a=KF (.frz o (.dK i_))):(a==sysModules)=qj/\∃b,KV i_ b/\h.DictAt (uk P w) a b (Ge o):=by
 obtain⟨d,z,i,b,c,m,j,k,f,l,g,r⟩:=ok a _ e;rw[d] at f;cases f;have:Ge o=k:=by unfold Ge;rw[g]
 rw[this];exact⟨i,b,c,o,j,d,l,g,r⟩
def zbA(a it:af)(o:Obj)(n:List (Key×V)):xt P w K tg (VF a o n) [it] it (λi h=>h.IsKeyIter it a i n.length (Ge o)) where
 mem:=by simp
 obj:=λi h g b j=>by
  have e:b=it:=⇑j
  subst e;obtain⟨o,e,c,d⟩:=g;exact⟨o,e,λv z=>by rw[d] at z;cases z⟩
 keep:=λi h N g k=>g.at λo e=>k it 'd' o e
 item:=by
  intro X q r t O i l s R H E I m g x;subst q r t;obtain⟨y,A⟩:=x;obtain⟨S,T,f,B⟩:=J_ I.hok y;obtain⟨⟨k,v⟩,Q⟩:∃p,n[i]?=KF p:=⟨_,aC A⟩;obtain⟨u,U⟩:=P7 f Q;obtain⟨C,D,W,F,G,J⟩:=m it 'd';rw[f.length] at g;refine wpAny_pyNext_dict_item g B U λL N Y M Z=>?_;have I1:=I.turned (λb o j e=>(Z.2 b j).trans e) C D F G J;obtain⟨o2,e,c,d⟩:=id M;rw[<- f.length] at M;exact⟨L,rfl,DN e c d 's' ⟨kV k,H,I1,Y6 Y,⟨rfl,k,v,Q,rfl⟩,M,λb j=>(m b j).1⟩⟩
 done:=by
  intro X q r t O i l s R H E I m g x;subst q r t;obtain⟨y,A⟩:=x;obtain⟨S,T,f,B⟩:=J_ I.hok y;obtain⟨C,D,W,F,G,J⟩:=m it 'd';rw[f.length] at g;exact wpAny_pyNext_dict_end (I.ok.hd O) g B (ba.mpr (by rw[<- f.length];exact A)) λN eb=>⟨rfl,I.turned (λb o j e=>eb b o j e) C D F G J⟩
 self:=λ_ _ _ _ _ g h=>wpAny_pyIter_keyiter g h
noncomputable def Au:DK->D
 |.inl i=>.int i
 |.inr cs=>.str cs
def zg2:∀k:DK,Y2 K H XV μ (Au k) (kV (kD k))
 |.inl _=>by unfold Au Y2;rfl
 |.inr _=>by unfold Au Y2;rfl
def n8.keys{K:ai}{H:Hp}{XV μ:List af}{b:List DK}{vs:List V}{a:af}{o:Obj}(h:H a=KF (.frz o (.dK ((b.map kD).zip vs))))(n:a∉XV)(p:a∉μ)(g:b.length=vs.length):n8 K (VF a o ((b.map kD).zip vs)) (.val (b.map Au)) H XV μ:=by
 intro j u v w m c i;have l:=m.kept a _ h p n (by intro A z;cases z);have f:((b.map kD).zip vs).length=b.length:=by rw[mX,ax,g,Nat.min_self]
 show match (b.map Au)[i]? with|some d=>_|none=>_
 rw[bO];cases e:b[i]? with
 | some k=>
  have q:=(al.mp e).1;refine⟨⟨l,by rw[f];exact q⟩,λx B y=>?_⟩;obtain⟨rfl,r,C,s,rfl⟩:=y;have t:r=kD k:=by
   have:=congrArg (mR jM) s;rw[<- bO,List.map_fst_zip (by rw[ax];exact gY g),bO,e] at this;cases this;rfl
  subst t;exact⟨.refl,c,zg2 k⟩
 | none=>
  exact⟨l,by rw[f];exact ba.mp e⟩
def Gs(t:DE):DI:=λσ O=>(t σ O).bnd λx O1=>match x with
 |.map ks _=>.ok (.val (ks.map Au)) O1
 |_=>.bad
def zdl{X:Cx}{l:Nat->Hp->Prop}{a y:aO}{t:DE}(z:PD X l a t):s_ X l y a (Gs t):=by
 refine⟨?_⟩;rintro i s A H B I ⟨f,S,T,O,C,D,q⟩;refine o_ (z.out i s A H _ I (rd.go C D q (Q1:=λv g=>∃f h j d,nV X.K g f h j/\Y2 X.K g f h d v/\post l X.K (λE F s J=>n8 X.K J s E f F) g f h (match d with|.map ks _=>.ok (.val (ks.map Au)) j|_=>.bad) B)
  λd j v g h U x c r p=>⟨f,h,j,d,c,r,p⟩)) λu m ⟨v,g,k,G,f,h,j,d,c,r,p⟩=>?_
 cases d with
 | map ks ds=>
  obtain⟨a,V,rfl,⟨o,w⟩,L,M,N,W⟩:=r;cases G;obtain⟨P,Y,n,Q⟩:=J_ k.hok w;refine wpAny_pyIter_dict P Q ?_;rw[<- n.length];refine⟨m.heap.objs.size,[m.heap.objs.size],_,_,g,rfl,k.kept λb o e=>aj _ e,zbA a _ o _,⟨_,aN _ rfl,rfl,rfl⟩,λb R=>?_,post.here p c (.keys w L M N)⟩;have e:b=m.heap.objs.size:=⇑R
  subst e;exact k.fpOk (aE _) (k.hok.fresh (aE _))
 |_=>exact ah p
end DL
namespace DL
open PySem L2 PyProof.Rows
noncomputable def ltP(i j k l:Int):Bool:=decide (i<k)||(decide (i=k)&&decide (j<l))
section
variable{X:Cx}{Ex:Nat->Hp->Prop}
def zmL:Ow->D->D->R D:=λO x y=>match x,y with
 |.tup [.int i,.int j],.tup [.int k,.int l]=>.ok (.bl (ltP i j k l)) O
 |_,_=>.bad
def Ac:List Int->Int
 |[]=>0
 |x::l=>l.foldl min x
theorem Ku:∀(l:List Int)(x:Int),l.foldl min x<=x/\∀a∈l,l.foldl min x<=a
 |[],x=>⟨Int.le_refl _,λ_ h=>by cases h⟩
 | y::l,x=>by
  obtain⟨c,b⟩:=Ku l (min x y);rw[fO];refine⟨by lia,λa ha=>?_⟩;rcases aq.mp ha with rfl|ha
  ·lia
  ·exact b a ha
theorem Eo:∀(l:List Int)(x:Int),l.foldl min x=x\/l.foldl min x∈l
 |[],x=>.inl rfl
 | y::l,x=>by
  rw[fO];rcases Eo l (min x y) with h|h
  ·rcases Int.le_total x y with e|e
   ·left;rw[h];lia
   ·right;rw[h];rw[show min x y=y by lia];exact am
  ·exact .inr (ak _ h)
def zcZ(hm:M∈ns)(b:∀a,a∈ns->M<=a):M=Ac ns:=by
 cases ns with
 |nil=>cases hm
 | cons x l=>
  show M=l.foldl min x;obtain⟨c,d⟩:=Ku l x;have f:l.foldl min x<=M:=by
   rcases aq.mp hm with rfl|hm
   ·exact c
   ·exact d M hm
  have g:M<=l.foldl min x:=by
   rcases Eo l x with e|e
   ·rw[e];exact b x am
   ·exact b _ (ak _ e)
  lia
def zbr(l:X.calm=qb):oh X (.builtin "min") (λxs H Q=>∃(p:af)(ns:List Int),xs=[.ref p]/\qr X.K H p (ns.map V.int)/\ns≠[]/\Q (.int (Ac ns)) H):=by
 intro d s G H xs J Q I r h;obtain⟨p,ns,rfl,m,n,q⟩:=h;obtain⟨u,rfl,o⟩:=uy r;cases o;obtain⟨L,w,x,M⟩:=I.list m;have e:=TJ w;obtain⟨b,f⟩:=e.allInts.items;have c:ns=b.toList.map (·.1):=by rw[<- e.numsOf,<- lF,<- f]
 have g:=x.isList;rw[f] at g;have y:0<b.size:=by
  rcases Nat.eq_zero_or_pos b.size with z|z
  ·exact absurd (by rw[c,Array.eq_empty_of_size_eq_zero z];rfl) n
  ·exact z
 refine wT I (min_intList (I.ok.hd l) g y λv N A B C O=>?_);obtain⟨t,rfl⟩:=intItems_at B;obtain⟨P,D⟩:=argBest_lt (numAt b) (b.size-1);have E:numAt b (argBest (λi j=>decide (numAt b i<numAt b j)) (b.size-1))=Ac ns:=by
  refine zcZ ?_ λa k=>?_
  ·rw[c,numAt_eq];exact getD_mem (by rw[ax,aK];lia)
  ·rw[c] at k;obtain⟨j,F,rfl⟩:=mem_getD k;rw[ax,aK] at F;rw[<- numAt_eq];exact D j 'o'
 rw[E];exact⟨.int _,H,I.kept (t':=A) C,⟨_,rfl⟩,q⟩
def DR:Ow->List D->R D:=λO xs=>match xs with
 | [x]=>match sR O x with
  | some ds=>match xw ds with
   |some ns=>if ns≠[] then .ok (.int (Ac ns)) O else .bad
   |none=>.bad
  |none=>.bad
 |_=>.bad
def ZL:uA X Ex (λxs H Q=>∃(p:af)(ns:List Int),xs=[.ref p]/\qr X.K H p (ns.map V.int)/\ns≠[]/\Q (.int (Ac ns)) H) DR:=by
 intro H a j O xs k Q c d q;unfold DR at q;split at q
 ·rename_i x;obtain⟨v,rfl,b⟩:=tO d;split at q
  ·rename_i l e;obtain⟨p,m,rfl,f,g⟩:=uB c b e;split at q
   ·rename_i ns h;obtain⟨i,q⟩:=post.ite q;refine⟨p,ns,rfl,?_,i,post.here q c sv⟩;rw[<- J8 g h];exact f
   ·exact ah q
  ·exact ah q
 ·exact ah q
noncomputable def Gj(i:Nat)(t:DE):DS:=λσ O=>match σ[i]? with
 | some (KF (.int a))=>(t σ O).bnS λd O1=>match d with
  |.int b=>.nx (σ.set i (KF (.int (a+b)))) O1
  |_=>.bad
 |_=>.bad
def zfU(h:X.N.Nodup)(j:X.N[i]?=KF x)(k:Loc X.env.scope x)(l:PD X Ex e te)(m:X.fn x=qb\/X.env.scope.names.lookup x=KF .local:=by first|exact .inl rfl|exact .inr rfl):
  tX X Ex (.AugAssign (.Name x pos') .Add e pos) (Gj i te):=
 yG (XS h j k l.out Xy m) λn A B O E o H f s q=>by
  unfold Gj at q;split at q
  ·rename_i a t;obtain⟨v,u,g⟩:=f.at_ i _ t;unfold Y2 at g;subst g;refine⟨.int a,u,rd.goS f s q λd C v w y z x c r p=>?_⟩;cases d with
   | int b=>
    unfold Y2 at r;subst r;exact⟨a,b,rfl,rfl,p (o.set i (KF (.int (a+b)))) w y .refl (z.set sv i) c⟩
   |_=>exact ah p
  ·exact ah q
end
end DL
namespace DL
open PySem L2
open PyProof.Rows (AllBare)
structure n9(P:aD)(w:aR)(K:ai)(mg:au->Option ae)(base:aL)(x:au)(k n:Nat)(Pt:af)(F:pD):Prop where
 ex:∃f fd ps,mg x=KF (.ref f)/\cR K (.ref f)=qb/\Binds K fd ps []/\oj P w K mg base AJ k f fd ps (Cb K Je n Pt F)
section
variable{P:aD}{w:aR}{K:ai}{mg:au->Option ae}{base:aL}{k n i:Nat}{x z:au}{Pt c:af}{F G:pD}
def n9.imp(c:n9 P w K mg base x k n Pt F)(h:∀ds O H XV μ Q,nV K H XV μ O->qt p_ K H XV μ (G ds O) Q->qt p_ K H XV μ (F ds O) Q):n9 P w K mg base x k n Pt G:=by obtain⟨f,b,e,g,j,l,m⟩:=c.ex;exact⟨f,b,e,g,j,l,m.imp λr H Q E ⟨o,XV,μ,ds,O,d,a,p,q⟩=>⟨o,XV,μ,ds,O,d,a,p,h ds O H XV μ Q a q⟩⟩
def n9.bad(c:n9 P w K mg base x k n Pt F):n9 P w K mg base x k n Pt (λ_ _=>.bad):=c.imp λ_ _ _ _ _ _ _ q=>ah q
def n9.self(c:n9 P w K mg base x k n Pt F):n9 P w K mg base x k n Pt F:=c
def n9.frz(c:n9 P w K mg base x k n Pt F):n9 P w K mg base x k n Pt (Cm F):=c.imp λd O H a e Q b q=>R8 b.len q
def OQ{f:af}{name a:au}{g:eu}{body:List cN}{scope:bS}{B C l D m ct L:ae}{I M:Option af}{R:Array (Option ae)}{N u:List au}{t:DS}
  (T:K.lookup f=KF ⟨L,M,.func (bd name a g body scope B C l D I m ct),R⟩) (U:cS K m a=qb) (S:rj N u scope) (V:N[i]?=KF z) (W:¬ rG scope z)
  (X:∀(A:aU)(b:List Env)(s:ag)(H:Hp)(E:XK),nZ k (A.deeper (aT a scope s.heap.objs.size f m))->rn (Dw P w K mg base N a scope f m A b s H E) p_ body t):
  oj P w K mg base AJ (k+1) f (bd name a g body scope B C l D I m ct) u (Cb K Je u.length Pt (vB N.length i Pt t)):=by
 refine qv T U S (λY H Q E h=>h.1) λA b s H Y Q E Z h=>?_;obtain⟨hl,y,μ,J,O,d,c,ti,j⟩:=h;refine⟨_,(rL.fake V W (X A b s H E Z).out).nox,y,μ,_,O,(EG d N).set (d:=.tab Pt) (by unfold Y2;exact⟨rfl,ti⟩) i,c,?_⟩;unfold vB at j;generalize t ((J.map KF++aM (N.length-J.length) KM).set i (KF (.tab Pt))) O=r at j;cases r with
 |nx σ O'=>exact λa_ o p x e q=>j .non o p x q zw
 |rt d' O'=>exact λv o p x q r=>j v o p x q r
 |bk σ O'=>exact ah j
 |ct σ O'=>exact ah j
 |exc q O'=>exact λo p x c2=>j o p x c2
 |bad=>exact ah j
def fnU(h:qg K mg x st)(S:rj N ps (pF st))(o:N[i]?=KF z)(p:¬ rG (pF st) z)
  (q:∀(g d j:ae)(l:Option af)(b m:ae)(e:List ae),e.length=ps.length->bindArgs (bd x x (uF st) (rV st) (pF st) .none g d j l b m) ⟨e,[]⟩=pure (ps.zip e))
  (r:∀(f:af)(b:ae)(A:aU)(a:List Env)(s:ag)(H:Hp)(E:XK),nZ k (A.deeper (aT x (pF st) s.heap.objs.size f b))->rn (Dw P w K mg base N x (pF st) f b A a s H E) p_ (rV st) t):
  n9 P w K mg base x (k+1) ps.length Pt (vB N.length i Pt t):=by obtain⟨f,u,v,F⟩:=h;refine⟨f,u,ps,v,F.kp,F.binds q,?_⟩;obtain⟨D,I,g,d,j,l,b,m,J,rfl,y,B⟩:=F.ex;exact OQ y B S o p λA a s H E C=>r f b A a s H E C
def NL(h:yA K mg x st c)(S:rj N ps (pF st))(o:N[i]?=KF z)(p:¬ rG (pF st) z)
  (q:∀(e b g:ae)(j:Option af)(l m:ae)(d:List ae),d.length=ps.length->bindArgs (bd x x (uF st) (rV st) (pF st) .none e b g j l m) ⟨d,[]⟩=pure (ps.zip d))
  (r:∀(f:af)(A:aU)(a:List Env)(s:ag)(H:Hp)(E:XK),nZ k (A.deeper (aT x (pF st) s.heap.objs.size f (.ref c)))->rn (Dw P w K mg base N x (pF st) f (.ref c) A a s H E) p_ (rV st) t):
  n9 P w K mg base x (k+1) ps.length Pt (vB N.length i Pt t):=by obtain⟨f,u,v,F,y⟩:=h.ex;refine⟨f,u,ps,v,F.kp,F.binds q,?_⟩;obtain⟨I,J,e,b,g,j,l,m,L,rfl,B,C⟩:=F.ex;cases (y);exact OQ B C S o p λA a s H E D=>r f A a s H E D
end
def GY(c:n9 X.prog X.w X.K X.mg X.base x k n Pt F)(l:nZ j X.A)(m:k<=j)(o:Gl X x)(r:sI X p_ (e::es) t)
  (s:qP x:=by decide) (u:aA (e::es) X.env=(qj,eval e X.env)::aA es X.env:=by rfl) (y:(backTo pos (aA es X.env)).any (·.1)=qj:=by rfl):
  PD X p_ (.Call (.Name x p) (e::es) [] pos) (rJ Pt iT n F t):=by
 obtain⟨f,U,V,z,B,C,G⟩:=c.ex;refine rl (Kq (G.mono m) l o z B C .nil OG r.out s u y) λa D E O W H Q h I q=>?_;obtain⟨J,q⟩:oi H Pt/\qt p_ X.K H a D (o6 n F t E O) Q:=by
  unfold rJ at q;split at q
  ·rename_i p L;by_cases b:p=Pt
   ·rw[qL b] at q;obtain⟨v,_,d⟩:=h.at_ iT _ L;rw[b] at d;exact⟨d.2,q⟩
   ·rw[q0 b] at q;exact ah q
  ·exact ah q
 refine t6.go h I q λM N Y Z P e2 R S i g=>?_;obtain⟨T,g⟩:=post.ite g;refine⟨by rw[bL,<- i.length];exact T,a,P,M,N,?_,S,R.tab _ J,g⟩;rw[bL];exact i
end DL
namespace DL
open PySem L2 PyProof.Rows
def z7N(t:T = "list" \/ T = "tuple")(u:s.heap.get? p=KF o)(v:o.cls=.type T)(x:o.data=.seq vs.toArray n)(g:kS vs ss)(k:vs.length<=4000000)
  (h:∀(a h':aL)(d:Array ae)(i:List au)(c:Nat),(∀b f,s.heap.get? b=KF f->a.get? b=KF f)->(∀b f,a.get? b=KF f->h'.get? b=KF f)->h'.get? a.objs.size=KF { cls:=.type "list",data:=.seq d c }->kS d.toList i->i.Perm ss->sortedS i=qb->Q (.ref a.objs.size) { s with heap:=h' }):
  ar (av prog w) A (call (.builtin "sorted") [.ref p]) Q E s:=by
 refine gK mF lW lX (lY _) ?_;refine aa (ao ?_);have L:vs.toArray.size<=q9:=by rw[aP];exact aF k 's'
 refine aa (wpAny_collect_seq p t u v x λa y=>?_);refine aa (gu ?_);have M:vs.toArray.toList=vs:=by simp
 have j:(a.push (seqObj "list" vs.toArray 0)).get? a.objs.size=KF (seqObj "list" vs.toArray 0):=aN _ rfl;refine aa (bI (cF kP ⟨_,j,rfl⟩ j4 (TS.list_sort_big strKind_oneLt j g.keysOf (λN O l e=>keyKind_strs (by rw[<- e];exact g)) k λz B C=>⟨_,rfl,?_⟩) (kQ _)));obtain⟨D,F,G,H⟩:=sorted_out_str g B C;refine ao ⟨_,rfl,?_⟩;have I:=bX (bt λ_=>#[]) j rfl;have J:=aj (seqObj "list" #[] 0) (aj (seqObj "tuple" vs.toArray 0) I);have K:=bX (bt λ_=>(q7 z).map (·.2)) J rfl;refine h a _ _ D _ y (λb o m=>?_) K F G H;have r:a.objs.size≠b:=λq=>absurd (aI m) (by rw[<- q];exact bU _);exact(bA _ _ r).trans (aj _ (aj _ ((bA _ _ r).trans (aj _ m))))
section
variable{X:Cx}{Ex:Nat->Hp->Prop}{H:Hp}{XV μ:List af}
def JA(K:ai):List V->Hp->VK->Prop:=λxs H Q=>∃p ss,xs=[.ref p]/\(rH K H p (ss.map λcs=>V.str ⟨cs.toArray⟩)\/qr K H p (ss.map λcs=>V.str ⟨cs.toArray⟩))/\ss.Nodup/\ss.length<=1000/\∀l,H l=KM->Q (.ref l) (upd H l (.lst ((qO ss).map λcs=>V.str ⟨cs.toArray⟩)))
def zb6:oh X (.builtin "sorted") (JA X.K):=by
 intro m s O H P R Q I r h;obtain⟨p,a,rfl,sq,x,y,q⟩:=h;obtain⟨u,rfl,z⟩:=uy r;cases z;obtain⟨b,f,T,A,o,j,k,n,l⟩:∃b:List ae,nY (a.map λd=>V.str ⟨d.toArray⟩) b/\∃T,(T = "list" \/ T = "tuple")/\∃o,s.heap.get? p=KF o/\o.cls=.type T/\∃n,o.data=.seq b.toArray n:=by
  rcases sq with sq|sq
  ·obtain⟨b,f,⟨o,j,k,n,l⟩,_⟩:=I.tuple sq;exact⟨b,f,_,.inr rfl,o,j,k,n,l⟩
  ·obtain⟨b,f,B,_⟩:=I.list sq;exact⟨b,f,_,.inl rfl,B.isList⟩
 have C:(a.map λd=>V.str ⟨d.toArray⟩)=(a.map toS).map V.str:=by rw[bH];rfl
 have D:=Lg (by rw[<- C];exact f);have t:b.length=a.length:=by have:=f.length;simpa using this.symm
 refine z7N A j k l D 'o' λE S g U c F G J L v M=>?_;have e:=zfW v x M;subst e;have w:=I.kept F;have i:nY ((qO a).map λd=>V.str ⟨d.toArray⟩) g.toList:=by
  have i:=S0 L;rw[bH] at i;exact i
 have N:(qO a).length=a.length:=by have:=v.length_eq;simpa using this
 exact⟨.ref E.objs.size,_,w.laid (o:=.lst ((qO a).map λd=>V.str ⟨d.toArray⟩)) G (aE _) ⟨by rw[ax,N];exact aF y 's',g.toList,c,i,by rw[J]⟩,rfl,q _ (w.hok.fresh (aE _))⟩
def GA(O:Ow)(ds:List D):R D:=match ux ds with
 |some ss=>if ss.Nodup/\ss.length<=1000 then .ok (.lst ((qO ss).map .str)) O else .bad
 |none=>.bad
def A0:Ow->List D->R D:=λO xs=>match xs with
 |[.tup ds]=>GA O ds
 | [x]=>match sR O x with
  |some ds=>GA O ds
  |none=>.bad
 |_=>.bad
def Q7{K:ai}{O:Ow}{p:af}{ds:List D}{a:List V}{Q:VK}(c:nV K H XV μ O)(d:rH K H p a\/qr K H p a)(dd:nW K H XV μ ds a)(q:qt Ex K H XV μ (GA O ds) Q):JA K [.ref p] H Q:=by
 unfold GA at q;split at q
 ·rename_i e f;obtain⟨⟨g,h⟩,q⟩:=post.ite q;have i:=Hg dd f;subst i;exact⟨p,e,rfl,d,g,h,λl b=>post.ok q (.laid b) (c.laid b) (Y2.newL c b (S9 _))⟩
 ·exact ah q
def Zz:uA X Ex (JA X.K) A0:=by
 intro H XV μ O h i Q c d q;unfold A0 at q;split at q
 ·obtain⟨v,rfl,a⟩:=tO d;obtain⟨p,g,rfl,b,f⟩:=Ai a rfl;exact Q7 c (.inl b) f q
 ·obtain⟨v,rfl,a⟩:=tO d;split at q
  ·rename_i e;obtain⟨p,g,rfl,b,f⟩:=uB c a e;exact Q7 c (.inr b) f q
  ·exact ah q
 ·exact ah q
end
noncomputable def JG(out sc:bS)(x:au):Bool:=(match sc.kind with|.function=>qb|_=>qj) && !sc.isCoroutine && !sc.isGenerator&&decide ((sc.names.map (·.1)).Nodup)&&(sc.names.lookup x==KF .local)&&(sc.names.all λy=>!(y.2 == .cell)&&(!(y.2 == .local)||y.1==x))&&(sc.names.all λy=>!(y.2 == .free)||out.names.lookup y.1==KF .cell||out.names.lookup y.1==KF .free)
def WD(h:JG out sc x=qb):Ou out sc x:=by
 unfold JG at h;simp only[bi,decide_eq_true_eq,aH] at h;obtain⟨⟨⟨⟨⟨⟨c,f⟩,g⟩,i⟩,j⟩,d⟩,k⟩:=h;refine⟨?_,by simpa using f,by simpa using g,i,λy a=>?_,by simpa using j,λy a b=>?_,λy a b=>?_⟩
 ·cases e:sc.kind<;>rw[e] at c<;>first|rfl|cases c
 ·have:=(d y a).1;simpa using this
 ·have:=(d y a).2;rw[b] at this;simpa using this
 ·have:=k y a;rw[b] at this;simpa using this
def zew(f:nZ (k+2) X.A)(g:X.calm=qb)(L:tI X.mg X.base c Pt)(h:X.env.code=.ref c)(i:JG X.env.scope scope x=qb)(j:defaultsOf params X.env=([],[]))
  (l:∀(name a:au)(cl:List (au×af))(pm d ct u:ae),bindArgs (ci name a params body scope cl pm d ct) ⟨[u],[]⟩=pure [(x,u)]) (m:(X.N++[x]).Nodup) (n:PD X Ex e te)
  (o:∀(q:au)(b:af)(d:ae)(cl:List (au×af))(A:aU)(outer:List Env)(s:ag)(H:Hp),nZ k (A.deeper (sj q scope s.heap.objs.size b d cl))->PD (F3 X.prog X.w X.K X.mg X.base (X.N++[x]) (sj q scope s.heap.objs.size b d cl) A outer s H) p_ body tE)
  (p:Gl X "min") (r:X.mg "min" = KM) (t:aA [e] X.env=[(qj,eval e X.env)]:=by rfl):PD X Ex (.Call (.Name "min" pn) [e] [⟨KF (gm "key"),.Lambda params body scope pl,kq⟩] pp) (Cr Pt iT te tE):=
 zfL f g L h (WD i) j l (λz=>(fU.mp m).2.2 x z x 'd' rfl) n o p r t
def z7M{X:Cx}{f:Nat->Hp->Prop}{b d a:aO}{c:List aO}{e:List bJ}{scope:bS}{pos h j:Pos}{y:au}{i k:Nat}{ext:List au}{it0:DI}{g:Tg}{ts:List DT}{cs:List Cl}{te:DE}(_:Nx ext)(o:Bool)(l:X.calm=qb)(m:X.N.Nodup)(n:X.N[i]?=KF y)(p:X.env.scope.names.lookup y=KF .local)(q:xJ X.env.scope scope (X.N++ext) (p9 (⟨it0,g,ts⟩::cs)))(r:s_ X f d a it0)(s:GG X ext scope d g c ts e cs b te)
  (t:swapsWith (.ListComp b (⟨d,a,c,0⟩::e) scope pos) (KF (.Name y j)) h.line X.env=pure qb) (u:ext.length=k:=by rfl) (v:∀x,bT a X.env x=pure x:=by intro _;rfl):
  PS X (.Assign [.Name y j] (.ListComp b (⟨d,a,c,0⟩::e) scope pos) h) (Co (rd f X.K (pK o k it0 g ts cs te)) (zh i)):=u▸z9Z o ext l m n p r q s t v
end DL
namespace DL
open PySem L2
section
end
end DL
namespace DL
open PySem L2 PyProof.Rows
end DL
namespace DL
open PySem L2
def sO(F:pD):pD:=λds O=>match F ds O with
 |.exc _ _=>.bad
 |r=>r
def Ra(h:F ds O=.ok d O1):sO F ds O=.ok d O1:=by unfold sO;rw[h]
def SV(h:qt Ex K H XV μ (sO F ds O) Q):qt Ex' K H XV μ (F ds O) Q:=by
 unfold sO at h;cases e:F ds O with
 |ok d O1=>rw[e] at h;exact h
 |exc c O1=>rw[e] at h;exact ah h
 |bad=>rw[e] at h;exact ah h
def oj.calm(F:oj P w K mg base AJ k f fd ps sp):oj P w K mg base CX k f fd ps sp:=
 ⟨F.len,λA a s H b d e Q E g h i j l=>eC (F.run A a s H b d e Q E g h i j l) λr m c=>by
  unfold CR at c ⊢;split at c
  ·exact c
  ·exact ah c
  ·exact ah c⟩
section
variable{Cl:Nat->ae}{P:aD}{w:aR}{K:ai}{mg:au->Option ae}{base:aL}{k n:Nat}{x:au}{Pt:af}{F:pD}
def Callee.toX(c:Callee P w K mg base x k n F):og Cl P w K mg base x k n (sO F):=by obtain⟨f,b,e,g,h,i,j⟩:=c.ex;exact⟨f,b,e,g,h,i,(oj.calm j).imp λr H Q E ⟨l,a,m,o,O,d,p,q⟩=>⟨l,a,m,o,O,d,p,SV q⟩⟩
def n9.toT(c:n9 P w K mg base x k n Pt F):CM Cl P w K mg base x k n Pt (sO F):=by obtain⟨f,b,e,g,h,i,j⟩:=c.ex;exact⟨f,b,e,g,h,i,(oj.calm j).imp λs H Q E ⟨l,a,m,o,O,d,p,r,q⟩=>⟨l,a,m,o,O,d,p,r,SV q⟩⟩
end
open PyProof.Rows (AllBare IntsAre)
def zah{P:aD}{w:aR}{K:ai}{p T:au->Option ae}{CX:vp}{k:Nat}{U a:af}{Ts:List (af×af)}{fd:dB}{x:au}{sp:Sp}{c:ag}{vs:List ae}{ns:List Int}
  (X:K.In c.heap) (vG:c.heap.Ns bP p) (g:c.heap.Ns builtinsNs T) (IP:∀x:au,x ≠ "__name__"->T x=bg x) (ye:c.heap.NoLimit) (hg:c.gens = #[]) (pP:0<c.toks)
  (C:c.heap.get? a=KF { cls:=.type "list",data:=.seq vs.toArray }) (hi:kC vs ns) (hl:ns.length<=q9) (hr:nZ k callerA)
  (hC:∀q∈Ts,ng c.heap q.1 q.2) (A:∀q∈Ts,c.heap.get? q.2=KF (kI #[])) (hK:jc K=qb) (hB:∀q∈Ts,c.heap.BuiltinsAt p q.2)
  (F:∀base:aL,K.In base->base.Ns bP p->(∀q∈Ts,tI p base q.1 q.2)->oj P w K p base CX k U fd [x] sp) (rP:∀(s:ag)(u:ae),iE s fd ⟨[u],[]⟩ [(x,u)])
  (Dk:∀H:Hp,(∀q∈Ts,H q.2=KF (.tbl #[]))->qr K H a (ns.map V.int)->sp [.ref a] H (λv _=>v=.bl qb) λ_ _ _=>False)
  (Y:∀H e s',CX [] H c (λ_ _ _=>False) e s'->False):
  codeAny (av P w) callerA (.call (.ref U) ⟨[.ref a],[]⟩) (λr s'=>r=.ok (.ret (.bool qb))/\OldK c.heap s'.heap/\s'.os=c.os/\f6 s'.gens) c:=by
 have rv:=Ta hi;have L6:=hi.length;have Z:∀q∈Ts,a≠q.2:=λq j e=>by have h:=A q j;rw[<- e,C] at h;cases h
 have nKP:∀q∈Ts,K.lookup q.2=KM:=λz i=>by
  cases q:K.lookup z.2 with
  |none=>rfl
  | some o=>
   have e:=X z.2 o q;rw[A z i] at e;cases e;have h2:=aH.mp hK (z.2,_) (PySem.W.mem_of_lookupK q);exact absurd (show qj=qb from h2) cB
 have LV:a∉Ts.map (·.2):=λh=>by obtain⟨q,j,e⟩:=ay.mp h;exact Z q j e.symm
 -- H: yO table, and yO LL where it is KM of yO E4 objects
 have t:∀H:Hp,(∀q∈Ts,H q.2=KF (.tbl #[]))->qr K H a (ns.map V.int)->HOk P w H c.heap->(∀b,H b≠KM->b=a \/ ∃q∈Ts,q.2=b)->(H a=KM\/(K.lookup a=KM/\∃o xs,H a=KF (.frz o (.lst xs))))->
   codeAny (av P w) callerA (.call (.ref U) ⟨[.ref a],[]⟩) (λr s'=>r=.ok (.ret (.bool qb))/\OldK c.heap s'.heap/\s'.os=c.os/\f6 s'.gens) c:=by
  intro H hT hS I O Vj;have f:∀{b:af}{o:Obj},c.heap.get? b=KF o->H b=KM->(yu c.heap H).get? b=KF o:=λe n=>zdg e n;have xj:∀{b:af}{o:Obj}{D:Array DictEntry}{E:Nat},c.heap.get? b=KF o->o.data=.dict D E->H b=KM:=λ{b o D E}e d=>by
   cases q:H b with
   |none=>rfl
   | some u=>
    rcases O b (by rw[q];simp) with e'|e'
    ·subst e';rw[C] at e;cases e;have d':Data.seq vs.toArray _=Data.dict D E:=d;cases d'
    ·obtain⟨z,i,e'⟩:=e';subst e';rw[A z i] at e;cases e;have d':Data.fields #[]=Data.dict D E:=d;cases d'
  have Q:∀{b:af}{m:au->Option ae},c.heap.Ns b m->(yu c.heap H).Ns b m:=λ{b m}⟨o,D,E,e,d,r⟩=>⟨o,D,E,f e (xj e d),d,r⟩;have Vi:K.In (yu c.heap H):=λb o e=>f (X b o e) (by
   cases q:H b with
   |none=>rfl
   | some u=>
    rcases O b (by rw[q];simp) with e'|e'
    ·subst e';rcases Vj with z|⟨z,_⟩
     ·rw[z] at q;cases q
     ·rw[z] at e;cases e
    ·obtain⟨z,i,e'⟩:=e';subst e';rw[nKP z i] at e;cases e)
  have hM:Mod K p (yu c.heap H):=⟨Vi,Q vG,⟨T,Q g,IP⟩,let ⟨mc,h1,h2⟩:=ye;⟨mc,Q h1,h2⟩⟩;have e0:oB P w K p (yu c.heap H) callerA [] c H:=⟨rfl,hM,λb o e=>Zj e,gY (zca _ _),trivial,λb g=>absurd (show b∈([]:List af) from g) 'd',I,.of_eq hg,pP⟩;have UK:∀{b:af}{o:Obj},c.heap.get? b=KF o->o.cls ≠ .none->(o.cls ≠ .type "list")->H b=KM:=λ{b o}e d1 d2=>by
   cases q:H b with
   |none=>rfl
   | some u=>
    rcases O b (by rw[q];simp) with e'|e'
    ·subst e';rw[C] at e;cases e;exact absurd rfl d2
    ·obtain⟨z,i,e'⟩:=e';subst e';rw[A z i] at e;cases e;exact absurd rfl d1
  have hL:∀q∈Ts,tI p (yu c.heap H) q.1 q.2:=λz i=>by
   obtain⟨o,vs,J,tf,B,tg,Ay,L,tt,M,r1,r⟩:=hC z i;obtain⟨bm,ob,b1,b2,b3,b4,b5,b6,b7,b8⟩:=hB z i;exact⟨⟨o,vs,J,tf,B,tg,Ay,L,tt,f M (UK M (by rw[r1];exact λz=>nomatch z) (by rw[r1];decide)),r1,r⟩,⟨bm,ob,b1,b2,b3,b4,f b5 (UK b5 (by rw[b6];exact λz=>nomatch z) (by rw[b6];decide)),b6,b7,b8⟩⟩
  refine eC ((F _ Vi (Q vG) hL).run callerA [] c H ⟨[.ref a],[]⟩ [.ref a] [.ref a] _ _ hr e0 (rP c (.ref a)) (.cons rfl .nil) (Dk H hT hS)) λr s' h=>?_;cases r with
  |error e=>exact(Y H e s' h).elim
  | ok fl=>
   cases fl with
   |next=>exact ah h
   |brk=>exact ah h
   |cont=>exact ah h
   | ret u=>
    obtain⟨⟨v,H',os,N,R,Fq,r',q⟩,_⟩:=h;have q':v=.bl qb:=q;subst q';obtain rfl:u=mS qb:=r';refine⟨rfl,⟨λb o e=>?_,λb o e=>?_⟩,os,N⟩
    ·by_cases S:∃q∈Ts,q.2=b
     ·obtain⟨z,i,S⟩:=S;subst S;obtain⟨y,hT'⟩:=R.tbls z.2 #[] (hT z i);have IS:s'.heap.get? z.2=KF { cls:=.none,data:=.fields (#[]++y) }:=Fq z.2 _ hT';have h3:=A z i;rw[h3] at e;cases e;exact .inr (.inl ⟨((hC z i).tab h3).isCodeTable,rfl,#[],y,rfl,IS⟩)
     ·cases q:H b with
      |none=>exact .inl (R.keep b o e q (by intro z;exact absurd (show b∈([]:List af) from z) 'd') 'd')
      | some u=>
       rcases O b (by rw[q];simp) with e'|e'
       ·subst e';rcases Vj with z|⟨_,ob,xs,z⟩
        ·rw[q] at z;cases z
        ·have z2:=R.frzs b ob _ z;obtain⟨M,_⟩:=I b _ z;obtain⟨e2,_⟩:=Fq b _ z2;rw[e] at M;cases M;exact .inl e2
       ·exact absurd e' S
    ·exact R.there b o e 'd'
 cases hk:K.lookup a with
 | some o=>
  have e:=X a o hk;rw[C] at e;cases e;refine t (λb=>if b∈Ts.map (·.2) then KF (.tbl #[]) else KM) (λq j=>qL (ay.mpr ⟨q,j,rfl⟩)) (.inr ⟨_,vs.toArray,_,hk,rfl,rfl,rfl,by rw[aP,L6];exact hl,by simpa using rv⟩) (λb u z=>?_) (λb z=>?_) (.inl (q0 LV))
  ·by_cases g:b∈Ts.map (·.2)
   ·have l:=(qL g).symm.trans z;cases l;obtain⟨q,j,rfl⟩:=ay.mp g;exact A q j
   ·have l:=(q0 g).symm.trans z;cases l
  ·by_cases g:b∈Ts.map (·.2)
   ·exact .inr (ay.mp g)
   ·exact absurd (q0 g) z
 | none=>
  refine t (λb=>if b∈Ts.map (·.2) then KF (.tbl #[]) else if b=a then KF (.frz { cls:=.type "list",data:=.seq vs.toArray } (.lst (ns.map V.int))) else KM) (λq j=>qL (ay.mpr ⟨q,j,rfl⟩)) (.inl (.inr ⟨{ cls:=.type "list",data:=.seq vs.toArray },(q0 LV).trans (qL rfl)⟩)) (λb u z=>?_) (λb z=>?_) (.inr ⟨hk,_,_,(q0 LV).trans (qL rfl)⟩)
  ·by_cases g:b∈Ts.map (·.2)
   ·have l:=(qL g).symm.trans z;cases l;obtain⟨q,j,rfl⟩:=ay.mp g;exact A q j
   ·by_cases G:b=a
    ·have l:=((q0 g).trans (qL G)).symm.trans z;cases l;subst G;exact⟨C,by rw[ax];exact hl,vs,_,rv,C⟩
    ·have l:=((q0 g).trans (q0 G)).symm.trans z;cases l
  ·by_cases g:b∈Ts.map (·.2)
   ·exact .inr (ay.mp g)
   ·by_cases G:b=a
    ·exact .inl G
    ·exact absurd ((q0 g).trans (q0 G)) z
noncomputable def AX(K:ai)(Ec:XK->Nat->Hp->Prop)(n:Nat)(P1 P2:af)(F:pD):Sp:=λvs H Q E=>vs.length=n/\∃XV μ ds O,nW K H XV μ ds vs/\nV K H XV μ O/\oi H P1/\oi H P2/\qt (Ec E) K H XV μ (F ds O) Q
def Gh(n i j P1 P2:Nat)(t:DS):pD:=λds O=>fin (t (((ds.map KF++aM (n-ds.length) KM).set i (KF (.tab P1))).set j (KF (.tab P2))) O)
def Yo{Cl:Nat->ae}{P:aD}{w:aR}{K:ai}{C:au->Option ae}{base:aL}{k i j:Nat}{f q P2:af}{x y:au}{name a:au}{g:eu}{body:List cN}{scope:bS}{D F m G n ct L:ae}{I M:Option af}{R:Array (Option ae)}{N z:List au}{t:DS}
  (T:K.lookup f=KF ⟨L,M,.func (bd name a g body scope D F m G I n ct),R⟩) (U:cS K n a=qb) (S:rj N z scope) (V:N[i]?=KF x) (W:¬ rG scope x) (X:N[j]?=KF y) (Y:¬ rG scope y)
  (Z:∀(A:aU)(b:List Env)(s:ag)(H:Hp)(E:XK),nZ k (A.deeper (aT a scope s.heap.objs.size f n))->rn (tN Cl P w K C base N a scope f n A b s H E) (Xk Cl E) body t):
  oj P w K C base (qR P w Cl) (k+1) f (bd name a g body scope D F m G I n ct) z (AX K (Xk Cl) z.length q P2 (Gh N.length i j q P2 t)):=by
 refine qv T U S (λvs H Q E h=>h.1) λA b s H vs Q E hr h=>?_;obtain⟨hl,B,μ,J,O,d,c,t1,t2,l⟩:=h;refine⟨_,rL.fake (v:=.bl qj) V W (rL.fake (v:=.bl qj) X Y (Z A b s H E hr).out),B,μ,_,O,((EG d N).set (d:=.tab q) (v:=.bl qj) (by unfold Y2;exact⟨rfl,t1⟩) i).set (d:=.tab P2) (v:=.bl qj) (by unfold Y2;exact⟨rfl,t2⟩) j,c,?_⟩;unfold Gh at l;generalize t (((J.map KF++aM (N.length-J.length) KM).set i (KF (.tab q))).set j (KF (.tab P2))) O=r at l;cases r with
 |nx σ O'=>exact λa_ o p x e u=>l .non o p x u zw
 |rt d' O'=>exact λv o p x u r=>l v o p x u r
 |bk σ O'=>exact ah l
 |ct σ O'=>exact ah l
 |exc u O'=>exact λo p x c2=>l o p x c2
 |bad=>exact ah l
def Wf{Cl:Nat->ae}{P:aD}{w:aR}{K:ai}{h:au->Option ae}{base:aL}{k i j:Nat}{f c l P2:af}{d:dB}{x z y:au}{a:cN}{N g:List au}{t:DS}(m:L2.Fun K x x a f d)(n:d.code=.ref c)(S:rj N g (pF a))(o:N[i]?=KF z)(p:¬ rG (pF a) z)(q:N[j]?=KF y)(r:¬ rG (pF a) y)
  (u:∀(A:aU)(b:List Env)(s:ag)(H:Hp)(E:XK),nZ k (A.deeper (aT x (pF a) s.heap.objs.size f (.ref c)))->rn (tN Cl P w K h base N x (pF a) f (.ref c) A b s H E) (Xk Cl E) (rV a) t):
  oj P w K h base (qR P w Cl) (k+1) f d g (AX K (Xk Cl) g.length l P2 (Gh N.length i j l P2 t)):=by obtain⟨F,G,I,v,J,L,B,M,O,rfl,C,D⟩:=m.ex;have e:B=.ref c:=n;subst e;exact Yo C D S o p q r u
def Xn{K:ai}{Ec:XK->Nat->Hp->Prop}{f P2:af}{F:pD}{H:Hp}{a:af}{ns:List Int}(h:∃O,F [.lst (ns.map .int)] []=.ok (.bl qb) O)(g:H f=KF (.tbl #[]))(i:H P2=KF (.tbl #[]))(j:qr K H a (ns.map V.int)):AX K Ec 1 f P2 F [.ref a] H (λv _=>v=.bl qb) λ_ _ _=>False:=by obtain⟨e,b,k,l,O,d,c,m,q⟩:=XX (Ec:=Ec) h g j;exact⟨e,b,k,l,O,d,c,m,oi.empty i,q⟩
def walk2{l:lP}{q:aD}{loose:List au}{XP:(au->Option ae)->aL->Prop}{y:aR->aL->Prop}{d:DefRec}{K:iG->ai}{Cl:Nat->ae}{k:Nat}{x xd:au}{F:Nat->Nat->pD}{α:Type}{Yf:ag->α}{Ya:aR->α}(hn:l.most=KF 63)(MP:d.params.defaults=[])(hr:nZ k callerA)
  (MX:∀w s,Yf s=Ya w->y w s.heap) (MW:∀w h h',y w h->(∀b o,h.get? b=KF o->h'.get? b=KF o)->y w h')
  (hY:∀(w:aR)(h:aL),y w h->(K w.params).In h) (r8:(lG q).find? (λe=>e.name==d.name)=KF d) (Fk:((lG q).find? (λe=>e.name==xd)).isSome=qb)
  (hF:∀(w:aR)(i:au->Option ae)(A:af)(h:aL),(K w.params).In h->h.Ns bP i->i d.name=KF (.ref A)->
   jc (K w.params)=qb/\∃(c Pt j P2:af),gr (K w.params) d.name=KF (c,Pt)/\gr (K w.params) xd=KF (j,P2)/\∃C:dB,(∀(s:ag)(u:ae),iE s C ⟨[u],[]⟩ [(x,u)])/\∀base:aL,(K w.params).In base->base.Ns bP i->tI i base c Pt->tI i base j P2->oj l.prog w (K w.params) i base (qR l.prog w Cl) k A C [x] (AX (K w.params) (Xk Cl) 1 Pt P2 (F Pt P2)))
  (n:∀(Pt P2:Nat)(ns:List Int),ns.length<=63->∃O,F Pt P2 [.lst (ns.map .int)] []=.ok (.bl qb) O):
  PySem.W.WalkX q loose XP (λs=>(Yf s,decide (0<s.toks))) (λw=>(Ya w,qb)) l.row.toRowW d [] (λf vs=>PySem.call f vs):=by
 refine Att.attach_call hn MP MX MW λw M N i mb A o pm cd doc a vs ns G Y ho P pQ Ft BJ r m hg pP=>?_;have B:=hY w _ Y;obtain⟨hK,c,Pt,j,P2,ht,D,C,hb,hG⟩:=hF w i A _ B G.T.g Ft;obtain⟨hC,Q⟩:=nw G.T B r8 ht;obtain⟨dd,S⟩:=gN.mp Fk;have E:dd.name=xd:=by simpa using List.find?_some S
 subst E;obtain⟨I,U⟩:=nw G.T B S D;have V:∀{p:af},N.heap.get? p=KF (kI #[])->N.heap.BuiltinsAt i p:=λ{p}hp=>by
  obtain⟨bm,ob,b1,b2,v,X,b5,J⟩:=G.T.bmain;refine⟨bm,ob,b1,b2,λq=>?_,λq=>?_,v,X,b5,J⟩
  ·obtain⟨o,es,ep,e,P,_⟩:=G.T.g;rw[q,e] at v;cases v;rw[P] at J;cases J
  ·rw[q,hp] at v;cases v;cases X
 have t:∀{R:af×af->Prop},R (c,Pt)->R (j,P2)->∀z∈[(c,Pt),(j,P2)],R z:=λ{R}r1 r2 z hz=>by
  rcases aq.mp hz with rfl|hz
  ·exact r1
  ·rw[bV.mp hz];exact r2
 exact zah (Ts:=[(c,Pt),(j,P2)]) B G.T.g G.T.b G.T.builtins G.T.nolimit hg pP BJ r (aF m 's') hr (t hC I) (t Q U) hK (t (V Q) (V U)) (λbase k1 k2 L=>hG base k1 k2 (L (c,Pt) 'd') (L (j,P2) 'd')) hb (λH Z hS=>Xn (n Pt P2 ns m) (Z (c,Pt) 'd') (Z (j,P2) 'd') hS) λH e s' ⟨_,_,_,_,_,_,_,_,_,_,z⟩=>z
end DL
namespace DL
open PySem L2 PyProof.Rows
def oK(A:aU)(s:ag)(x y:ae)(b:Bool):Prop:=∀(prog:aD)(w:aR)(E Q:ae->ag->Prop),Q (.bool b) s->ar (av prog w) A (richCompare .Lt x y) Q E s
noncomputable def Ce(e lt:Nat->Bool):l_->Option Bool
 |[]=>KM
 |j::r=>if e j=qb then Ce e lt r else KF (lt j)
def Df(e lt:Nat->Bool)(n m:Nat):Bool:=(Ce e lt (a9 (min n m))).getD (decide (n<m))
set_option maxHeartbeats 4000000 in
def z9W(l b:af)(a c:Array ae)(n J:Nat)(dd K:Option af)(sl L:Array (Option ae))(e r:Nat->Bool):
  Meets (fx.«tuple.__lt__» ⟨[.ref l,.ref b],[]⟩)
   (λA R s=>s.heap.get? l=KF { cls:=.type "tuple",dict:=dd,data:=.seq a n,slots:=sl }/\s.heap.get? b=KF { cls:=.type "tuple",dict:=K,data:=.seq c J,slots:=L }/\
    (∀j(F:j<a.size)(G:j<c.size),iC A.in1 s a[j] c[j] (e j)/\(e j=qj->oK A.in1 s a[j] c[j] (r j)))/\
    R (.ok (.ret (.bool (Df e r a.size c.size)))) s):=
 .of_wp λf w A R s h=>by
  obtain⟨t,g,d,u,v⟩:=s;obtain⟨M,N,z,h⟩:=h;have V:=AutoSeq1.sub_tuple_tuple;have H:(a.toList.zip c.toList).length=min a.size c.size:=by simp
  wp_walk using wpAny_loadPart' M,wpAny_loadPart' N,wpAny_forIn_list _ (λm b B=>b.1=KM/\B=⟨t,g,d,u,v⟩/\∃i,m=(a.toList.zip c.toList).drop i/\
   R (.ok (.ret (.bool ((Ce e r ((a9 (min a.size c.size)).drop i)).getD (decide (a.size<c.size)))))) ⟨t,g,d,u,v⟩) _
  case turn=>
   rintro⟨y,x⟩ m b B ⟨C,rfl,i,o,k⟩;have I:i<(a.toList.zip c.toList).length:=by
    rcases gZ i (a.toList.zip c.toList).length with h'|h'
    ·exact h'
    ·rw[dI h'] at o;cases o
   have D:i<min a.size c.size:=H▸I;have F:i<a.size:=aY D (Nat.min_le_left _ _);have G:i<c.size:=aY D (mJ _ _);rw[cb I] at o;injection o with US qX;have p:y=a[i]:=by have:=congrArg jM US;simpa using this
   have O:x=c[i]:=by have:=congrArg kW US;simpa using this
   subst p O;have P:(a9 (min a.size c.size)).drop i=i::(a9 (min a.size c.size)).drop (i+1):=by simp[cb,D]
   rw[P] at k;unfold Ce at k;obtain⟨z,S⟩:=z i F G;refine aa (z f w _ _ ?_);cases p:e i with
   | true=>
    rw[p,qL rfl] at k
    wp_walk
    exact⟨rfl,rfl,i+1,qX,k⟩
   | false=>
    rw[p,q0 's'] at k;have T:∀{E Q:ae->ag->Prop},Q (.bool (r i)) ⟨t,g,d,u,v⟩->ar (av f w) A.in1 (richCompare .Lt a[i] c[i]) Q E ⟨t,g,d,u,v⟩:=λq=>S p f w _ _ q
    wp_walk using T
    exact⟨_,rfl,k⟩
  case fin=>
   rintro⟨W,X⟩ B ⟨C,rfl,i,o,k⟩;simp only at C;subst C;have U:min a.size c.size<=i:=by
    rcases gZ i (a.toList.zip c.toList).length with h'|h'
    ·rw[cb h'] at o;cases o
    ·exact H▸h'
   rw[dI ⇑U] at k
   wp_walk
   exact⟨_,rfl,k⟩
  case h=>
   exact⟨rfl,rfl,0,rfl,h⟩
def oK.tuples(p:s.heap.IsTuple l items)(q:s.heap.IsTuple b o4)(r:A.units<cLine)
  (t:∀j(h1:j<items.size)(h2:j<o4.size),iC A.in1 s items[j] o4[j] (e j)/\(e j=qj->oK A.in1 s items[j] o4[j] (lt j))):oK A s (.ref l) (.ref b) (Df e lt items.size o4.size):=λd w E Q h=>by
 obtain⟨⟨u,v,f,y⟩,g,i,n,k⟩:=id p;obtain⟨⟨D,z,c,B⟩,m,o,C,a⟩:=id q;simp only at i k o a;subst i k o a;exact richCompare_meets_room (op:=.Lt) ⟨_,g,rfl⟩ ⟨_,m,rfl⟩ F.slot_tuple_lt F.entry_tuple_lt (F.args_tuple_lt_2 _ _) (z9W l b items o4 n C v z y B e lt)
  ⟨g,m,t,show mS (Df e lt items.size o4.size)≠Value.notImplemented/\Q (.bool (Df e lt items.size o4.size)) s from ⟨(λx=>nomatch x),h⟩⟩ r
theorem KL:∀{l:List ae}{b:j_},TS.allS l=KF b->l.length=b.length/\∀j(h:j<l.length),∃x t,l[j]=.str x t/\x.cps.toList=b.getD j []
 |[],b,h=>by cases h;exact⟨rfl,λj h=>absurd h (Nat.not_lt_zero _)⟩
 | v::l,b,h=>by
  unfold TS.allS at h;split at h
  ·rename_i a r d f;cases h;obtain⟨e,g⟩:=KL f;refine⟨by rw[a7,a7,e],λj c=>?_⟩
   match j,c with
   |0,_=>exact TS.str_of d
   |j+1,c=>exact g j ⇑c
  ·cases h
def Zn{x y:au}:decide (x=y)=decide (x.cps.toList=y.cps.toList):=by
 by_cases e:x=y
 ·subst e;simp
 ·have a:x.cps.toList≠y.cps.toList:=λh=>e (by
   cases x;cases y;dsimp only at h;rw[iB.mp h])
  rw[decide_eq_false e,decide_eq_false a]
def eK(ks ls:j_)(j:Nat):Bool:=decide (ks.getD j []=ls.getD j [])
def lK(ks ls:j_)(j:Nat):Bool:=decide (ks.getD j []<ls.getD j [])
theorem R9:∀(f d:j_)(i:Nat)(e c:Nat->Bool),(∀j,e (i+j)=eK f d j)->(∀j,c (i+j)=lK f d j)->Ce e c (List.range' i (min f.length d.length))=TS.lexR f d
 |[],d,i,e,c,_,_=>by rw[fJ,Nat.zero_min];cases d<;>rfl
 |a::as,[],i,e,c,_,_=>rfl
 | a::as,b::bs,i,e,c,h1,h2=>by
  rw[a7,a7,Nat.succ_min_succ,List.range'_succ];unfold Ce TS.lexR;have g:e i=decide (a=b):=h1 0;have h:c i=decide (a<b):=h2 0;rw[g,h,R9 as bs (i+1) e c (λj=>by rw[ir,iQ 1 j];exact h1 (j+1)) (λj=>by rw[ir,iQ 1 j];exact h2 (j+1))];by_cases q:a=b<;>simp[q]
def Zl(a b:j_):Df (eK a b) (lK a b) a.length b.length=decide (a<b):=by unfold Df;rw[List.range_eq_range',R9 a b 0 _ _ (λj=>by rw[iY]) (λj=>by rw[iY]),<- TS.lexR_lt];cases TS.lexR a b<;>rfl
def Xx(c d:j_):((a9 (min c.length d.length)).all (eK c d)&&c.length==d.length)=decide (c=d):=by
 rw[eF,bi,aH,beq_iff_eq,decide_eq_true_eq];constructor
 ·rintro⟨e,f⟩;refine List.ext_getElem f λj a b=>?_;have:=of_decide_eq_true (e j (cq.mpr 'o'));rwa [bE,bE,aC a,aC b] at this
 ·rintro rfl;exact⟨λj _=>decide_eq_true rfl,rfl⟩
def Hu(x:TS.TupS h (.ref a) ks):∃o b c,h.get? a=KF o/\o.cls=.type "tuple"/\o.data=.seq b c/\TS.allS b.toList=KF ks:=by obtain⟨t,o,b,c,e,r⟩:=x.ok;cases e;exact⟨o,b,c,r⟩
section
variable{A:aU}{s:ag}
def RO{a b:af}{f h:j_}(m:TS.TupS s.heap (.ref a) f)(n:TS.TupS s.heap (.ref b) h):∃xs e:Array ae,s.heap.IsTuple a xs/\s.heap.IsTuple b e/\xs.size=f.length/\e.size=h.length/\∀j(m:j<xs.size)(n:j<e.size),iC A s xs[j] e[j] (eK f h j)/\oK A s xs[j] e[j] (lK f h j):=by obtain⟨o,xs,c,g,r,v,z⟩:=Hu m;obtain⟨B,e,C,D,F,i,G⟩:=Hu n;obtain⟨H,I⟩:=KL z;obtain⟨J,K⟩:=KL G;refine⟨xs,e,⟨o,g,r,c,v⟩,⟨B,D,F,C,i⟩,by simpa using H,by simpa using J,λj L M=>?_⟩;obtain⟨x,t,q,k⟩:=I j ⇑L;obtain⟨y,u,p,N⟩:=K j ⇑M;rw[eG] at q p;unfold eK lK;rw[q,p,<- k,<- N];exact⟨λd w E Q l=>jI (by rw[Zn];exact l),λd w E Q l=>show ar (av d w) A (cm nN _ _) _ E s from P.lt_str l⟩
def eq_tups(f:TS.TupS s.heap (.ref a) ks)(i:TS.TupS s.heap (.ref b) ls)(m:A.units<cLine):iC A s (.ref a) (.ref b) (decide (ks=ls)):=by
 by_cases e:a=b
 ·subst e;obtain⟨o,n,c,g,x,p,q⟩:=Hu f;obtain⟨y,r,z,k,B,d,l⟩:=Hu i;rw[g] at k;cases k;rw[p] at d;cases d;rw[q] at l;cases l;rw[decide_eq_true rfl];exact nR _
 ·obtain⟨n,r,t,u,v,w,h⟩:=RO (A:=A.in1) f i;rw[<- Xx,<- v,<- w];exact .of_refs e (.tuples t u m λj a b=>(h j a b).1)
def lt_tups(c:TS.TupS s.heap (.ref a) ks)(d:TS.TupS s.heap (.ref b) ls)(e:A.units<cLine):oK A s (.ref a) (.ref b) (decide (ks<ls)):=by obtain⟨l,m,f,g,i,k,h⟩:=RO (A:=A.in1) c d;rw[<- Zl,<- i,<- k];exact .tuples f g e λj a b=>⟨(h j a b).1,λ_=>(h j a b).2⟩
abbrev KX:Type:=Int×j_
structure Nt(h:aL)(v:ae)(k:KX):Prop where
 ok:∃a t b,v=.ref a/\h.IsTuple a #[.int k.1 t,.ref b]/\TS.TupS h (.ref b) k.2
def Nt.mono(d:∀c o,h.get? c=KF o->h'.get? c=KF o)(x:Nt h v k):Nt h' v k:=by obtain⟨a,t,b,rfl,⟨o,g,r⟩,e⟩:=x.ok;exact⟨a,t,b,rfl,⟨o,d _ _ g,r⟩,(e.mono d).1⟩
end
end DL
namespace DL
open PySem L2
def Jq{Cl:Nat->ae}{P:aD}{w:aR}{K:ai}{e:au->Option ae}{base:aL}{k i:Nat}{Pt:af}{x z:au}{b:cN}{N d:List au}{t:DS}(h:qg K e x b)(S:rj N d (pF b))(l:N[i]?=KF z)(m:¬ rG (pF b) z)
  (n:∀(o g p:ae)(q:Option af)(c r:ae)(j:List ae),j.length=d.length->bindArgs (bd x x (uF b) (rV b) (pF b) .none o g p q c r) ⟨j,[]⟩=pure (d.zip j))
  (u:∀(f:af)(c:ae)(A:aU)(a:List Env)(s:ag)(H:Hp)(E:XK),nZ k (A.deeper (aT x (pF b) s.heap.objs.size f c))->rn (tN Cl P w K e base N x (pF b) f c A a s H E) (Xk Cl E) (rV b) t):
  CM Cl P w K e base x (k+1) d.length Pt (vB N.length i Pt t):=by obtain⟨f,v,y,F⟩:=h;exact⟨f,v,d,y,F.kp,F.binds n,Wa F S l m λc A a s H E B=>u f c A a s H E B⟩
end DL
namespace TS
open PySem PyProof.Rows
section
variable{prog:aD}{w:aR}{A:aU}{E:ae->ag->Prop}{s:ag}
def Zq{o:Bool}{a b:Int}{t u:Tok}{Q:Bool->ag->Prop}(q:Q (decide (a<b)) s):ar (av prog w) A (oneLt' o (.int a t) (.int b u)) Q E s:=by
 cases o with
 |true=>exact oneLt_int q
 | false=>
  rw[oneLt'_eq,q0 's'];refine aa (show ar (av prog w) A (cm nN _ _) _ E s from wpAny_lt_int ?_);exact ao q
def Lc{M:gE}{f:(ae×ae)×Nat->(Option Bool×Unit)->Sem (ForInStep (Option Bool×Unit))}{a:(ae×ae)×Nat}{l:List ((ae×ae)×Nat)}{Q:Option Bool×Unit->ag->Prop}{e b:Bool}(d:∀c:ForInStep (Option Bool×Unit)->ag->Prop,c (if e=qb then .yield (KM,()) else .done (KF b,())) s->ar M A (f a (KM,())) c E s)
  (g:e=qb->ar M A (forIn l (KM,()) f) Q E s) (h:e=qj->Q (KF b,()) s):ar M A (forIn (a::l) (KM,()) f) Q E s:=by
 rw[fM];refine aa (d _ ?_);cases e with
 |true=>exact g rfl
 |false=>exact ao (h rfl)
def Lb{h:aL}{v:ae}{k:K3}(ok:Trip h v k):∃tk,v_ h v=KF (.int k.1 tk):=by obtain⟨t,o,c,x,y,b,rfl,g,d,a,e⟩:=ok.ok;exact⟨x,by rw[Hn g a];rfl⟩
def z6G{vs:List ae}(z:2<=vs.length)(K:A.units+2<cLine)(B:∀v∈vs,∃k,Trip s.heap v k){Q:KT->ag->Prop}(q:∀kd:KT,uJ prog w A s (Hm s.heap) kd->Q kd s):ar (av prog w) A (keyKind' vs.toArray) Q E s:=by
 show ar (av prog w) A (_ >>= _) Q E s;refine aa (Hc (v_ s.heap) vs (λv n a d=>?_) ?_)
 ·obtain⟨k,p⟩:=B v n;obtain⟨t,o,c,x,y,b,rfl,g,W,O,hb⟩:=p.ok;show ar (av prog w) A (typeOf (.ref t) >>= _) a E s;refine aa (wpAny_typeOf_ref g ?_);rw[W];show ar (av prog w) A (fR (.ref t) >>= _) a E s;refine aa (fB g O (ao ?_));rw[<- Hn g O];exact d
 ·have X:((vs.map (v_ s.heap)).toArray.all λx=>x.isSome)=qb:=by
   rw[iA,aH];intro x m;obtain⟨v,n,rfl⟩:=ay.mp m;obtain⟨k,p⟩:=B v n;obtain⟨C,e⟩:=Lb p;rw[e];rfl
  rw[qL X];refine aa (dW ?_);have F:∀u∈(vs.map (v_ s.heap)).filterMap id,∃y C,u=.int y C:=λu K=>by
   obtain⟨x,m,e⟩:=gM.mp K;obtain⟨v,n,rfl⟩:=ay.mp m;obtain⟨k,p⟩:=B v n;obtain⟨C,G⟩:=Lb p;rw[G] at e;injection e with e;exact⟨_,C,e.symm⟩
  have H:(vs.map (v_ s.heap)).filterMap id≠[]:=by
   match vs,z,B with
   | v::_,_,B=>
    obtain⟨k,p⟩:=B v am;obtain⟨C,G⟩:=Lb p;rw[bz,G];simp
  rw[kr];generalize (vs.map (v_ s.heap)).filterMap id=D at *;refine aa ?_;show ar (av prog w) A (mW typeOf D.toArray >>= _) _ E s;refine aa (Hc (λ_=>cI "int") D (λv n a d=>?_) ?_)
  ·obtain⟨y,C,rfl⟩:=F v n;exact ao d
  ·have Y:((D.map λ_=>cI "int").toArray)[0]?=KF (cI "int"):=by
    cases D with
    |nil=>exact absurd rfl H
    |cons _ _=>rfl
   rw[Y];have L:((D.map λ_=>cI "int").toArray.all λx=>x==cI "int")=qb:=by
    rw[iA,aH];intro x m;obtain⟨_,_,rfl⟩:=ay.mp m;rfl
   show ar (av prog w) A (pure (if ((D.map λ_=>cI "int").toArray.all λx=>x==cI "int")=qb then KF (cI "int") else KM)) _ E s;rw[L];refine ao (ao (q _ ?_));intro x y M a m J l;obtain⟨j,m⟩:=m;obtain⟨f,J⟩:=J;have Z:ky (Hm s.heap) x=j:=by unfold ky;rw[m];rfl
   have eb:ky (Hm s.heap) y=f:=by unfold ky;rw[J];rfl
   rw[Z,eb] at l;obtain⟨t,o,c,x1,y1,b,L,g1,d1,P⟩:=Qt m;obtain⟨t2,o2,c2,x2,y2,R,G,g2,d2,S⟩:=Qt J;have T:A.units<cLine:=gR (gi _ _) K;rw[L,G];show ar (av prog w) A (fR (.ref t) >>= _) a M s;have U:∀{o:Bool}{i k:Int}{t u:Tok}(a:ForInStep (Option Bool×Unit)->ag->Prop),a (if (i==k)=qb then .yield (KM,()) else .done (KF (decide (i<k)),())) s->ar (av prog w) A (eqBool (.int i t) (.int k u) >>= λr=>if (!r)=qb then oneLt' o (.int i t) (.int k u) >>= λq=>pure (.done (KF q,())) else pure (.yield (KM,()))) a M s:=λ{o i k t u}a d=>by
    refine aa (wpAny_eqBool_int ?_);cases h:(i==k) with
    |true=>rw[h] at d;exact ao d
    |false=>rw[h] at d;exact aa (Zq (ao d))
   have fr:∀(a:ForInStep (Option Bool×Unit)->ag->Prop),a (if decide (j.2.2=f.2.2)=qb then .yield (KM,()) else .done (KF (decide (j.2.2<f.2.2)),())) s->ar (av prog w) A (eqBool (.ref b) (.ref R) >>= λr=>if (!r)=qb then oneLt' qj (.ref b) (.ref R) >>= λq=>pure (.done (KF q,())) else pure (.yield (KM,()))) a M s:=λa d=>by
    refine aa (DL.eq_tups P S T _ _ _ _ ?_);cases h:decide (j.2.2=f.2.2) with
    |true=>rw[h] at d;exact ao d
    | false=>
     rw[h] at d;refine aa ?_;rw[oneLt'_eq,q0 's'];exact aa (DL.lt_tups P S T _ _ _ _ (ao (ao d)))
   refine aa (fB g1 d1 (aa (fB g2 d2 (aa (Lc (λa d=>U a d) (λI=>Lc (λa d=>U a d) (λz=>Lc (λa d=>fr a d) (λV=>ao ?_) λV=>?_) λz=>?_) λI=>?_)))))
   all_goals
    replace l:a (lt3 j f) s:=l
   ·have e:lt3 j f=qj:=by
     have N:¬ f.2.2<f.2.2:=llt_irrefl _;unfold lt3;simp[eq_of_beq I,eq_of_beq z,of_decide_eq_true V,N]
    rw[e] at l;exact ao l
   ·have e:lt3 j f=decide (j.2.2<f.2.2):=by
     unfold lt3;simp[eq_of_beq I,eq_of_beq z]
    rw[e] at l;exact ao l
   ·have e:lt3 j f=decide (j.2.1<f.2.1):=by
     have n2:=ne_of_beq_false z;unfold lt3;simp[eq_of_beq I,n2]
    rw[e] at l;exact ao l
   ·have e:lt3 j f=decide (j.1<f.1):=by
     have N:=ne_of_beq_false I;unfold lt3;simp[N]
    rw[e] at l;exact ao l
end
def sorted_trips{prog:aD}{w:aR}{A:aU}{E:ae->ag->Prop}{s:ag}{l:af}{vs:List ae}{Q:ae->ag->Prop}(u:A.in1.in1.units+2<cLine)(z:s.heap.IsList l vs.toArray)(d:∀v∈vs,∃k,Trip s.heap v k)(j:vs.length<=4000000)
  (h:∀a:Array ae,a.toList.Perm vs->a.toList.Pairwise (λx y=>lt3 ((tripAt s.heap y).getD (0,0,[])) ((tripAt s.heap x).getD (0,0,[]))=qj)->Q (.ref (s.heap.objs.size+1)) { heap:=sortedAll s.heap vs a,gens:=s.gens,drawn:=s.drawn,toks:=s.toks,os:=s.os }):ar (av prog w) A (call (.builtin "sorted") [.ref l]) Q E s:=by
 have n:vs.length<=q9:=aF j 's';refine gK mF lW lX (lY _) ?_;unfold fx.«sorted»;refine aa (m:=checkCount "sorted" 1 1 _) (ao ?_);refine aa (collect_list z (aa (gu ?_ n)) n);have c:∀b o,s.heap.get? b=KF o->(((s.heap.push (seqObj "list" #[] 0)).update s.heap.objs.size (bt λx=>x++vs.toArray)).push (seqObj "list" vs.toArray 0)).get? b=KF o:=λb o e=>by
  have B:s.heap.objs.size≠b:=λq=>absurd (aI e) (by rw[<- q];exact bU _);exact aj _ ((bA _ _ B).trans (aj _ e))
 have p:(((s.heap.push (seqObj "list" #[] 0)).update s.heap.objs.size (bt λx=>x++vs.toArray)).push (seqObj "list" vs.toArray 0)).get? ((s.heap.push (seqObj "list" #[] 0)).update s.heap.objs.size (bt λx=>x++vs.toArray)).objs.size=KF (seqObj "list" vs.toArray 0):=aN _ rfl;have D:((s.heap.push (seqObj "list" #[] 0)).update s.heap.objs.size (bt λx=>x++vs.toArray)).objs.size=s.heap.objs.size+1:=by rw[fA,cD]
 refine aa (bI (cF kP ⟨_,p,rfl⟩ j4 (T7 (K:=Hm s.heap) (ko:=tripAt) (C:=λh v=>∃k,Trip h v k) (λ{h h'}c{v}⟨k,x⟩=>⟨⟨k,x.mono c⟩,by rw[x.at_,(x.mono c).at_]⟩) (λ{h v}⟨k,x⟩=>⟨k,x.at_⟩) (λF d q=>z6G F u d q) p (λv i=>by
  obtain⟨k,f⟩:=d v i;exact⟨k,f.mono λb o g _=>c b o g⟩) j λa r G=>⟨_,rfl,?_⟩) (kQ _)))
 refine ao ⟨_,rfl,?_⟩;have t:∀v∈a.toList,tripAt (((s.heap.push (seqObj "list" #[] 0)).update s.heap.objs.size (bt λx=>x++vs.toArray)).push (seqObj "list" vs.toArray 0)) v=tripAt s.heap v:=λv i=>by
  obtain⟨k,f⟩:=d v (r.mem_iff.mp i);rw[f.at_,(f.mono λb o g _=>c b o g).at_]
 have H:a.toList.Pairwise (λx y=>lt3 ((tripAt s.heap y).getD (0,0,[])) ((tripAt s.heap x).getD (0,0,[]))=qj):=by
  refine gX ?_ G;intro x y I J L;rw[<- t x I,<- t y J];exact L
 have:=h a r H;unfold sortedAll at this;rw[<- D] at this;exact this
end TS
namespace DL
open PySem L2 PyProof.Rows
open TS (K3 lt3)
def AN:List D->Option (List K3)
 |[]=>KF []
 | .tup [.int i,.int j,.tup ds]::r=>match ux ds,AN r with
  |some ks,KF t=>KF ((i,j,ks)::t)
  |_,_=>KM
 |_=>KM
def Cq(x:K3):List K3->List K3
 |[]=>[x]
 |y::l=>if lt3 y x=qb then y::Cq x l else x::y::l
def xQ(l:List K3):List K3:=l.foldr Cq []
def to3(k:K3):D:=.tup [.int k.1,.int k.2.1,toT k.2.2]
theorem Ry:∀l:List K3,AN (l.map to3)=KF l
 |[]=>rfl
 | x::l=>by
  show(match ux (x.2.2.map D.str),AN (l.map to3) with|some ks,KF t=>KF ((x.1,x.2.1,ks)::t)|_,_=>KM)=_;rw[strL_map,Ry l]
theorem QR:∀{ds:List D}{a:List K3},AN ds=KF a->ds=a.map to3
 |[],a,h=>by cases h;rfl
 | d::ds,a,h=>by
  unfold AN at h;split at h
  ·rename_i e;cases e
  ·rename_i i j f r e;cases e;split at h
   ·rename_i g l b c;cases h;rw[bz,<- QR c,Kk b];rfl
   ·cases h
  ·cases h
def D1:Ow->List D->R D:=λO xs=>match xs with
 | [x]=>match sR O x with
  | some ds=>match AN ds with
   |some pN=>if pN.length<=4000000 then .ok (.lst ((xQ pN).map to3)) O else .bad
   |none=>.bad
  |none=>.bad
 |_=>.bad
abbrev vP(a b:K3):Prop:=lt3 b a=qj
def vP.trans{a b c:K3}(d:vP a b)(f:vP b c):vP a c:=by
 cases h:lt3 c a with
 |false=>exact h
 | true=>
  cases e:lt3 b c with
  |true=>exact absurd (TS.lt3_tr e h) (by rw[d];decide)
  |false=>rw[<- TS.lt3_tot e f] at h;rw[d] at h;cases h
theorem KY(x:K3):∀l,(Cq x l).Perm (x::l)
 |[]=>d0 _
 | y::l=>by
  unfold Cq;split
  ·exact((KY x l).cons y).trans (nv x y l)
  ·exact d0 _
theorem CS:∀l,(xQ l).Perm l
 |[]=>d0 _
 |x::l=>(KY x (xQ l)).trans ((CS l).cons x)
theorem Sq(x:K3):∀l,l.Pairwise vP->(Cq x l).Pairwise vP
 |[],_=>d7 _ _
 | y::l,h=>by
  unfold Cq;have b:=bb.mp h;split
  ·rename_i c;refine bb.mpr ⟨λz hz=>?_,Sq x l b.2⟩;rcases aq.mp ((KY x l).mem_iff.mp hz) with rfl|hz
   ·show lt3 z y=qj;cases d:lt3 z y with
    |false=>rfl
    |true=>exact absurd (TS.lt3_tr d c) (by rw[TS.lt3_irr];decide)
   ·exact b.1 z hz
  ·rename_i a;have a:vP x y:=jy.mpr a;refine bb.mpr ⟨λz hz=>?_,h⟩;rcases aq.mp hz with rfl|hz
   ·exact a
   ·exact vP.trans a (b.1 z hz)
theorem KG:∀l,(xQ l).Pairwise vP
 |[]=>dM
 |x::l=>Sq x _ (KG l)
theorem S_:∀{a b:List K3},a.Pairwise vP->b.Pairwise vP->a.Perm b->a=b
 |[],b,_,_,p=>p.nil_eq
 |x::a,[],_,_,p=>absurd p.symm.nil_eq 'd'
 | x::a,y::b,ha,hb,p=>by
  have c:=bb.mp ha;have d:=bb.mp hb;have e:x=y:=by
   have f:vP y x:=by
    rcases aq.mp (p.mem_iff.mp am) with h|h
    ·rw[h];exact TS.lt3_irr _
    ·exact d.1 x h
   have g:vP x y:=by
    rcases aq.mp (p.mem_iff.mpr am) with h|h
    ·rw[h];exact TS.lt3_irr _
    ·exact c.1 y h
   exact TS.lt3_tot f g
  subst e;rw[S_ c.2 d.2 (jo p)]
def Jt(K:ai)(H:Hp)(v:V)(k:K3):Prop:=∃t b,v=.ref t/\rH K H t [.int k.1,.int k.2.1,.ref b]/\Jv K H (.ref b) k.2.2
section
variable{X:Cx}{Ex:Nat->Hp->Prop}{H:Hp}{XV μ:List af}
def Pc(K:ai):List V->Hp->VK->Prop:=λxs H Q=>∃p vs pN,∃R:V->K3->Prop,xs=[.ref p]/\qr K H p vs/\vw R vs pN/\(∀v k,R v k->Jt K H v k)/\vs.length<=4000000/\∀l qV t7,vw R qV t7->t7.Perm pN->t7.Pairwise vP->H l=KM->Q (.ref l) (upd H l (.lst qV))
def k3(h:aL)(u:ae):K3:=(TS.tripAt h u).getD (0,0,[])
def za1{a b c:V}{d:List ae}(h:nY [a,b,c] d):∃x y z,d=[x,y,z]/\RelV a x/\RelV b y/\RelV c z:=by
 match d,h with
 |_,.cons h1 (.cons h2 (.cons h3 .nil))=>exact⟨_,_,_,rfl,h1,h2,h3⟩
def YA{a:List (af×Obj)}{s:ag}{σ:L2.St}{v:V}{u:ae}{k:K3}(I:L2.Inv X a σ H s)(h:Jt X.K H v k)(r:RelV v u):TS.Trip s.heap u k/\vT u=v:=by obtain⟨t,b,rfl,i,f,e,j⟩:=h;cases e;cases r;obtain⟨F,l,⟨o,g,m,n,p⟩,_⟩:=I.tuple i;obtain⟨x,y,z,rfl,⟨q,rfl⟩,⟨f,rfl⟩,w⟩:=za1 l;cases w;obtain⟨A,c,⟨B,C,D,E,d⟩,_⟩:=I.tuple j;exact⟨⟨_,o,n,q,f,b,rfl,g,m,p,b,B,A.toArray,E,rfl,C,D,d,by simpa using Hz c⟩,rfl⟩
theorem Qy{a:List (af×Obj)}{σ:L2.St}{s:ag}(I:L2.Inv X a σ H s){R:V->K3->Prop}(d:∀v k,R v k->Jt X.K H v k):∀{vs:List V}{b:List K3}{c:List ae},vw R vs b->nY vs c->c.map (k3 s.heap)=b/\∀u∈c,R (vT u) (k3 s.heap u)/\RelV (vT u) u/\∃k,TS.Trip s.heap u k
 |[],[],_,_,.nil=>⟨rfl,λ_ h=>by cases h⟩
 |[],_::_,_,h,_=>h.elim
 |v::vs,[],_,h,_=>h.elim
 | v::vs,k::b,u::us,⟨h1,h2⟩,.cons r hv=>by
  obtain⟨e,j⟩:=Qy I d h2 hv;obtain⟨f,g⟩:=YA I (d v k h1) r;have i:k3 s.heap u=k:=by unfold k3;rw[f.at_];rfl
  refine⟨by rw[bz,i,e],λu hu=>?_⟩;rcases aq.mp hu with rfl|hu
  ·exact⟨by rw[i,g];exact h1,by rw[g];exact r,k,f⟩
  ·exact j u hu
theorem SR{α:Type}{R:V->α->Prop}{f:ae->α}:∀{l:List ae},(∀u∈l,R (vT u) (f u))->vw R (l.map vT) (l.map f)
 |[],_=>trivial
 |u::l,h=>⟨h u am,SR λv a=>h v (ak _ a)⟩
def za5(D:X.A.units+64<cLine):oh X (.builtin "sorted") (Pc X.K):=by intro f s E H F G Q I r h;obtain⟨p,J,L,R,rfl,k,l,m,n,q⟩:=h;obtain⟨u,rfl,o⟩:=uy r;cases o;obtain⟨g,i,t,M⟩:=I.list k;obtain⟨w,c⟩:=Qy I m l i;have b:=i.length.symm;refine TS.sorted_trips (by show X.A.units+1+1+2<cLine;lia) t.isList (λv x=>(c v x).2.2) 'o' λa d y=>?_;obtain⟨e,B⟩:=sortedAll_at s.heap g a;have C:=I.hok.fresh (eB _);have j:∀u∈a.toList,u∈g:=λu h=>d.mem_iff.mp h;refine⟨.ref _,_,I.laid (λ_ _ z=>sortedAll_old z) (eB _) ?_,rfl,q _ _ _ (SR λu h=>(c u (j u h)).1) (by rw[<- w];exact d.map _) (ee.mpr y) C⟩;refine⟨?_,a.toList,e,KO λu h=>(c u (j u h)).2.1,by rw[B]⟩;rw[ax,d.length_eq,b];exact aF n 's'
theorem Rk{K:ai}:∀{a:List K3}{vs:List V},nW K H XV μ (a.map to3) vs->vw (λv k=>Y2 K H XV μ (to3 k) v) vs a
 |[],vs,h=>by subst h;trivial
 | k::a,vs,h=>by
  obtain⟨v,r,rfl,b,c⟩:=h;exact⟨b,Rk c⟩
theorem Ru{K:ai}:∀{a:List K3}{vs:List V},vw (λv k=>Y2 K H XV μ (to3 k) v) vs a->nW K H XV μ (a.map to3) vs
 |[],[],_=>by unfold nW;rfl
 |[],_::_,h=>h.elim
 |_::_,[],h=>h.elim
 |k::a,v::vs,h=>⟨v,vs,rfl,h.1,Ru h.2⟩
def zdr:uA X Ex (Pc X.K) D1:=by
 intro H XV μ O J L Q c d q;unfold D1 at q;split at q
 ·rename_i x;obtain⟨v,rfl,n⟩:=tO d;split at q
  ·rename_i M e;obtain⟨p,o,rfl,r,a⟩:=uB c n e;split at q
   ·rename_i b s;obtain⟨u,q⟩:=post.ite q;have w:=QR s;rw[w] at a;have A:=Rk a;refine⟨p,o,b,_,rfl,r,A,λv k B=>?_,by rw[<- a.length,ax];exact u,λl N P C D E f=>?_⟩
    ·obtain⟨t,R,rfl,F,G⟩:=Ai B rfl;obtain⟨x,y,z,rfl,h,i,I⟩:=Wm G;unfold Y2 at h i;subst h;subst i;obtain⟨j,S,rfl,m,g⟩:=Ai I rfl;rw[Hg g (strL_map k.2.2)] at m;exact⟨t,j,rfl,F,j,rfl,m⟩
    ·have e:=S_ E (KG b) (D.trans (CS b).symm);subst e;exact post.ok q (.laid f) (c.laid f) (Y2.newL c f (Ru C))
   ·exact ah q
  ·exact ah q
 ·exact ah q
end
end DL
namespace DLC
section
variable{α:Type}[DecidableEq α]
abbrev Held(α:Type):=List (l_×List α)
def keys(h:Held α):j_:=h.map (·.1)
def hold(h:Held α)(x:α):j_:=(h.filter λkv=>kv.2.contains x).map (·.1)
noncomputable def at_(h:Held α)(t:l_):List α:=((h.find? λkv=>decide (kv.1=t)).map (·.2)).getD []
def drop(h:Held α)(t:l_):Held α:=h.filter λkv=>decide (kv.1≠t)
noncomputable def minGo(f:α->Nat):List α->α->α
 |[],b=>b
 |x::xs,b=>if f x<f b then minGo f xs x else minGo f xs b
def left(h:Held α)(w:List α)(t:l_):List α:=w.filter λx=>!(at_ h t).contains x
def covL(rec:Held α->List α->List j_)(h:Held α)(w:List α):j_->Held α->List j_
 |[],_=>[]
 |t::ts,r=>(rec (drop r t) (left h w t)).map (t :: ·)++covL rec h w ts (drop r t)
def cov:Nat->Held α->List α->List j_
 |_,_,[]=>[[]]
 |0,_,_::_=>[]
 |m+1,h,x::w=>covL (cov m) h (x::w) (hold h (minGo (λy=>(hold h y).length) w x)) h
theorem minGo_mem(f:α->Nat):∀(l:List α)(b:α),minGo f l b=b\/minGo f l b∈l
 |[],b=>.inl rfl
 | x::xs,b=>by
  unfold minGo;split
  ·rcases minGo_mem f xs x with h|h
   ·exact .inr (by rw[h];exact am)
   ·exact .inr (ak _ h)
  ·rcases minGo_mem f xs b with h|h
   ·exact .inl h
   ·exact .inr (ak _ h)
def Cov(h:Held α)(w:List α)(S:j_):Prop:=(∀t∈S,t∈keys h)/\∀x∈w,∃t∈S,x∈at_ h t
def mem_drop{h:Held α}{t:l_}{kv:l_×List α}:kv∈drop h t↔kv∈h/\kv.1≠t:=by unfold drop;simp
def keys_drop{h:Held α}{t s:l_}:s∈keys (drop h t)↔s∈keys h/\s≠t:=by
 unfold keys;simp only[ay,mem_drop];constructor
 ·rintro⟨a,⟨b,c⟩,rfl⟩;exact⟨⟨a,b,rfl⟩,c⟩
 ·rintro⟨⟨a,b,rfl⟩,c⟩;exact⟨a,⟨b,c⟩,rfl⟩
def nd_drop{h:Held α}{t:l_}(n:(keys h).Nodup):(keys (drop h t)).Nodup:=by exact n.sublist ((gD).map _)
def Qm{h:Held α}{t s:l_}(b:s≠t):at_ (drop h t) s=at_ h s:=by
 unfold at_ drop;congr 2
 induction h with
 |nil=>rfl
 | cons kv r ih=>
  by_cases e:kv.1=t
  ·rw[cP ⇑e,fT (by simpa using λz=>b (z.symm.trans e)),ih]
  ·rw[cQ ⇑e];by_cases a:kv.1=s
   ·rw[im ⇑a,im ⇑a]
   ·rw[fT ⇑a,fT ⇑a,ih]
def at_mem{h:Held α}(n:(keys h).Nodup){kv:l_×List α}(m:kv∈h):at_ h kv.1=kv.2:=by
 unfold at_
 induction h with
 |nil=>cases m
 | cons a r ih=>
  unfold keys at n;rw[bz,bq] at n;rcases aq.mp m with rfl|m
  ·rw[im 'd'];rfl
  ·have b:a.1≠kv.1:=λz=>n.1 (z▸ay.mpr ⟨kv,m,rfl⟩);rw[fT ⇑b];exact ih n.2 m
def mem_hold{h:Held α}(n:(keys h).Nodup){x:α}{t:l_}:t∈hold h x↔t∈keys h/\x∈at_ h t:=by
 unfold hold;simp only[ay,bw,cu];constructor
 ·rintro⟨b,⟨a,c⟩,rfl⟩;exact⟨ay.mpr ⟨b,a,rfl⟩,by rw[at_mem n a];exact c⟩
 ·rintro⟨a,c⟩;obtain⟨b,d,rfl⟩:=ay.mp a;exact⟨b,⟨d,by rw[<- at_mem n d];exact c⟩,rfl⟩
def hold_nd{h:Held α}(n:(keys h).Nodup)(x:α):(hold h x).Nodup:=by exact n.sublist ((gD).map _)
def oO{h:Held α}{w:List α}{t:l_}{x:α}:x∈left h w t↔x∈w/\x∉at_ h t:=by unfold left;simp
theorem cov_sound:∀(m:Nat){h:Held α}{w:List α}{c:j_},(keys h).Nodup->c∈cov m h w->c.length<=m/\c.Nodup/\Cov h w c
 | m,h,[],c,n,hc=>by
  have:c=[]:=by unfold cov at hc;simpa using hc
  subst this;exact⟨ck _,f8,⟨λ_ z=>(bG z).elim,λ_ z=>(bG z).elim⟩⟩
 |0,h,x::w,c,n,hc=>by unfold cov at hc;cases hc
 | m+1,h,x::w,c,n,hc=>by
  have v:∀(b:j_)(r:Held α),(∀t∈b,t∈keys h)->(∀a∈r,a∈h)->(keys r).Nodup->c∈covL (cov m) h (x::w) b r->c.length<=m+1/\c.Nodup/\Cov h (x::w) c:=by
   intro b
   induction b with
   |nil=>intro r _ _ _ hc;cases hc
   | cons t b ih=>
    intro r g j k hc;rcases aS.mp hc with hc|hc
    ·obtain⟨p,A,rfl⟩:=ay.mp hc;obtain⟨B,C,q,D⟩:=cov_sound m (nd_drop k) A;have d:∀s∈p,s∈keys h/\s≠t:=λs hs=>by
      obtain⟨l,o⟩:=keys_drop.mp (q s hs);obtain⟨a,i,rfl⟩:=ay.mp l;exact⟨ay.mpr ⟨a,j a i,rfl⟩,o⟩
     have f:∀s∈p,at_ (drop r t) s=at_ h s:=λs hs=>by
      obtain⟨l,o⟩:=keys_drop.mp (q s hs);rw[Qm o];obtain⟨a,i,rfl⟩:=ay.mp l;rw[at_mem k i,at_mem n (j a i)]
     refine⟨by simpa using B,bq.mpr ⟨λz=>(d t z).2 rfl,C⟩,λs hs=>?_,λy E=>?_⟩
     ·rcases aq.mp hs with rfl|hs
      ·exact g s am
      ·exact(d s hs).1
     ·by_cases e:y∈at_ h t
      ·exact⟨t,am,e⟩
      ·obtain⟨s,u,F⟩:=D y (oO.mpr ⟨E,e⟩);exact⟨s,ak _ u,by rw[<- f s u];exact F⟩
    ·exact ih (drop r t) (λs hs=>g s (ak _ hs)) (λa G=>j a (mem_drop.mp G).1) (nd_drop k) hc
  exact v _ h (λt g=>(mem_hold n).mp g |>.1) (λ_ h=>h) n hc
def cov_some:∀(m:Nat){h:Held α}{w:List α}{S:j_},(keys h).Nodup->Cov h w S->S.length<=m->∃c∈cov m h w,∀t∈c,t∈S
 |m,h,[],S,n,hS,hl=>⟨[],by unfold cov;simp,λ_ z=>(bG z).elim⟩
 | 0,h,x::w,S,n,hS,hl=>by
  obtain⟨t,a,_⟩:=hS.2 x am;have:S=[]:=cx.mp 'o';subst this;cases a
 | m+1,h,x::w,S,n,hS,hl=>by
  unfold cov;generalize u:minGo (λy=>(hold h y).length) w x=y;have G:y∈x::w:=by
   rcases minGo_mem (λy=>(hold h y).length) w x with e|e
   ·rw[<- u,e];exact am
   ·rw[<- u];exact ak _ e
  obtain⟨s,v,H⟩:=hS.2 y G;have hs:=(mem_hold n).mpr ⟨hS.1 s v,H⟩;have I:∀(b:j_)(r:Held α),(∃t∈b,t∈S)->(∀d∈r,d∈h)->(keys r).Nodup->(∀t∈S,t∈keys r)->b.Nodup->∃c∈covL (cov m) h (x::w) b r,∀t∈c,t∈S:=by
   intro b
   induction b with
   |nil=>rintro r ⟨_,h,_⟩;cases h
   | cons t b ih=>
    intro r g A i f J;by_cases a:t∈S
    ·have K:Cov (drop r t) (left h (x::w) t) (S.filter λs=>decide (s≠t)):=by
      refine⟨λs hs=>?_,λz L=>?_⟩
      ·obtain⟨j,k⟩:=bw.mp hs;exact keys_drop.mpr ⟨f s j,by simpa using k⟩
      ·obtain⟨j,k⟩:=oO.mp L;obtain⟨l,B,C⟩:=hS.2 z j;have D:l≠t:=λe=>k (e▸C);refine⟨l,bw.mpr ⟨B,by simpa using D⟩,?_⟩;rw[Qm D];obtain⟨d,E,rfl⟩:=ay.mp (f l B);rw[at_mem i E,<- at_mem n (A d E)];exact C
     have N:(S.filter λs=>decide (s≠t)).length<S.length:=by
      rcases gZ (S.filter λs=>decide (s≠t)).length S.length with z|z
      ·exact z
      ·have e:=gD.eq_of_length (j6 (bo _ _) z);rw[<- e] at a;have:=(bw.mp a).2;simp at this
     obtain⟨c,o,p⟩:=cov_some m (nd_drop i) K 'o';refine⟨t::c,bN _ (ay.mpr ⟨c,o,rfl⟩),λs hs=>?_⟩;rcases aq.mp hs with rfl|hs
     ·exact a
     ·exact(bw.mp (p s hs)).1
    ·obtain⟨M,q,F⟩:=g;have q:=(aq.mp q).resolve_left (λe=>a (e▸F));obtain⟨c,o,p⟩:=ih (drop r t) ⟨M,q,F⟩ (λd f=>A d (mem_drop.mp f).1) (nd_drop i) (λs hs=>keys_drop.mpr ⟨f s hs,λe=>a (e▸hs)⟩) (bq.mp J).2;exact⟨c,aw _ o,p⟩
  exact I _ h ⟨s,hs,v⟩ (λ_ h=>h) n hS.1 (hold_nd n y)
end
section
variable{α:Type}[DecidableEq α]
def drop_lt{r:Held α}{t:l_}(b:t∈keys r):(drop r t).length<r.length:=by
 obtain⟨a,h,rfl⟩:=ay.mp b;rcases gZ (drop r a.1).length r.length with z|z
 ·exact z
 ·have e:drop r a.1=r:=gD.eq_of_length (j6 (bo _ _) z);rw[<- e] at h;exact absurd rfl (mem_drop.mp h).2
theorem Rm(a:∀r w,(keys r).Nodup->(rec r w).length<=2 ^ r.length):∀(ts:j_)(r:Held α),(∀t∈ts,t∈keys r)->ts.Nodup->(keys r).Nodup->(covL rec h w ts r).length<=2 ^ r.length
 |[],r,_,_,_=>ck _
 | t::ts,r,hk,nt,nr=>by
  unfold covL;rw[aB,ax];have d:=a (drop r t) (left h w t) (nd_drop nr);have f:=Rm (h:=h) (w:=w) a ts (drop r t) (λs b=>keys_drop.mpr ⟨hk s (ak _ b),λe=>(bq.mp nt).1 (e▸b)⟩) (bq.mp nt).2 (nd_drop nr);have c:2 ^ ((drop r t).length+1)<=2 ^ r.length:=cX 'o' (drop_lt (hk t am));rw[l7] at c;lia
theorem cov_pow:∀(m:Nat)(h:Held α)(w:List α),(keys h).Nodup->(cov m h w).length<=2 ^ h.length
 |m,h,[],_=>by unfold cov;exact l8
 |0,h,x::w,_=>by unfold cov;exact ck _
 | m+1,h,x::w,n=>by
  unfold cov;exact Rm (cov_pow m) _ h (λt a=>((mem_hold n).mp a).1) (hold_nd n _) n
theorem perm_of_sub:∀{c S:j_},c.Nodup->(∀t∈c,t∈S)->S.length<=c.length->c.Perm S
 | [],S,_,_,h=>by
  have:S=[]:=cx.mp (Nat.le_zero.mp h);rw[this]
 | a::c,S,n,hs,h=>by
  have b:=hs a am;have d:=bq.mp n;have:=perm_of_sub (S:=S.erase a) d.2 (λt f=>(lf (λe:t=a=>d.1 (e▸f))).mpr (hs t (ak _ f))) (by
   rw[jS b];rw[a7] at h;lia)
  exact(this.cons a).trans (List.perm_cons_erase b).symm
structure Lm(h:Held α)(w:List α)(m:Nat):Prop where
 nd:(keys h).Nodup
 ne:cov m h w≠[]
 no:∀j,j<m->cov j h w=[]
def Lm.le{h:Held α}{w:List α}{m:Nat}(z:Lm h w m){S:j_}(b:Cov h w S):m<=S.length:=by
 rcases gZ S.length m with g|g
 ·obtain⟨c,a,_⟩:=cov_some S.length z.nd b (aE _);rw[z.no _ g] at a;cases a
 ·exact g
def Lm.len{h:Held α}{w:List α}{m:Nat}(z:Lm h w m){c:j_}(a:c∈cov m h w):c.length=m:=by obtain⟨d,_,b⟩:=cov_sound m z.nd a;have:=z.le b;lia
def Lm.all{h:Held α}{w:List α}{m:Nat}(z:Lm h w m){S:j_}(d:Cov h w S)(b:S.length=m):∃c∈cov m h w,c.Perm S:=by obtain⟨c,a,e⟩:=cov_some m z.nd d (gY b);exact⟨c,a,perm_of_sub (cov_sound m z.nd a).2.1 e (by rw[z.len a,b];exact aE _)⟩
end
section
variable{α:Type}[DecidableEq α]
theorem Qe{m:Nat}{h:Held α}{w:List α}{b:j_}:∀(ts:j_)(r:Held α),(keys r).Nodup->b∈covL (cov m) h w ts r->∀s∈b,s∈ts\/s∈keys r
 |[],_,_,hb,_,_=>by cases hb
 | t::ts,r,n,hb,s,hs=>by
  rcases aS.mp hb with hb|hb
  ·obtain⟨c,a,rfl⟩:=ay.mp hb;rcases aq.mp hs with rfl|hs
   ·exact .inl am
   ·exact .inr (keys_drop.mp ((cov_sound m (nd_drop n) a).2.2.1 s hs)).1
  ·rcases Qe ts (drop r t) (nd_drop n) hb s hs with z|z
   ·exact .inl (ak _ z)
   ·exact .inr (keys_drop.mp z).1
theorem SF{m:Nat}(f:∀(r:Held α)(w:List α),(keys r).Nodup->(cov m r w).Pairwise λa b=>¬ a.Perm b){h:Held α}{w:List α}:∀(ts:j_)(r:Held α),ts.Nodup->(keys r).Nodup->(covL (cov m) h w ts r).Pairwise λa b=>¬ a.Perm b
 |[],_,_,_=>dM
 | t::ts,r,d,n=>by
  have d:=bq.mp d;refine bF.mpr ⟨ee.mpr ((f _ _ (nd_drop n)).imp λ{a b}z e=>z (jo e)),SF f ts _ d.2 (nd_drop n),λa g b i e=>?_⟩;obtain⟨c,j,rfl⟩:=ay.mp g;rcases Qe ts (drop r t) (nd_drop n) i t (e.mem_iff.mp am) with z|z
  ·exact d.1 z
  ·exact(keys_drop.mp z).2 rfl
theorem cov_once:∀(m:Nat)(h:Held α)(w:List α),(keys h).Nodup->(cov m h w).Pairwise λa b=>¬ a.Perm b
 |m,h,[],_=>by unfold cov;exact d7 _ _
 |0,h,x::w,_=>by unfold cov;exact dM
 | m+1,h,x::w,n=>by
  unfold cov;exact SF (cov_once m) _ h (hold_nd n _) n
end
end DLC
namespace DLB
def mkN(p:Nat->Bool):Nat->Nat
 |0=>0
 |N+1=>mkN p N+(if p N=qb then 2 ^ N else 0)
theorem JQ(p:Nat->Bool):∀N,mkN p N<2 ^ N
 |0=>Nat.one_pos
 | N+1=>by
  have:=JQ p N;unfold mkN;split<;>lia
theorem mkN_bit(p:Nat->Bool)(i:Nat):∀N,(mkN p N).testBit i=(decide (i<N)&&p i)
 |0=>by unfold mkN;simp
 | N+1=>by
  have b:=mkN_bit p i N;have c:=JQ p N;unfold mkN;rcases Nat.lt_trichotomy i N with h|h|h
  ·have e:decide (i<N+1)=qb:=by simp;lia
   rw[decide_eq_true h] at b;rw[e];split
   ·rw[iQ,Nat.testBit_two_pow_add_gt h];exact b
   ·exact b
  ·subst h;have z:=ku c;by_cases a:p i=qb
   ·rw[qL a,iQ,Nat.testBit_two_pow_add_eq,z,a];simp
   ·rw[q0 a,lU,z];simp[a]
  ·have e:decide (i<N+1)=qj:=by simp;lia
   rw[e,m7];have d:=JQ p (N+1);exact ku (aY d (cX 's' h))
def orM{α:Type}(g:α->Nat)(l:List α):Nat:=l.foldl (λa t=>a ||| g t) 0
theorem Py{α:Type}(g:α->Nat)(i:Nat):∀(l:List α)(a:Nat),(l.foldl (λa t=>a ||| g t) a).testBit i=(a.testBit i||l.any λt=>(g t).testBit i)
 |[],a=>by simp
 |t::l,a=>by rw[fO,Py g i l,Nat.testBit_or,fD,Bool.or_assoc]
def orM_bit{α:Type}(g:α->Nat)(l:List α)(i:Nat):(orM g l).testBit i=l.any λt=>(g t).testBit i:=by unfold orM;rw[Py,Nat.zero_testBit,lp]
def orM_app{α:Type}(g:α->Nat)(l:List α)(t:α):orM g (l++[t])=orM g l ||| g t:=by unfold orM;rw[jB];rfl
theorem sum_mkN(p:Nat->Bool):∀N,(((a9 N).filter p).map λi=>((2 ^ i:Nat):Int)).sum=(mkN p N:Nat)
 |0=>rfl
 | N+1=>by
  rw[List.range_succ,g7,dq,List.sum_append,sum_mkN p N];have e:mkN p (N+1)=mkN p N+(if p N=qb then 2 ^ N else 0):=rfl;rw[e,eM,j7];by_cases h:p N=qb
  ·rw[qL h,qL h];simp
  ·rw[q0 h,q0 h];simp
noncomputable def UI(r:l_):Nat:=match r.getLast? with
 |some k=>k+1
 |none=>0
def ext(many:Nat)(r:l_):j_:=(a9 (many-UI r)).map λi=>r++[UI r+i]
end DLB
namespace DL
open PySem L2
def Gk:List au->Bool
 |[]=>qb
 |x::l=>!(l.contains x)&&Gk l
theorem uY:∀{l:List au},Gk l=qb->l.Nodup
 |[],_=>f8
 | x::l,h=>by
  unfold Gk at h;rw[bi,fW] at h;refine bq.mpr ⟨λm=>?_,uY h.2⟩;rw[cu.mpr m] at h;exact Bool.noConfusion h.1
noncomputable def Jm:Option dj->Bool
 |some .local=>qb
 |some .cell=>qb
 |_=>qj
def Zs(h:Jm o=qb):o=KF .local\/o=KF .cell:=by
 unfold Jm at h;split at h
 ·exact .inl rfl
 ·exact .inr rfl
 ·cases h
def kNf:dj->Bool
 |.free=>qj
 |_=>qb
def Vq(N P:List au)(sc:bS):Bool:=Gk N&&(N.take P.length==P)&&P.all (λx=>Jm (sc.names.lookup x))&&sc.names.all (λy=>kNf y.2)
def fnS(f:sc.kind=.function)(g:sc.isCoroutine=qj)(i:sc.isGenerator=qj)(h:Vq N P sc=qb):rj N P sc:=by unfold Vq at h;simp only[bi] at h;obtain⟨⟨⟨a,b⟩,c⟩,d⟩:=h;refine⟨f,g,i,uY a,eq_of_beq b,λx j=>Zs (aH.mp c x j),λy k e=>?_⟩;have:=aH.mp d y k;rw[e] at this;cases this
end DL
namespace DL
open PySem
noncomputable def pl:Nat->D->Bool
 |n,.non=>qb
 |n,.int _=>qb
 |n,.str cs=>cs.all (· < 1114112)
 |n+1,.lst ds=>ds.all (pl n)
 |n+1,.tup ds=>ds.all (pl n)
 |_,_=>qj
theorem Hy{α β:Type}{f:α->Option β}:∀{l:List α},(∀x∈l,∃y,f x=KF y)->∃m,pM f l=KF m
 |[],_=>⟨[],rfl⟩
 | x::l,h=>by
  obtain⟨y,a⟩:=h x am;obtain⟨m,b⟩:=Hy λz c=>h z (ak _ c);exact⟨y::m,by unfold pM;rw[a,b]⟩
def G5(O:Ow):∀(n:Nat)(d:D),pl n d=qb->∃p,qA O n d=KF p:=by
 intro n
 induction n with
 | zero=>
  intro d h;cases d with
  |non=>exact⟨_,rfl⟩
  |int i=>exact⟨_,rfl⟩
  | str cs=>
   refine⟨.str ⟨cs.toArray⟩,?_⟩;show yw cs=_;unfold yw;rw[qL (by simpa [pl] using h)]
  |_=>simp[pl] at h
 | succ n ih=>
  intro d h;cases d with
  |non=>exact⟨_,rfl⟩
  |int i=>exact⟨_,rfl⟩
  | str cs=>
   refine⟨.str ⟨cs.toArray⟩,?_⟩;show yw cs=_;unfold yw;rw[qL (by simpa [pl] using h)]
  | lst ds=>
   obtain⟨m,a⟩:=Hy λx b=>ih x (aH.mp h x b);exact⟨.list m,by show(pM (qA O n) ds).map fw=_;rw[a];rfl⟩
  | tup ds=>
   obtain⟨m,a⟩:=Hy λx b=>ih x (aH.mp h x b);exact⟨.tuple m,by show(pM (qA O n) ds).map gT=_;rw[a];rfl⟩
  |_=>simp[pl] at h
theorem Tz{f:D->Option d6}(R:∀x y p q,f x=KF p->f y=KF q->pl 0 x=pl 0 x->True){P:D->Prop}(e:∀x y p q,P x->P y->f x=KF p->f y=KF q->(be p q=qb↔x=y)):
  ∀(xs a:List D)(b c:List d6),(∀x∈xs,P x)->(∀y∈a,P y)->pM f xs=KF b->pM f a=KF c->(fk b c=qb↔xs=a)
 |[],[],b,c,_,_,e1,e2=>by cases e1;cases e2;simp[fk]
 | [],y::a,b,c,_,_,e1,e2=>by
  cases e1;unfold pM at e2;split at e2
  ·cases e2;simp[fk]
  ·cases e2
 | x::xs,[],b,c,_,_,e1,e2=>by
  cases e2;unfold pM at e1;split at e1
  ·cases e1;simp[fk]
  ·cases e1
 | x::xs,y::a,b,c,h1,h2,e1,e2=>by
  unfold pM at e1 e2;split at e1
  ·rename_i p g i j;cases e1;split at e2
   ·rename_i q h k l;cases e2;have m:=e x y p q (h1 x am) (h2 y am) i k;have n:=Tz R e xs a g h (λz d=>h1 z (ak _ d)) (λz d=>h2 z (ak _ d)) j l;show(be p q&&fk g h)=qb↔_;rw[bi,m,n,List.cons.injEq]
   ·cases e2
  ·cases e1
def yN(h:yw cs=KF p):p=.str ⟨cs.toArray⟩:=by
 unfold yw at h;split at h
 ·cases h;rfl
 ·cases h
def Q9(a b:l_):be (.str ⟨a.toArray⟩) (.str ⟨b.toArray⟩)=qb↔D.str a=D.str b:=by
 show((⟨a.toArray⟩:au)==⟨b.toArray⟩)=qb↔_;rw[beq_iff_eq];constructor
 ·intro h;have h:a.toArray=b.toArray:=by injection h
  rw[show a=b by simpa using congrArg lI h]
 ·intro h;injection h with h;rw[h]
def OZ(O:Ow):∀(n:Nat)(x y:D)(p q:d6),pl n x=qb->pl n y=qb->qA O n x=KF p->qA O n y=KF q->(be p q=qb↔x=y):=by
 intro n
 induction n with
 | zero=>
  intro x y p q v l m f;cases x with
  | non=>cases m;cases y with
   |non=>cases f;simp[be]
   |int j=>cases f;simp[be]
   |str b=>have:=yN f;subst this;simp[be]
   |_=>simp[pl] at l
  | int i=>cases m;cases y with
   |non=>cases f;simp[be]
   |int j=>cases f;simp[be]
   |str b=>have:=yN f;subst this;simp[be]
   |_=>simp[pl] at l
  | str a=>have:=yN m;subst this;cases y with
   |non=>cases f;simp[be]
   |int j=>cases f;simp[be]
   |str b=>have:=yN f;subst this;exact Q9 a b
   |_=>simp[pl] at l
  |_=>simp[pl] at v
 | succ n ih=>
  have w:∀s k g r,(s.all (pl n))=qb->(k.all (pl n))=qb->pM (qA O n) s=KF g->pM (qA O n) k=KF r->(fk g r=qb↔s=k):=λs k g r z A m f=>
   Tz (λ_ _ _ _ _ _ _=>trivial) (λx y p q a b c d=>ih x y p q a b c d) s k g r (aH.mp z) (aH.mp A) m f
  have t:∀{o:List D}{p},qA O (n+1) (.lst o)=KF p->∃g,pM (qA O n) o=KF g/\p=.list g:=λ{o p}e=>by
   have e:(pM (qA O n) o).map fw=KF p:=e;cases h:pM (qA O n) o with
   |none=>rw[h] at e;cases e
   |some g=>rw[h] at e;cases e;exact⟨g,rfl,rfl⟩
  have u:∀{o:List D}{p},qA O (n+1) (.tup o)=KF p->∃g,pM (qA O n) o=KF g/\p=.tuple g:=λ{o p}e=>by
   have e:(pM (qA O n) o).map gT=KF p:=e;cases h:pM (qA O n) o with
   |none=>rw[h] at e;cases e
   |some g=>rw[h] at e;cases e;exact⟨g,rfl,rfl⟩
  intro x y p q v l m f;cases x with
  | non=>cases m;cases y with
   |non=>cases f;simp[be]
   |int j=>cases f;simp[be]
   |str b=>have:=yN f;subst this;simp[be]
   |lst k=>obtain⟨_,_,rfl⟩:=t f;simp[be]
   |tup k=>obtain⟨_,_,rfl⟩:=u f;simp[be]
   |_=>simp[pl] at l
  | int i=>cases m;cases y with
   |non=>cases f;simp[be]
   |int j=>cases f;simp[be]
   |str b=>have:=yN f;subst this;simp[be]
   |lst k=>obtain⟨_,_,rfl⟩:=t f;simp[be]
   |tup k=>obtain⟨_,_,rfl⟩:=u f;simp[be]
   |_=>simp[pl] at l
  | str a=>have:=yN m;subst this;cases y with
   |non=>cases f;simp[be]
   |int j=>cases f;simp[be]
   |str b=>have:=yN f;subst this;exact Q9 a b
   |lst k=>obtain⟨_,_,rfl⟩:=t f;simp[be]
   |tup k=>obtain⟨_,_,rfl⟩:=u f;simp[be]
   |_=>simp[pl] at l
  | lst s=>obtain⟨g,z,rfl⟩:=t m;cases y with
   |non=>cases f;simp[be]
   |int j=>cases f;simp[be]
   |str b=>have:=yN f;subst this;simp[be]
   | lst k=>
    obtain⟨r,A,rfl⟩:=t f;show fk g r=qb↔_;rw[w s k g r v l z A,D.lst.injEq]
   |tup k=>obtain⟨_,_,rfl⟩:=u f;simp[be]
   |_=>simp[pl] at l
  | tup s=>obtain⟨g,z,rfl⟩:=u m;cases y with
   |non=>cases f;simp[be]
   |int j=>cases f;simp[be]
   |str b=>have:=yN f;subst this;simp[be]
   |lst k=>obtain⟨_,_,rfl⟩:=t f;simp[be]
   | tup k=>
    obtain⟨r,A,rfl⟩:=u f;show fk g r=qb↔_;rw[w s k g r v l z A,D.tup.injEq]
   |_=>simp[pl] at l
  |_=>simp[pl] at v
def OC(O:Ow)(a:pl 8 x=qb)(c:pl 8 y=qb)(f:b=qb↔x=y):pA qC O x y=.ok (.bl b) O/\pA rW O x y=.ok (.bl !b) O:=by obtain⟨p,d⟩:=G5 O 8 x a;obtain⟨q,e⟩:=G5 O 8 y c;have h:=OZ O 8 x y p q a c d e;have:=eF.mpr (h.trans f.symm);unfold pA py;rw[d,e];subst this;exact⟨rfl,rfl⟩
theorem R_(b:pl n x=qb)(c:qA O n x=KF p):∀(l:List D)(a:List d6),(l.all (pl n))=qb->pM (qA O n) l=KF a->((a.any λy=>be y p)=qb↔x∈l)
 |[],a,_,e=>by cases e;simp
 | y::l,a,h,e=>by
  unfold pM at e;split at e
  ·rename_i q d f g;cases e;rw[lu,bi] at h;rw[fD,gH,OZ O n y x q p h.1 b f c,R_ b c l d h.2 g,aq];exact⟨λz=>z.imp Eq.symm id,λz=>z.imp Eq.symm id⟩
  ·cases e
def zay(O:Ow):∀(n:Nat)(d:D)(p:d6),pl n d=qb->qA O n d=KF p->qA O (n+1) d=KF p:=by
 intro n
 induction n with
 |zero=>intro d p h e;cases d<;>first|exact e|(simp[pl] at h)
 | succ n ih=>
  have f:∀(a:List D)b,(a.all (pl n))=qb->pM (qA O n) a=KF b->pM (qA O (n+1)) a=KF b:=by
   intro a
   induction a with
   |nil=>intro b _ e;exact e
   | cons x a ihd=>
    intro b h e;rw[lu,bi] at h;unfold pM at e ⊢;split at e
    ·rename_i q g j k;rw[ih x q h.1 j,ihd g h.2 k];exact e
    ·cases e
  intro d p h e;cases d with
  | lst a=>
   have e:(pM (qA O n) a).map fw=KF p:=e;show(pM (qA O (n+1)) a).map fw=KF p;cases c:pM (qA O n) a with
   |none=>rw[c] at e;cases e
   |some b=>rw[c] at e;rw[f a b h c];exact e
  | tup a=>
   have e:(pM (qA O n) a).map gT=KF p:=e;show(pM (qA O (n+1)) a).map gT=KF p;cases c:pM (qA O n) a with
   |none=>rw[c] at e;cases e
   |some b=>rw[c] at e;rw[f a b h c];exact e
  |non=>exact e
  |int i=>exact e
  |str cs=>exact e
  |_=>simp[pl] at h
def Wu(O:Ow){x y:D}{l:List D}(j:pl 7 x=qb)(n:l.all (pl 7)=qb)(a:sR O y=KF l\/y=.tup l){b:Bool}(q:b=qb↔x∈l):yp O x y=.ok (.bl b) O/\y7 O x y=.ok (.bl !b) O:=by
 obtain⟨p,o⟩:=G5 O 7 x j;obtain⟨m,d⟩:=Hy λz r=>G5 O 7 z (aH.mp n z r);have h:=R_ j o l m n d;have e:=eF.mpr (h.trans q.symm);have f:py O x=KF p:=zay O 7 x p j o;rcases a with a|rfl
 ·have c:py O y=KF (.list m):=by
   cases y with
   |lst ds=>cases a;show(pM (qA O 7) l).map fw=_;rw[d];rfl
   | own k=>
    have a:O[k]?=KF l:=a;show(match O[k]? with|some ds=>(pM (qA O 7) ds).map fw|none=>KM)=_;rw[a];dsimp only;rw[d];rfl
   |_=>cases a
  have g:pA Ay O x y=.ok (.bl b) O:=by unfold pA;rw[f,c];subst e;rfl
  have i:pA Ci O x y=.ok (.bl !b) O:=by unfold pA;rw[f,c];subst e;rfl
  cases y with
  |lst ds=>exact⟨g,i⟩
  |own k=>exact⟨g,i⟩
  |_=>cases a
 ·have c:py O (.tup l)=KF (.tuple m):=by show(pM (qA O 7) l).map gT=_;rw[d];rfl
  have g:pA Ay O x (.tup l)=.ok (.bl b) O:=by unfold pA;rw[f,c];subst e;rfl
  have i:pA Ci O x (.tup l)=.ok (.bl !b) O:=by unfold pA;rw[f,c];subst e;rfl
  exact⟨g,i⟩
def Kl(c:t σ O=.ok (.bl a) O)(d:a=qb->u σ O=.ok (.bl b) O):y0 t u σ O=.ok (.bl (a&&b)) O:=by
 show((t σ O).bnd _)=_;rw[c];cases a with
 |true=>exact d rfl
 |false=>rfl
def ZX(b:t σ O=.ok (.bl a) O1):B_ t σ O=.ok (.bl (!a)) O1:=by show((t σ O).bnd _)=_;rw[b];rfl
def Sk(c:t σ O=.ok a O)(d:a=qb->u σ O=.ok b O):A3 t u σ O=.ok (a&&b) O:=by
 show((t σ O).bnd _)=_;rw[c];cases a with
 |true=>exact d rfl
 |false=>rfl
def J9(c:t σ O=.ok a O)(d:a=qj->u σ O=.ok b O):Ab t u σ O=.ok (a||b) O:=by
 show((t σ O).bnd _)=_;rw[c];cases a with
 |false=>exact d rfl
 |true=>rfl
def Qa(O:Ow)(a:x.all (pl 7)=qb)(c:y.all (pl 7)=qb)(d:b=qb↔x=y):pA qC O (.lst x) (.lst y)=.ok (.bl b) O/\pA rW O (.lst x) (.lst y)=.ok (.bl !b) O:=
 OC O (x:=.lst x) (y:=.lst y) a c (d.trans (by rw[D.lst.injEq]))
def YH(n:Nat)(l:l_):(l.map λ(p:Nat)=>D.int (p:Int)).all (pl n)=qb:=aH.mpr λd a=>by
 obtain⟨p,_,rfl⟩:=ay.mp a;cases n<;>rfl
section
variable{σ:Sg}{O O1 O2:Ow}{t u:DE}{d a:DS}{x y:D}{r:RS}{i:Nat}{c:DT}{tA:DA}{ds:List D}
def rK(h:t σ O=.ok x O1)(b:d (σ.set i (KF x)) O1=r):pd (pS i t) d σ O=r:=by rw[G8 (G6 h)];exact b
def xA(h:a σ O=.nx σ' O1)(b:d σ' O1=r):pd a d σ O=r:=by rw[G8 h];exact b
def YQ(h:t σ O=.ok x O1)(b:d σ O1=r):pd (yE t) d σ O=r:=by rw[G8 (Rp h)];exact b
def vC(h:c σ O=.ok qj O1)(b:d σ O1=r):pd (rX c a' rT) d σ O=r:=by rw[G8 (by rw[yF h];rfl)];exact b
def Ah(h:c σ O=.ok qb O1)(b:a' σ O1=.rt x O2):pd (rX c a' e) d σ O=.rt x O2:=Zy (by rw[yF h,qL rfl];exact b)
def uN(h:d σ O=.rt x O1):fin (d σ O)=.ok x O1:=by rw[h];rfl
def uD(h:t σ O=.ok x O1):fin (pL t σ O)=.ok x O1:=by rw[uE h];rfl
def pG(b:t σ O=.ok x O1)(e:u σ O1=.ok y O2)(g:f O2 x y=z):h_ f t u σ O=z:=by rw[OY b e];exact g
def rp(b:tA σ O=.ok ds O1)(e:f O1 ds=z):pf f tA σ O=z:=by rw[zen b];exact e
def qv(b:tA σ O=.ok ds O1)(e:F ds O1=z)(f:ds.length=n:=by rfl):o6 n F tA σ O=z:=by rw[DZ b f];exact e
end
end DL
set_option maxHeartbeats 400000
namespace K12
open PySem L2 DL
abbrev qd(x:Int):Option D:=KF (.int x)
abbrev qp(x:List D):Option D:=KF (.tup x)
abbrev qh(x:List D):Option D:=KF (.lst x)
abbrev qJ(x:l_):Option D:=KF (.str x)
abbrev uq(x:Nat):Option D:=KF (.own x)
def top(i:Nat):cN:=PySem.Challenge.pw_leastterms_k12_least_forms.main.body.getD i (.Pass ⟨0,0,0,0⟩)
def zC:List (Int×Int):=[(2,1),(4,2),(8,3),(16,4)]
noncomputable def Ca:Nat->Nat:=λc=>match c with
 |_=>37
def Cl:Nat->ae:=λc=>.ref (Ca c)
structure Txt(K:ai)(mg:au->Option ae):Prop where
 w0:qg K mg "is_whole" (top 12)
 w1:qg K mg "is_whole_within" (top 13)
 w2:qg K mg "is_answer" (top 16)
 w3:qg K mg "is_function" (top 17)
 w4:qg K mg "need_function" (top 18)
 w5:qg K mg "switches_of" (top 19)
 w6:qg K mg "points_with" (top 20)
 w7:qg K mg "all_terms" (top 23)
 w8:qg K mg "bits_of" (top 24)
 w9:qg K mg "points_of" (top 25)
 wa:qg K mg "with_sign" (top 26)
 wb:qg K mg "signs_in" (top 27)
 wc:qg K mg "holds_no_nought" (top 29)
 wd:qg K mg "holds_a_one" (top 30)
 we:qg K mg "good_terms" (top 31)
 wf:qg K mg "can_widen_at" (top 32)
 wg:qg K mg "is_widest" (top 33)
 wh:qg K mg "greatest" (top 34)
 wi:qg K mg "signs_of" (top 36)
 wj:qg K mg "holders_in" (top 37)
 wk:qg K mg "covers" (top 38)
 wl:qg K mg "least_covers" (top 39)
 wm:qg K mg "held_points" (top 40)
 wn:qg K mg "least_forms" (top 41)
 wo:qg K mg "least_form" (top 42)
 wp:qg K mg "least_many" (top 43)
 wq:qg K mg "_law_cell_at" (top 45)
 wr:qg K mg "_law_state" (top 46)
 ws:qg K mg "_law_take" (top 47)
 wt:qg K mg "_law_term" (top 48)
 wu:qg K mg "_law_bits" (top 49)
 wv:qg K mg "_law_points" (top 50)
 ww:qg K mg "_law_function" (top 51)
 wx:qg K mg "_law_terms" (top 52)
 wy:qg K mg "_law_good" (top 53)
 wz:qg K mg "_law_switches" (top 54)
 wA:qg K mg "_law_greatest" (top 55)
 wB:qg K mg "_law_ones" (top 56)
 wC:qg K mg "_law_signs" (top 57)
 wD:qg K mg "_law_least" (top 58)
 wE:qg K mg "_law_same" (top 59)
 wF:qg K mg "_law_refused" (top 60)
 wG:qg K mg "law" (top 61)
 wH:mg "ValueError" = KM
 wI:mg "all" = KM
 wJ:mg "any" = KM
 wK:mg "bool" = KM
 wL:mg "dict" = KM
 wM:mg "enumerate" = KM
 wN:mg "int" = KM
 wO:mg "isinstance" = KM
 wP:mg "len" = KM
 wQ:mg "list" = KM
 wR:mg "max" = KM
 wS:mg "min" = KM
 wT:mg "range" = KM
 wU:mg "sorted" = KM
 wV:mg "str" = KM
 wW:mg "sum" = KM
 wX:mg "tuple" = KM
 wY:mg "zip" = KM
 wZ:Jl mg "SIGNS" [45,48,49]
 w01:AK K mg "SWITCHES_BY_POINTS" zC
 w11:mg "NoFunction" = KF (.ref 37)
 w21:mg "NoTerm" = KF (.ref 49)
 w31:mg "NoPoint" = KF (.ref 61)
 w41:mg "NoNumber" = KF (.ref 73)
 w51:mg "NoForm" = KF (.ref 85)
 w61:mg "NoChange" = KF (.ref 97)
 w71:mg "NoText" = KF (.ref 109)
 w81:mg "NoLine" = KF (.ref 121)
 w91:mg "NoDeed" = KF (.ref 133)
 wa1:mg "TermError" = KF (.ref 24)
 wb1:aV K (.type "NoneType") (.ref 37)=KF qj
 wc1:aV K (.type "NoneType") (.ref 49)=KF qj
 wd1:aV K (.type "NoneType") (.ref 61)=KF qj
 we1:aV K (.type "NoneType") (.ref 73)=KF qj
 wf1:aV K (.type "NoneType") (.ref 85)=KF qj
 wg1:aV K (.type "NoneType") (.ref 97)=KF qj
 wh1:aV K (.type "NoneType") (.ref 109)=KF qj
 wi1:aV K (.type "NoneType") (.ref 121)=KF qj
 wj1:aV K (.type "NoneType") (.ref 133)=KF qj
 wk1:aV K (.type "NoneType") (.type "ValueError")=KF qj
 wl1:eR K (.ref 37) (.ref 24)=KF qb
 wm1:aV K (.ref 37) (.ref 37)=KF qb
 wn1:aV K (.ref 37) (.ref 49)=KF qj
 wo1:aV K (.ref 37) (.ref 61)=KF qj
 wp1:aV K (.ref 37) (.ref 73)=KF qj
 wq1:aV K (.ref 37) (.ref 85)=KF qj
 wr1:aV K (.ref 37) (.ref 97)=KF qj
 ws1:aV K (.ref 37) (.ref 109)=KF qj
 wt1:aV K (.ref 37) (.ref 121)=KF qj
 wu1:aV K (.ref 37) (.ref 133)=KF qj
 wv1:aV K (.ref 37) (.type "ValueError")=KF qb
 ww1:zX K 37
class CI (F:pD) (x:outParam au) (k n:outParam Nat):Prop where
 out:∀{P:aD}{w:aR}{K:ai}{mg:au->Option ae}{base:aL},Txt K mg->Callee P w K mg base x k n F
structure y_(mg:au->Option ae)(base:aL):Prop where
 z00:Jn mg base "NoFunction" 37
def uO(b:Bool):Nat->Option Bool:=λC=>if C=37 then KF b else KM
def kf{K:ai}{v:ae}{b:Bool}(h:aV K (.ref 37) v=KF b):∀C a,uO b C=KF a->aV K (.ref C) v=KF a:=λC a e=>by
 unfold uO at e;split at e
 ·subst C;cases e;exact h
 ·cases e
def Wc{K:ai}{a:au->Option ae}(T:Txt K a):∀c,Cl c=.ref (Ca c)/\zX K (Ca c)/\eR K (.ref (Ca c)) (.ref 24)=KF qb:=by intro c;refine⟨rfl,?_⟩;unfold Ca;exact⟨T.ww1,T.wl1⟩
section
variable{P:aD}{w:aR}{K:ai}{mg:au->Option ae}{base:aL}
def us0{C:List ae->Prop}(h:C []):∀a,a.length=0->C a
 |[],_=>h
def us1{C:List ae->Prop}(h:∀a,C [a]):∀b,b.length=1->C b
 |[a],_=>h a
def Um{C:List ae->Prop}(h:∀a b,C [a,b]):∀c,c.length=2->C c
 |[a,b],_=>h a b
def us3{C:List ae->Prop}(h:∀a b c,C [a,b,c]):∀d,d.length=3->C d
 |[a,b,c],_=>h a b c
set_option hygiene false
local macro_rules|`(tactic| exists $t)=>`(tactic| with_reducible show PD _ _ _ $t)
local macro_rules|`(tactic| exists $x,2)=>`(tactic| exact ze5 $x _ rfl (GS (by kernel_rfl)) (by walk_at "i") (by walk_at "q4"))
local macro_rules|`(tactic| exists $x,3)=>`(tactic| exact zb0 $x rfl (GS (by kernel_rfl)) (by walk_at "i") (by walk_at "q5"))
local macro_rules|`(tactic| exists $x,4)=>`(tactic| exact z7e $x _ rfl (uY (by kernel_rfl)) rfl rfl (GS (by kernel_rfl)) (by walk_at "i") (by walk_at "q4") rfl)
local macro_rules|`(tactic| exists $x,6)=>`(tactic| exact z7M $x _ rfl (uY (by kernel_rfl)) rfl rfl (GS (by kernel_rfl)) (by walk_at "i") (by walk_at "q4") rfl)
local macro_rules|`(tactic| exists $f,$a,$b,$c,$d)=>`(tactic| (with_reducible show PD _ _ _ (pf $f _));refine zeo $a $b rfl $c $d ?_<;>walk_at "a")
local macro_rules|`(tactic| exists $f,$a,$b)=>`(tactic| (with_reducible show PD _ _ _ (h_ $f _ _));refine JC $a $b ?_ ?_<;>walk_at "e")
local macro_rules|`(tactic| exists $f,$a,$b,0)=>`(tactic| (with_reducible show PD _ _ _ (h_ $f _ _));exact JP $a $b '2' '2' (CJ _))
local macro_rules|`(tactic| exists $t,0)=>`(tactic| with_reducible show qQ _ _ _ $t)
local macro_rules|`(tactic| exists $t,1)=>`(tactic| with_reducible show tX _ _ _ $t)
local macro_rules|`(tactic| walk_at "q4")=>`(tactic| exact λ_ _ _ _ _=>⟨by walk_at "g",by walk_at "fs",by walk_at "cs",'2'⟩)
local macro_rules|`(tactic| walk_at "q5")=>`(tactic| exact λ_ _ _ _ _=>⟨by walk_at "g",by walk_at "fs",by walk_at "cs",'2','2'⟩)
local macro_rules|`(tactic| exists $v,$g,$n,$k,0,0)=>`(tactic| (with_reducible show PD _ _ _ (uV (uO $v) _));exact YB (f:=uO $v) '2' rfl T.wO Bn rfl $g $n (kf $k))
local macro_rules|`(tactic| walk_at "u")=>`(tactic| intro _ _ _ _ _ _;first|exact us1 λ_=>rfl|exact Um λ_ _=>rfl|exact us3 λ_ _ _=>rfl|exact us0 rfl)
local macro_rules|`(tactic| walk_at "z")=>`(tactic| exact fnS rfl rfl rfl (by kernel_rfl))
section
local macro_rules|`(tactic| walk_at "v")=>`(tactic| first|exact .inl rfl|exact .inr (.inl rfl)|exact .inr (.inr rfl))
local macro_rules|`(tactic| walk_at "l")=>`(tactic| first|exact .inl rfl|exact .inr rfl)
local macro_rules|`(tactic| walk_at "le")=>`(tactic| first|decide|exact aE _|lia)
local macro_rules|`(tactic| walk_at "fx")=>`(tactic| first|refine Pf h hr '3' rfl ?_<;>walk_at "a")
local macro_rules|`(tactic| walk_at "f")=>`(tactic| first|exact Pf (CI.out T) hr '3' rfl '6'|((exists (o6 _ _ _));have h:=c_self;walk_at "fx"))
local macro_rules|`(tactic| walk_at "k")=>`(tactic| first|exact PM|exact Pm _ rfl|exact ON|exact OI)
local macro_rules|`(tactic| walk_at "n")=>`(tactic| first|exact QN T.wZ)
local macro_rules|`(tactic| walk_at "o")=>`(tactic| first|((exists (h_ rg _ _));refine PU ?_ ?_<;>walk_at "e")|((exists (h_ pX _ _));exact Ov '2' '2' (λ_ _=>rfl))|((exists (h_ A1 _ _));refine Z5 ?_ ?_<;>walk_at "e")|exists (fI z7),Ym,YN|exists (fI xq),Yx,ZD|exists (fI y9),ZI,zfY|exists (fI vV),Ys,Zm|exists (fI AV),X7,zfO|exists (fI ug),W1,Z3|exists (fI DC),Xq,Zg|exists (fI IV),Wx,XH|exists B4,OD,OW,0|exists FX,Od,PJ,0|exists (pA qC),(Ki hr.units),zp,0|exists (pA rW),(G_ hr.units),zp,0|((exists (h_ yp _ _));exact JP (Pk hr.units) OV '2' '2' rfl)|((exists (h_ y7 _ _));exact JP (QD hr.units) QI '2' '2' rfl)|exists Jg,XA,zg3,0|((exists (CF true zC _));refine zaZ T.w01 rfl ?_<;>walk_at "e")|((exists (JO FW FW _ _ _));refine zdR Of PH Of PH ?_ ?_ ?_<;>walk_at "e"))
local macro_rules|`(tactic| walk_at "c")=>`(tactic| first|exists qB,Sm,PB,T.wP,OO|exists z_,(zbf rfl),W6,T.wI,Xl|exists Cg,(zbs rfl),Xs,T.wJ,XC|exists yC,(zch rfl),X8,T.wW,Xr|exists DR,(zbr rfl),ZL,T.wS,JV|((exists (pf A2 _));refine K0 zcl Y3 rfl T.wN Px ?_<;>walk_at "a")|((exists (pf zr _));refine K0 z6b zee rfl T.wX Kz ?_<;>walk_at "a")|((exists (pf GF _));refine K0 z73 zg4 rfl T.wV X4 ?_<;>walk_at "a")|((exists (uf "bool" _));exact GN '2' (by decide) rfl T.wO Bn rfl T.wK Y7)|((exists (uf "int" _));exact GN '2' (by decide) rfl T.wO Bn rfl T.wN Px)|((exists (uf "list" _));exact GN '2' (by decide) rfl T.wO Bn rfl T.wQ QJ)|((exists (uf "tuple" _));exact GN '2' (by decide) rfl T.wO Bn rfl T.wX Kz)|((exists (GJ "tuple" "list" _));exact YZ '2' (by decide) (by decide) rfl T.wO Bn rfl T.wX Kz rfl T.wQ QJ)|((exists (rJ _ _ _ (Er _) _));refine GY (zbz T hT L) hr '3' rfl ?_<;>walk_at "a")|((exists (rJ _ _ _ (EJ _) _));refine GY (Ui T hT L) hr '3' rfl ?_<;>walk_at "a")|((exists (rJ _ _ _ F _));refine GY c_self hr '3' rfl ?_<;>walk_at "a")|((exists (rJ _ _ _ _ _));refine GY c_self hr '3' rfl ?_<;>walk_at "a")|((exists (Cr _ _ _ _));exact zew (k:=2) (hr.mono (by lia)) rfl L rfl (by kernel_rfl) rfl (λ_ _ _ _ _ _ _=>rfl) (uY (by kernel_rfl)) '2' (λq lam cd cl A outer s H hr=>'2') rfl T.wS)|exists D1,(za5 hr.units),zdr,T.wU,KU|exists DJ,zbm,YU,T.wU,KU|exists A0,zb6,Zz,T.wU,KU)
local macro_rules|`(tactic| walk_at "pk")=>`(tactic| first|exact OM|exact PL|exact JX)
local macro_rules|`(tactic| walk_at "pp")=>`(tactic| first|exact zdq (by walk_at "pk") (by walk_at "pk") (by walk_at "pp")|exact Z4)
local macro_rules|`(tactic| walk_at "so")=>`(tactic| first|((with_reducible show zY _ _ _ v7);exact zdf)|refine Rx ?_<;>walk_at "e")
local macro_rules|`(tactic| walk_at "m")=>`(tactic| first|((exists (AM _ _));exact zc8 '2' '6')|((exists (Gv _ _));exact zbw '2' '6')|((exists (JF _ _ _));refine YW _ _ rfl rfl rfl (fe rfl) ?_<;>walk_at "e")|((exists (CB _ _));exact ZT '2' '2' (λ_ _=>rfl))|((exists (GH _ _));exact ZC '2' '6')|((exists (Nk Jo _ _));exact Wq PySem.F.slot_str_count PySem.F.type_str_count zdU XZ '2' '6')|((exists (Dv _ _ _));exact W8 '2' (by walk_at "so") (by walk_at "so"))|((exists (yY _ _ _));exact Xe '2' (by walk_at "so") (by walk_at "so"))|((exists (Gg zC _));exact ZA T.w01 rfl '2' (λ_ _=>rfl))|((exists (Gp _ _));exact Yp _ (by walk_at "pp") rfl rfl rfl (List.cons_ne_nil _ _) (fe rfl) (fe rfl) (Xc hr) '2' (λ_ _=>rfl)))
local macro_rules|`(tactic| walk_at "e1")=>`(tactic| first|((exists (rB _));refine Pq rfl ?_<;>walk_at "v")|((exists (dC _));first|walk_at "k"|walk_at "n")|((exists (h_ _ _ _));walk_at "o")|((exists (o6 _ _ _));walk_at "f")|((exists (sk _));refine Pb ?_<;>walk_at "a")|((exists (sJ _));refine O7 ?_<;>walk_at "a")|((exists (pK _ _ _ _ _ _ _));first|exists x0,2|exists x1,2|exists x2,2|exists x3,2)|((exists (pf _ _));walk_at "c")|((exists (Ae _));refine YE ?_<;>walk_at "a")|((exists (y0 _ _));refine P6 ?_ ?_<;>walk_at "e")|((exists (IZ _ _));refine Oj ?_ ?_<;>walk_at "e")|((exists (B_ _));refine Pa ?_<;>walk_at "e")|walk_at "c"|walk_at "m"|walk_at "o")
local macro_rules|`(tactic| walk_at "e")=>`(tactic| first|(show PD _ _ (.BoolOp _ [_] _) _;refine Pe ?_<;>walk_at "e1")|walk_at "e1")
local macro_rules|`(tactic| walk_at "a")=>`(tactic| first|((with_reducible show sI _ _ _ f_);exact Qg)|exact Sl '2' '6')
local macro_rules|`(tactic| walk_at "t")=>`(tactic| first|((exists (pV (h_ B4 _ _)),0);exact Bf OD OW '2' '2' (CJ _))|((exists (pV (h_ FX _ _)),0);exact Bf Od PJ '2' '2' (CJ _))|((with_reducible show qQ _ _ _ (pV (h_ (pA qC) _ _)));exact Bf (Ki hr.units) zp '2' '2' (CJ _))|((with_reducible show qQ _ _ _ (pV (h_ (pA rW) _ _)));exact Bf (G_ hr.units) zp '2' '2' (CJ _))|((exists (pV (h_ yp _ _)),0);exact Bf (Pk hr.units) OV '2' '2' rfl)|((exists (pV (h_ y7 _ _)),0);exact Bf (QD hr.units) QI '2' '2' rfl)|((exists (pV (CF true zC _)),0);refine z9U T.w01 rfl ?_<;>walk_at "e")|(show qQ _ _ (.BoolOp _ _ _) _;refine ud.pt ?_<;>walk_at "w")|((with_reducible show qQ _ _ _ (xU _));refine Qx ?_<;>walk_at "t")|((with_reducible show qQ _ _ _ (sN _));exact Qj '2' (λ_=>rfl)))
local macro_rules|`(tactic| walk_at "w")=>`(tactic| first|(show ud _ _ (.BoolOp .And [_] _) _;refine RA ?_<;>walk_at "t")|(show ud _ _ (.BoolOp .Or [_] _) _;refine QE ?_<;>walk_at "t")|((with_reducible show ud _ _ _ (A3 _ _));exact QU '7' (by walk_at "w"))|((with_reducible show ud _ _ _ (Ab _ _));exact PF '7' (by walk_at "w")))
local macro_rules|`(tactic| walk_at "i")=>`(tactic| first|((with_reducible show s_ _ _ _ _ (rU _));refine TF rfl T.wT ?_<;>walk_at "a")|((with_reducible show s_ _ _ _ _ (DP _));refine zdx rfl T.wY ?_<;>walk_at "a")|((with_reducible show s_ _ _ _ _ (GW _));refine zbG rfl T.wM ?_<;>walk_at "a")|((with_reducible show s_ _ _ _ _ (Gs _));refine zdl ?_<;>walk_at "e")|refine QF ?_<;>walk_at "e")
local macro_rules|`(tactic| walk_at "g")=>`(tactic| first|(show PG _ (.Name _ _) _;refine OR (uY (by kernel_rfl)) rfl ?_ ?_<;>walk_at "l")|(show PG _ (.Tuple [_,_] _ _) _;refine Pw rfl (uY (by kernel_rfl)) rfl rfl ?_ ?_ ?_ ?_<;>walk_at "l"))
local macro_rules|`(tactic| walk_at "fs")=>`(tactic| first|exact .nil|exact .cons '7' (by walk_at "fs"))
local macro_rules|`(tactic| walk_at "cs")=>`(tactic| first|exact .nil|(refine oo.cons ?_ (λ_=>rfl) ?_ ?_ ?_;(dsimp only;walk_at "i");(dsimp only;walk_at "g");(dsimp only;walk_at "fs");walk_at "cs"))
local macro_rules|`(tactic| walk_at "s")=>`(tactic| first|((exists (pL _),1);refine Qk ?_<;>walk_at "e")|((exists (rX _ _ _),1);exact OT '7' '8' '8')|(show tX _ _ (.Assign [.Name _ _] (.ListComp _ _ _ _) _) _;first|exists x0,4|exists x1,4|exists x2,4|exists x3,4|exact G4 (uY (by kernel_rfl)) rfl (by walk_at "l") '2')|((exists (pS _ _),1);exact G4 (uY (by kernel_rfl)) rfl (by walk_at "l") '2')|((exists (uL _ _ _),1);exact Ql j8 rfl (by walk_at "i") (by walk_at "g") '8')|((exists (yE _),1);refine Rg ?_<;>walk_at "e")|((exists (Cp _ _ _),1);refine Z6 ?_ ?_ ?_<;>walk_at "e")|((exists (Gj _ _),1);exact zfU (uY (by kernel_rfl)) rfl (by walk_at "l") '2')|((exists (JT _ _ _),1);exact zcR _ j8 '7' '8')|((exists rT,1);exact Rc))
local macro_rules|`(tactic| walk_at "sl")=>`(tactic| first|first|exists x0,6|exists x1,6|exists x2,6|exists x3,6)
local macro_rules|`(tactic| walk_at "rs")=>`(tactic| first|(refine zaF j8 rfl (λte he=>JU (uY (by kernel_rfl)) rfl ?_ (SA za0 rfl T.wL Za (xB he Ba))) ?_ ?_ ?_ (GO rfl ?_) (GO rfl ?_) ?_ ?_ rfl ?_ (by decide) (by decide) (fe rfl) (fe rfl);(walk_at "l");(walk_at "e");(walk_at "i");(walk_at "g");(walk_at "v");(walk_at "v");(walk_at "sl");(walk_at "e");(walk_at "ss")))
local macro_rules|`(tactic| walk_at "ss")=>`(tactic| first|((with_reducible show rn _ _ _ (DQ _ _ _ _ _ _ _ _));walk_at "rs")|((with_reducible show rn _ _ _ rT);exact R1)|((with_reducible show rn _ _ _ (pd _ _));exact qo '1' '8')|refine qz ?_<;>walk_at "s")
def rF{x:au}{st:cN}{t:DS}(k:Nat)(N:List au)(j:Nat)(h:qg K mg x st)(o5:∀{f:af}{k_:ae}{A:aU}{outer:List Env}{s:ag}{H:Hp}{E:XK},nZ k (A.deeper (aT x (pF st) s.heap.objs.size f k_))->rn (Dw P w K mg base N x (pF st) f k_ A outer s H E) p_ (rV st) t)(S:rj N (N.take j) (pF st):=by walk_at "z")(hb:∀(kV doc pm:ae)(an:Option af)(k_ ct:ae)(us:List ae),us.length=(N.take j).length->bindArgs (bd x x (uF st) (rV st) (pF st) .none kV doc pm an k_ ct) ⟨us,[]⟩=pure ((N.take j).zip us):=by walk_at "u"):Callee P w K mg base x (k+1) (N.take j).length (qx N.length t):=M6 h S hb λ_ _ _ _ _ _ _ hr=>o5 hr
abbrev m_:=rB 0
def Tr:DS:=(pL (y0 (uf "int" m_) (B_ (uf "bool" m_))))
def Tv:pD:=(qx 1 Tr)
instance:CI Tv "is_whole" 1 1:=⟨λT=>
 Callee.self (rF 0 ["thing"] 1 T.w0 λhr=>
  ((qz (by delta Tr;walk_at "s"))))⟩
def Uc:DS:=(pL (Gg zC (pf qB (b_ m_ f_))))
def Lk:pD:=(qx 1 Uc)
instance:CI Lk "switches_of" 1 1:=⟨λT=>
 Callee.self (rF 0 ["function"] 1 T.w5 λhr=>
  ((qz (by delta Uc;walk_at "s"))))⟩
abbrev o7:=rB 1
abbrev qc:=rB 2
abbrev qI:=rB 3
def Ub:DS:=(pL (pK qj 2 (GW (b_ m_ f_)) (.two 2 3) [(pV (h_ (pA qC) qI o7))] [] qc))
def Ll:pD:=(qx 2 Ub)
instance:CI Ll "points_with" 1 2:=⟨λT=>
 Callee.self (rF 0 ["function", "answer"] 2 T.w6 λhr=>
  (have x0:Nx ["point", "told"]:=⟨⟩;(qz (by delta Ub;walk_at "s"))))⟩
abbrev rA:=rB 4
abbrev Dy:=dC (.str [])
def z8m:DS:=(pd (pS 1 (sk (b_ Dy f_))) (pd (uL (rU (b_ m_ f_)) (.one 2) (pS 1 (pK qj 2 (pY o7) (.one 3) [] (⟨(pY (dC (.str [45,48,49]))),(.one 4),[]⟩::[]) (h_ rg qI rA)))) (pL o7)))
def HD:pD:=(qx 3 z8m)
instance:CI HD "all_terms" 1 1:=⟨λT=>
 Callee.self (rF 0 ["n", "terms", "switch"] 1 T.w7 λhr=>
  (have x0:Nx ["term", "sign"]:=⟨⟩;(qo '1' (qo '1' (qz '1')))))⟩
abbrev qE:=dC (.int 0)
abbrev qD:=dC (.int 1)
abbrev yX:=dC (.str [45])
def zbD:DS:=(pd (rX (pV (h_ (pA qC) m_ yX)) (pL (sk (b_ qE (b_ qD f_)))) rT) (pL (sk (b_ (pf A2 (b_ m_ f_)) f_))))
def S4:pD:=(qx 1 zbD)
instance:CI S4 "bits_of" 1 1:=⟨λT=>
 Callee.self (rF 0 ["sign"] 1 T.w8 λhr=>
  ((qo '1' (qz '1'))))⟩
def TY:DS:=(pL (h_ rg (h_ rg (Dv m_ v7 (xx o7)) qc) (Dv m_ (xx (h_ rg o7 qD)) v7)))
def K7:pD:=(qx 3 TY)
instance:CI K7 "with_sign" 1 3:=⟨λT=>
 Callee.self (rF 0 ["term", "switch", "sign"] 3 T.wa λhr=>
  ((qz (by delta TY;walk_at "s"))))⟩
def Tw:DS:=(pL (h_ (fI z7) (pf qB (b_ m_ f_)) (Nk Jo m_ (b_ yX f_))))
def Et:pD:=(qx 1 Tw)
instance:CI Et "signs_in" 1 1:=⟨λT=>
 Callee.self (rF 0 ["term"] 1 T.wb λhr=>
  ((qz (by delta Tw;walk_at "s"))))⟩
def HZ:DS:=(pL (pK qj 1 (Gs m_) (.one 2) [(pV (h_ yp o7 (CB m_ qc)))] [] qc))
def Bm:pD:=(qx 2 HZ)
instance:CI Bm "holders_in" 1 2:=⟨λT=>
 Callee.self (rF 0 ["held", "one"] 2 T.wj λhr=>
  (have x0:Nx ["term"]:=⟨⟩;(qz (by delta HZ;walk_at "s"))))⟩
def z5i:DS:=(pd (rX (pV (h_ B4 o7 (pf qB (b_ m_ f_)))) (pL (h_ pX m_ o7)) rT) (pL qE))
def Ly:pD:=(qx 2 z5i)
instance:CI Ly "_law_cell_at" 1 2:=⟨λT=>
 Callee.self (rF 0 ["_law_script", "_law_k"] 2 T.wq λhr=>
  ((qo '1' (qz '1'))))⟩
def K8:DS:=(pd (rX (sN (h_ pX m_ qD)) (pd (pS 2 (h_ (fI vV) (h_ pX m_ qE) o7)) (pd (Cp (h_ (fI y9) (h_ pX m_ qE) o7) m_ qE) (pL qc))) rT) (pd (Cp (h_ (fI vV) (h_ rg (h_ (fI xq) (h_ pX m_ qE) (dC (.int 48271))) (dC (.int 29))) (dC (.int 2147483647))) m_ qE) (pd (pS 3 (h_ (fI vV) (h_ rg (h_ rg (h_ (fI xq) (h_ pX m_ qE) (h_ pX m_ qE)) (h_ (fI xq) (dC (.int 39373)) (h_ pX m_ qE))) (dC (.int 7))) (dC (.int 2147483629)))) (pd (pS 3 (h_ (fI vV) (h_ rg (h_ (fI xq) qI qI) (h_ (fI xq) (dC (.int 16807)) qI)) (dC (.int 2147483587)))) (pL (h_ (fI vV) (h_ (fI y9) qI (dC (.int 8))) o7))))))
def uX:pD:=(qx 4 K8)
instance:CI uX "_law_take" 1 2:=⟨λT=>
 Callee.self (rF 0 ["_law_state_here", "_law_many", "_law_found", "_law_stirred"] 2 T.ws λhr=>
  ((qo '1' (qo '1' (qo '1' (qo '1' (qz '1')))))))⟩
abbrev uU:=dC (.int 2)
def z7V:DS:=(pd (pS 2 Dy) (pd (uL (rU (b_ m_ f_)) (.one 3) (pd (pS 2 (h_ rg (pf GF (b_ (h_ (fI vV) o7 uU) f_)) qc)) (pS 1 (h_ (fI y9) o7 uU)))) (pL qc)))
def HI:pD:=(qx 4 z7V)
instance:CI HI "_law_bits" 1 2:=⟨λT=>
 Callee.self (rF 0 ["_law_n", "_law_point", "_law_found", "_law_k"] 2 T.wu λhr=>
  ((qo '1' (qo '1' (qz '1')))))⟩
abbrev ue:=rB 5
abbrev yz:=sk f_
def z7z:DS:=(pd (pS 1 (sk (b_ Dy f_))) (pd (uL (rU (b_ m_ f_)) (.one 2) (pd (pS 3 yz) (pd (uL (pY o7) (.one 4) (pS 3 (h_ rg qI (pK qj 1 (pY (dC (.str [45,48,49]))) (.one 5) [] [] (h_ rg rA ue))))) (pS 1 qI)))) (pL o7)))
def ED:pD:=(qx 5 z7z)
instance:CI ED "_law_terms" 1 1:=⟨λT=>
 Callee.self (rF 0 ["_law_n", "_law_found", "_law_turn", "_law_longer", "_law_text"] 1 T.wx λhr=>
  (have x0:Nx ["_law_sign"]:=⟨⟩;(qo '1' (qo '1' (qz '1')))))⟩
def Uj:DS:=(pL (Gp [(2,1),(4,2),(8,3),(16,4)] (pf qB (b_ m_ f_))))
def HU:pD:=(qx 1 Uj)
instance:CI HU "_law_switches" 1 1:=⟨λT=>
 Callee.self (rF 0 ["_law_function_here"] 1 T.wz λhr=>
  ((qz (by delta Uj;walk_at "s"))))⟩
def HE:DS:=(pL (pK qj 1 (rU (b_ (pf qB (b_ m_ f_)) f_)) (.one 1) [(pV (h_ (pA qC) (h_ pX m_ o7) qD))] [] o7))
def HH:pD:=(qx 1 HE)
instance:CI HH "_law_ones" 1 1:=⟨λT=>
 Callee.self (rF 0 ["_law_function_here"] 1 T.wB λhr=>
  (have x0:Nx ["_law_point"]:=⟨⟩;(qz (by delta HE;walk_at "s"))))⟩
abbrev LJ:DE:=pf qB (b_ (JF [45] [] o7) f_)
def HY:DS:=(pL (pf yC (b_ (pK qj 1 (pY m_) (.one 1) [] [] LJ) f_)))
def HX:pD:=(qx 1 HY)
instance:CI HX "_law_signs" 1 1:=⟨λT=>
 Callee.self (rF 0 ["_law_form"] 1 T.wC λhr=>
  (have x0:Nx ["_law_term_here"]:=⟨⟩;(qz (by delta HY;walk_at "s"))))⟩
abbrev Cf:=pL (dC (.bl qj))
def EH(F:pD):DS:=(pd (rX (sN (GJ "tuple" "list" o7)) (pd (rX (Ab (pV (h_ (pA rW) (uf "tuple" m_) (uf "tuple" o7))) (pV (h_ (pA rW) (uf "list" m_) (uf "list" o7)))) Cf rT) (pd (rX (pV (h_ (pA rW) (pf qB (b_ m_ f_)) (pf qB (b_ o7 f_)))) Cf rT) (pL (pf z_ (b_ (pK qj 2 (DP (b_ m_ (b_ o7 f_))) (.two 2 3) [] [] (o6 2 F (b_ qc (b_ qI f_)))) f_))))) rT) (pL (y0 (h_ (pA qC) m_ o7) (h_ (pA qC) (uf "bool" m_) (uf "bool" o7)))))
def EB:Nat->pD
 |0=>λ_ _=>.bad
 |k+1=>(qx 2 (EH (EB k)))
def T6:rj ["_law_found", "_law_due"] ["_law_found", "_law_due"] (pF (top 59)):=by walk_at "z"
theorem Ua(T:Txt K mg):∀k,Callee P w K mg base "_law_same" (1+k) 2 (EB k)
 |0=>Callee.bad (F:=qx 2 Jh) (M6 T.wE T6 '4' λf k_ A outer s H E hr=>RP)
 | k+1=>Callee.self (M6 (k:=1+k) T.wE T6 '4' λf k_ A outer s H E hr=>
  have c_self:=Ua T k
  (have x0:Nx ["_law_one", "_law_other"]:=⟨⟩;(qo '1' (qz '1'))))
def EF:pD:=EB 3
instance:CI EF "_law_same" 4 2:=⟨λT=>Ua T 3⟩
def Ul:DS:=(pL (y0 (o6 1 Tv (b_ m_ f_)) (JO FW FW o7 m_ qc)))
def Uk:pD:=(qx 3 Ul)
instance:CI Uk "is_whole_within" 2 3:=⟨λT=>
 Callee.self (rF 1 ["thing", "least", "most"] 3 T.w1 λhr=>
  ((qz (by delta Ul;walk_at "s"))))⟩
def z8x:DS:=(pd (pS 1 (sk (b_ qE f_))) (pd (uL (pY m_) (.one 2) (pS 1 (pK qj 2 (pY o7) (.one 3) [] (⟨(pY (o6 1 S4 (b_ qc f_))),(.one 4),[]⟩::[]) (h_ rg (h_ (fI xq) uU qI) rA)))) (pL o7)))
def Bl:pD:=(qx 3 z8x)
instance:CI Bl "points_of" 2 1:=⟨λT=>
 Callee.self (rF 1 ["term", "points", "sign"] 1 T.w9 λhr=>
  (have x0:Nx ["point", "bit"]:=⟨⟩;(qo '1' (qo '1' (qz '1')))))⟩
def HC:DS:=(pL (pf yC (b_ (pK qj 1 (pY m_) (.one 1) [] [] (o6 1 Et (b_ o7 f_))) f_)))
def zD:pD:=(qx 1 HC)
instance:CI zD "signs_of" 2 1:=⟨λT=>
 Callee.self (rF 1 ["form"] 1 T.wi λhr=>
  (have x0:Nx ["term"]:=⟨⟩;(qz (by delta HC;walk_at "s"))))⟩
abbrev AU:DE:=pf qB (b_ (o6 2 Bm (b_ m_ (b_ (rB 9) f_))) f_)
abbrev xu:=rB 6
abbrev AZ:DE:=pK qj 1 (pY o7) (.one 9) [(pV (h_ y7 (rB 9) (CB m_ xu)))] [] (rB 9)
abbrev uK:=b_ xu f_
abbrev sM:=rB 7
abbrev Aa(Pt:Nat)(F:pD):DE:=Gv rA (b_ (pK qj 1 (pY (rJ Pt 8 3 F (b_ ue (b_ sM (b_ (h_ (fI z7) qc qD) f_))))) (.one 9) [] [] (h_ rg (sJ uK) (rB 9))) f_)
def zB(Pt:Nat)(F:pD):DS:=(pd (rX (xU (sN o7)) (pL (sk (b_ (sJ f_) f_))) rT) (pd (rX (pV (h_ (pA qC) qc qE)) (pL yz) rT) (pd (pS 3 (Cr Pt 8 o7 AU)) (pd (pS 4 (Ae f_)) (DQ 5 6 7 m_ (pY (o6 2 Bm (b_ m_ (b_ qI f_)))) AZ (Aa Pt F) (pL rA))))))
def xb(Pt:Nat):Nat->pD
 |0=>λ_ _=>.bad
 |k+1=>Cm (vB 9 8 Pt (zB Pt (xb Pt k)))
def S7:rj ["held", "wanted", "many", "hardest", "found", "rest", "term", "left", "<tab>"] ["held", "wanted", "many"] (pF (top 38)):=by walk_at "z"
theorem Tp{c Pt:af}(T:Txt K mg)(hT:yA K mg "covers" (top 38) c)(L:tI mg base c Pt):∀k,n9 P w K mg base "covers" (4+k) 3 Pt (xb Pt k)
 |0=>n9.bad (F:=vB 9 8 Pt Jh) (NL (k:=3) (i:=8) (z := "<tab>") hT S7 rfl (z9 'k') '4' λf A outer s H E hr=>RP)
 | k+1=>n9.frz (NL (k:=4+k) (i:=8) (z := "<tab>") hT S7 rfl (z9 'k') '4' λf A outer s H E hr=>
  have c_self:=Tp T hT L k
  (have x0:Nx ["one"]:=⟨⟩;have x1:Nx ["cover"]:=⟨⟩;(by unfold zB;walk_at "ss")))
def Er(Pt:Nat):pD:=xb Pt 20
def zbz{c Pt:af}(T:Txt K mg)(a:yA K mg "covers" (top 38) c)(L:tI mg base c Pt):n9 P w K mg base "covers" 24 3 Pt (Er Pt):=Tp T a L 20
def z6R:DS:=(pd (pS 2 (o6 2 Ly (b_ m_ (b_ o7 f_)))) (pd (rX (pV (h_ FX qc (h_ (fI AV) (dC (.int 10)) (dC (.int 18))))) (pL (Ae (b_ (h_ (fI z7) qc (h_ (fI AV) (dC (.int 10)) (dC (.int 18)))) (b_ (dC (.bl qb)) f_)))) rT) (pL (Ae (b_ (h_ (fI vV) qc (dC (.int 2147483647))) (b_ (dC (.bl qj)) f_))))))
def Lq:pD:=(qx 3 z6R)
instance:CI Lq "_law_state" 2 2:=⟨λT=>
 Callee.self (rF 1 ["_law_script", "_law_k", "_law_cell"] 2 T.wr λhr=>
  ((qo '1' (qo '1' (qz '1')))))⟩
abbrev yv:=dC (.int 4)
def TM:DS:=(pL (GH Dy (b_ (pK qj 1 (rU (b_ o7 f_)) (.one 2) [] [] (h_ pX (dC (.str [48,49,45,45])) (o6 2 uX (b_ m_ (b_ yv f_))))) f_)))
def EE:pD:=(qx 2 TM)
instance:CI EE "_law_term" 2 2:=⟨λT=>
 Callee.self (rF 1 ["_law_state_here", "_law_n"] 2 T.wt λhr=>
  (have x0:Nx ["_law_k"]:=⟨⟩;(qz (by delta TM;walk_at "s"))))⟩
abbrev JB:DT:=pV (h_ (pA qC) (pK qj 1 (rU (b_ (pf qB (b_ m_ f_)) f_)) (.one 4) [(pV (h_ y7 (h_ pX m_ rA) (sJ (b_ yX (b_ (h_ pX qI rA) f_)))))] [] rA) yz)
def HQ:DS:=(pd (pS 1 (Ae f_)) (pd (uL (rU (b_ (h_ (fI ug) qD (pf qB (b_ m_ f_))) f_)) (.one 2) (pd (pS 3 (o6 2 HI (b_ (pf qB (b_ m_ f_)) (b_ qc f_)))) (rX JB (yE (AM o7 (b_ qc f_))) rT))) (pL o7)))
def yM:pD:=Cm (qx 4 HQ)
instance:CI yM "_law_points" 2 1:=⟨λT=>
 Callee.frz (rF 1 ["_law_term_here", "_law_found", "_law_point", "_law_bits_here"] 1 T.wv λhr=>
  (have x0:Nx ["_law_k"]:=⟨⟩;(qo '1' (qo '1' (qz '1')))))⟩
def TU:DS:=(pL (IZ (h_ Jg m_ y8) (o6 3 Uk (b_ m_ (b_ qE (b_ qD f_))))))
def T4:pD:=(qx 1 TU)
instance:CI T4 "is_answer" 3 1:=⟨λT=>
 Callee.self (rF 2 ["thing"] 1 T.w2 λhr=>
  ((qz (by delta TU;walk_at "s"))))⟩
def Ib:DS:=(pL (pf z_ (b_ (pK qj 1 (pY (o6 1 Bl (b_ o7 f_))) (.one 2) [] [] (h_ (pA rW) (h_ pX m_ qc) qE)) f_)))
def Ia:pD:=(qx 2 Ib)
instance:CI Ia "holds_no_nought" 3 2:=⟨λT=>
 Callee.self (rF 2 ["function", "term"] 2 T.wc λhr=>
  (have x0:Nx ["point"]:=⟨⟩;(qz (by delta Ib;walk_at "s"))))⟩
def HS:DS:=(pL (pf Cg (b_ (pK qj 1 (pY (o6 1 Bl (b_ o7 f_))) (.one 2) [] [] (h_ (pA qC) (h_ pX m_ qc) qD)) f_)))
def Ln:pD:=(qx 2 HS)
instance:CI Ln "holds_a_one" 3 2:=⟨λT=>
 Callee.self (rF 2 ["function", "term"] 2 T.wd λhr=>
  (have x0:Nx ["point"]:=⟨⟩;(qz (by delta HS;walk_at "s"))))⟩
abbrev cW:DT:=xU (sN qI)
abbrev bW(Pt:Nat):DS:=pd (Gj 2 qD) (pS 3 (rJ Pt 5 3 (Er Pt) (b_ m_ (b_ o7 (b_ qc f_)))))
def Lx(Pt:Nat):DS:=(pd (pS 2 qE) (pd (pS 3 (rJ Pt 5 3 (Er Pt) (b_ m_ (b_ o7 (b_ qc f_))))) (pd (JT 20 cW (bW Pt)) (pd (pS 4 (pf DR (b_ (pK qj 1 (pY qI) (.one 6) [] [] (o6 1 zD uK)) f_))) (pL (pf DJ (b_ (pK qj 1 (pY qI) (.one 6) [(pV (h_ (pA qC) (o6 1 zD uK) rA))] [] (pf zr (b_ (pf A0 uK) f_))) f_)))))))
def EJ(Pt:Nat):pD:=(vB 6 5 Pt (Lx Pt))
def z4S:rj ["held", "wanted", "many", "found", "fewest", "<tab>"] ["held", "wanted"] (pF (top 39)):=by walk_at "z"
def Ui{c Pt:af}(T:Txt K mg)(hT:yA K mg "covers" (top 38) c)(L:tI mg base c Pt):n9 P w K mg base "least_covers" 25 2 Pt (EJ Pt):=
 n9.self (fnU (k:=24) (i:=5) (z := "<tab>") T.wl z4S rfl (z9 'k') '4' λf k_ A outer s H E hr=>
  (have x0:Nx ["cover"]:=⟨⟩;(qo '1' (qo '1' (qo '1' (qo '1' (qz '1')))))))
abbrev AQ:=dC (.int 3)
def H9:DS:=(pd (pS 1 (h_ pX (sk (b_ yv (b_ AQ (b_ AQ (b_ uU (b_ yv (b_ AQ (b_ yv (b_ qD f_))))))))) (o6 2 uX (b_ m_ (b_ (dC (.int 8)) f_))))) (pd (pS 2 (o6 2 uX (b_ m_ (b_ (dC (.int 6)) f_)))) (pd (rX (pV (h_ B4 qc yv)) (pd (pS 3 (h_ pX (sk (b_ (sk (b_ qE (b_ qD f_))) (b_ (sk (b_ qE (b_ qD (b_ y8 f_)))) (b_ (sk (b_ qE (b_ qE (b_ qE (b_ qD (b_ y8 f_)))))) (b_ (sk (b_ qD (b_ qD (b_ qD (b_ qE (b_ y8 f_)))))) f_))))) qc)) (pL (pf zr (b_ (pK qj 1 (rU (b_ (h_ (fI ug) qD o7) f_)) (.one 7) [] [] (h_ pX qI (o6 2 uX (b_ m_ (b_ (pf qB (b_ qI f_)) f_))))) f_)))) rT) (pd (pS 4 yz) (pd (uL (rU (b_ (h_ rg qD (o6 2 uX (b_ m_ (b_ (dC (.int 5)) f_)))) f_)) (.one 5) (pS 4 (h_ rg rA (o6 1 yM (b_ (o6 2 EE (b_ m_ (b_ o7 f_))) f_))))) (pd (pS 6 (pK qb 1 (rU (b_ (h_ (fI ug) qD o7) f_)) (.one 7) [] [] (pf A2 (b_ (h_ yp sM rA) f_)))) (pd (rX (pV (h_ (pA qC) qc (dC (.int 5)))) (Cp y8 xu (o6 2 uX (b_ m_ (b_ (h_ (fI ug) qD o7) f_)))) rT) (pL (pf zr uK)))))))))
def LC:pD:=Cm (qx 7 H9)
instance:CI LC "_law_function" 3 1:=⟨λT=>
 Callee.frz (rF 2 ["_law_state_here", "_law_n", "_law_way", "_law_some", "_law_held", "_law_turn", "_law_found"] 1 T.ww λhr=>
  (have x0:Nx ["_law_point"]:=⟨⟩;(qo '1' (qo '1' (qo '1' (qo '1' (qo '1' (qo '1' (qo '1' (qz '1'))))))))))⟩
def HF:DS:=(pL (h_ (pA qC) (pK qj 1 (pY (o6 1 yM (b_ o7 f_))) (.one 2) [(pV (h_ (pA qC) (h_ pX m_ qc) qE))] [] qc) yz))
def CZ:pD:=(qx 2 HF)
instance:CI CZ "_law_good" 3 2:=⟨λT=>
 Callee.self (rF 2 ["_law_function_here", "_law_term_here"] 2 T.wy λhr=>
  (have x0:Nx ["_law_point"]:=⟨⟩;(qz (by delta HF;walk_at "s"))))⟩
def Li:DS:=(pd (rX (Ab (xU (sN (uf "tuple" m_))) (pV (CF qb zC (pf qB (b_ m_ f_))))) Cf rT) (pL (pf z_ (b_ (pK qj 1 (pY m_) (.one 1) [] [] (o6 1 T4 (b_ o7 f_))) f_))))
def Lj:pD:=(qx 1 Li)
instance:CI Lj "is_function" 4 1:=⟨λT=>
 Callee.self (rF 3 ["thing"] 1 T.w3 λhr=>
  (have x0:Nx ["answer"]:=⟨⟩;(qo '1' (qz '1'))))⟩
def Uh:DS:=(pL (y0 (h_ (pA rW) (h_ pX o7 qc) yX) (o6 2 Ia (b_ m_ (b_ (o6 3 K7 (b_ o7 (b_ qc (b_ yX f_)))) f_)))))
def Ue:pD:=(qx 3 Uh)
instance:CI Ue "can_widen_at" 4 3:=⟨λT=>
 Callee.self (rF 3 ["function", "term", "switch"] 3 T.wf λhr=>
  ((qz (by delta Uh;walk_at "s"))))⟩
abbrev Js:DE:=h_ rg (h_ rg (Dv qc v7 (xx ue)) yX) (Dv qc (xx (h_ rg ue qD)) v7)
abbrev Jw:DT:=pV (h_ (pA rW) (h_ pX qc ue) yX)
abbrev JL:DS:=pd (pS 3 (pK qj 1 (pY (o6 1 yM (b_ qc f_))) (.one 5) [(pV (h_ (pA qC) (h_ pX m_ ue) qD))] [] ue)) (rX (A3 (pV (h_ (pA rW) qI yz)) (sN (o6 2 CZ (b_ m_ (b_ qc f_))))) (pd (pS 4 (pK qj 1 (rU (b_ (pf qB (b_ qc f_)) f_)) (.one 5) [Jw] [] Js)) (rX (pV (h_ (pA qC) (pK qj 1 (pY rA) (.one 5) [(sN (o6 2 CZ (b_ m_ (b_ ue f_))))] [] ue) yz)) (yE (AM o7 (b_ qc f_))) rT)) rT)
def H8:DS:=(pd (pS 1 (Ae f_)) (pd (uL (pY (o6 1 ED (b_ (o6 1 HU (b_ m_ f_)) f_))) (.one 2) JL) (pL o7)))
def LB:pD:=Cm (qx 5 H8)
instance:CI LB "_law_greatest" 4 1:=⟨λT=>
 Callee.frz (rF 3 ["_law_function_here", "_law_found", "_law_term_here", "_law_ones_here", "_law_wider"] 1 T.wA λhr=>
  (have x0:Nx ["_law_point"]:=⟨⟩;have x1:Nx ["_law_k"]:=⟨⟩;have x2:Nx ["_law_other"]:=⟨⟩;(qo '1' (qo '1' (qz '1')))))⟩
def HG:DS:=(pL (B_ (pf Cg (b_ (pK qj 1 (rU (b_ (pf qB (b_ o7 f_)) f_)) (.one 2) [] [] (o6 3 Ue (b_ m_ (b_ o7 (b_ qc f_))))) f_))))
def K9:pD:=(qx 2 HG)
instance:CI K9 "is_widest" 5 2:=⟨λT=>
 Callee.self (rF 4 ["function", "term"] 2 T.wg λhr=>
  (have x0:Nx ["switch"]:=⟨⟩;(qz (by delta HG;walk_at "s"))))⟩
abbrev Uv:DE:=sJ (b_ (h_ A1 sM (sJ (b_ (h_ pX o7 ue) f_))) (b_ (h_ (fI IV) (rB 8) (h_ pX qc ue)) f_))
abbrev N3:DS:=pS 4 (h_ A1 rA (pK qj 2 (pY rA) (.two 7 8) [] [] Uv))
def Lw:DS:=(pd (pS 1 (o6 1 LB (b_ m_ f_))) (pd (pS 2 (pK qj 1 (pY o7) (.one 7) [] [] (pf yC (b_ (pK qj 1 (pY (o6 1 yM (b_ sM f_))) (.one 8) [] [] (h_ (fI ug) qD (rB 8))) f_)))) (pd (pS 3 (pf yC (b_ (pK qj 1 (pY (o6 1 HH (b_ m_ f_))) (.one 7) [] [] (h_ (fI ug) qD sM)) f_))) (pd (pS 4 (sk (b_ (sJ (b_ (sJ f_) (b_ qE f_))) f_))) (pd (uL (rU (b_ (pf qB (b_ o7 f_)) f_)) (.one 5) N3) (pd (pS 4 (pK qj 2 (pY rA) (.two 7 8) [(pV (h_ (pA qC) (h_ (fI DC) (rB 8) qI) qI))] [] sM)) (pd (pS 6 (pf D1 (b_ (pK qj 1 (pY rA) (.one 7) [] [] (sJ (b_ (pf qB (b_ sM f_)) (b_ (o6 1 HX (b_ sM f_)) (b_ sM f_))))) f_))) (pL (sJ (b_ (h_ pX (h_ pX xu qE) uU) (b_ (pf qB (b_ (pK qj 1 (pY xu) (.one 7) [(pV (h_ (pA qC) (yY sM v7 (xx uU)) (yY (h_ pX xu qE) v7 (xx uU))))] [] sM) f_)) f_)))))))))))
def Lp:pD:=(qx 7 Lw)
instance:CI Lp "_law_least" 5 1:=⟨λT=>
 Callee.self (rF 4 ["_law_function_here", "_law_terms_here", "_law_masks", "_law_wanted", "_law_rows", "_law_at", "_law_some"] 1 T.wD λhr=>
  (have x0:Nx ["_law_point"]:=⟨⟩;have x1:Nx ["_law_term_here"]:=⟨⟩;have x2:Nx ["_law_row", "_law_held"]:=⟨⟩;have x3:Nx ["_law_row"]:=⟨⟩;(qo '1' (qo '1' (qo '1' (qo '1' (qo '1' (qo '1' (qo '1' (qz '1'))))))))))⟩
end
local macro_rules|`(tactic| walk_at "v")=>`(tactic| first|exact .inl rfl|exact .inr (.inl rfl)|exact .inr (.inr rfl))
local macro_rules|`(tactic| walk_at "l")=>`(tactic| first|exact .inl rfl|exact .inr rfl)
local macro_rules|`(tactic| walk_at "le")=>`(tactic| first|decide|exact aE _|lia)
local macro_rules|`(tactic| walk_at "fx")=>`(tactic| first|refine GP h (yK rfl A_) hr '3' rfl ?_<;>walk_at "a"|refine GP h (yK rfl Eb) hr '3' rfl ?_<;>walk_at "a"|refine Qi h hr '3' rfl ?_<;>walk_at "a")
local macro_rules|`(tactic| exists 0,0,$x)=>`(tactic| exact GP (Callee.toX (Cl:=Cl) (CI.out T)) (yK rfl $x) hr '3' rfl '6')
local macro_rules|`(tactic| walk_at "f")=>`(tactic| first|exists 0,0,A_|exists 0,0,Eb|exact Qi (Callee.toX (Cl:=Cl) (CI.out T)) hr '3' rfl '6'|((exists (o6 _ HV _));have h:=@z4g P w K mg base T B;walk_at "fx")|((exists (o6 _ HW _));have h:=@z5X P w K mg base T B;walk_at "fx")|((exists (o6 _ EA _));have h:=@z7Q P w K mg base T B;walk_at "fx")|((exists (o6 _ EI _));have h:=@z5f P w K mg base T B;walk_at "fx")|((exists (o6 _ _ _));have h:=c_self;walk_at "fx"))
local macro_rules|`(tactic| walk_at "k")=>`(tactic| first|exact PM|exact Pm _ rfl|exact ON|exact OI)
local macro_rules|`(tactic| walk_at "n")=>`(tactic| first|exact QN T.wZ)
local macro_rules|`(tactic| walk_at "o")=>`(tactic| first|((exists (h_ rg _ _));refine PU ?_ ?_<;>walk_at "e")|((exists (h_ pX _ _));exact Ov '2' '2' (λ_ _=>rfl))|exists (pA qC),(Ki hr.units),zp,0|exists (pA rW),(G_ hr.units),zp,0)
local macro_rules|`(tactic| walk_at "c")=>`(tactic| first|exists qB,Sm,PB,T.wP,OO|exists DM,(zaV rfl),zfV,T.wR,Yz|exists Cu,(zcP rfl),YV,T.wS,JV|exists false,T.w61,T.wg1,T.wr1,0,0|exists false,T.w91,T.wj1,T.wu1,0,0|exists false,T.w51,T.wf1,T.wq1,0,0|exists true,T.w11,T.wb1,T.wm1,0,0|exists false,T.w81,T.wi1,T.wt1,0,0|exists false,T.w41,T.we1,T.wp1,0,0|exists false,T.w31,T.wd1,T.wo1,0,0|exists false,T.w21,T.wc1,T.wn1,0,0|exists false,T.w71,T.wh1,T.ws1,0,0|((exists (uV (uO true) _));exact zfT (x := "ValueError") (n := "ValueError") (f:=(uO true)) '2' rfl T.wO Bn rfl T.wH z6r T.wk1 (kf T.wv1))|((exists (Am _ _ _ _ _ _ _));exact X1 T hr L rfl (VY (by kernel_rfl)) rfl (λ_ _ _ _ _ _=>rfl) (λq lam cd cl A outer s H E hr=>'2') rfl)|((exists (rJ _ _ _ (sO (EJ _)) _));refine Bb ((Ui T hT LQ).toT (Cl:=Cl)) (yK rfl A_) hr '3' rfl ?_<;>walk_at "a")|((exists (rJ _ _ _ (xY _) _));first|exact Bb (T_ T B hT LQ) (yK rfl A_) hr '3' rfl '6'|refine Bb (T_ T B hT LQ) (yK rfl Eb) hr '3' rfl ?_<;>walk_at "a")|((exists (rJ _ _ _ (Bo _) _));first|exact Bb (Ug T B hT LQ) (yK rfl A_) hr '3' rfl '6'|refine Bb (Ug T B hT LQ) (yK rfl Eb) hr '3' rfl ?_<;>walk_at "a")|((exists (rJ _ _ _ (C5 _) _));first|exact Bb (T9 T B hT LQ) (yK rfl A_) hr '3' rfl '6'|refine Bb (T9 T B hT LQ) (yK rfl Eb) hr '3' rfl ?_<;>walk_at "a"))
local macro_rules|`(tactic| walk_at "so")=>`(tactic| first|refine Rx ?_<;>walk_at "e")
local macro_rules|`(tactic| walk_at "m")=>`(tactic| first|((exists (Bc _ _ _ _ _ _ _));first|exists x0,3))
local macro_rules|`(tactic| walk_at "e1")=>`(tactic| first|((exists (rB _));refine Pq rfl ?_<;>walk_at "v")|((exists (dC _));first|walk_at "k"|walk_at "n")|((exists (h_ _ _ _));walk_at "o")|((exists (o6 _ _ _));walk_at "f")|((exists (sk _));refine Pb ?_<;>walk_at "a")|((exists (sJ _));refine O7 ?_<;>walk_at "a")|((exists (pK _ _ _ _ _ _ _));first|exists x0,2)|((exists (pf _ _));walk_at "c")|((exists (y0 _ _));refine P6 ?_ ?_<;>walk_at "e")|((exists (IZ _ _));refine Oj ?_ ?_<;>walk_at "e")|((exists (B_ _));refine Pa ?_<;>walk_at "e")|walk_at "c"|walk_at "m"|walk_at "o")
local macro_rules|`(tactic| walk_at "e")=>`(tactic| first|(show PD _ _ (.BoolOp _ [_] _) _;refine Pe ?_<;>walk_at "e1")|walk_at "e1")
local macro_rules|`(tactic| walk_at "a")=>`(tactic| first|((with_reducible show sI _ _ _ f_);exact Qg)|exact Sl '2' '6')
local macro_rules|`(tactic| walk_at "t")=>`(tactic| first|((with_reducible show qQ _ _ _ (pV (h_ (pA rW) _ _)));exact Bf (G_ hr.units) zp '2' '2' (CJ _))|(show qQ _ _ (.BoolOp _ _ _) _;refine ud.pt ?_<;>walk_at "w")|((with_reducible show qQ _ _ _ (xU _));refine Qx ?_<;>walk_at "t")|((with_reducible show qQ _ _ _ (sN _));exact Qj '2' (λ_=>rfl)))
local macro_rules|`(tactic| walk_at "w")=>`(tactic| first|(show ud _ _ (.BoolOp .And [_] _) _;refine RA ?_<;>walk_at "t")|(show ud _ _ (.BoolOp .Or [_] _) _;refine QE ?_<;>walk_at "t")|((with_reducible show ud _ _ _ (A3 _ _));exact QU '7' (by walk_at "w"))|((with_reducible show ud _ _ _ (Ab _ _));exact PF '7' (by walk_at "w")))
local macro_rules|`(tactic| walk_at "i")=>`(tactic| first|((with_reducible show s_ _ _ _ _ (rU _));refine TF rfl T.wT ?_<;>walk_at "a")|refine QF ?_<;>walk_at "e")
local macro_rules|`(tactic| walk_at "g")=>`(tactic| first|(show PG _ (.Name _ _) _;refine OR (uY (by kernel_rfl)) rfl ?_ ?_<;>walk_at "l")|(show PG _ (.Tuple [_,_] _ _) _;refine Pw rfl (uY (by kernel_rfl)) rfl rfl ?_ ?_ ?_ ?_<;>walk_at "l"))
local macro_rules|`(tactic| walk_at "fs")=>`(tactic| first|exact .nil|exact .cons '7' (by walk_at "fs"))
local macro_rules|`(tactic| walk_at "cs")=>`(tactic| first|exact .nil|(refine oo.cons ?_ (λ_=>rfl) ?_ ?_ ?_;(dsimp only;walk_at "i");(dsimp only;walk_at "g");(dsimp only;walk_at "fs");walk_at "cs"))
local macro_rules|`(tactic| walk_at "s")=>`(tactic| first|((exists (pL _),1);refine Qk ?_<;>walk_at "e")|((exists (rX _ _ _),1);exact OT '7' '8' '8')|(show tX _ _ (.Assign [.Name _ _] (.ListComp _ _ _ _) _) _;first|exists x0,4|exact G4 (uY (by kernel_rfl)) rfl (by walk_at "l") '2')|((exists (pS _ _),1);exact G4 (uY (by kernel_rfl)) rfl (by walk_at "l") '2')|((exists (uL _ _ _),1);exact Ql Zw rfl (by walk_at "i") (by walk_at "g") '8')|((exists (yE _),1);refine Rg ?_<;>walk_at "e")|((exists (Gu _ _),1);exact YD '2' (by walk_at "g"))|((with_reducible show tX _ _ _ (GV 0 _));refine zaC A_ rfl rfl B.z00 rfl rfl ?_<;>walk_at "a")|((exists rT,1);exact Rc))
local macro_rules|`(tactic| walk_at "ss")=>`(tactic| first|((with_reducible show rn _ _ _ rT);exact R1)|((with_reducible show rn _ _ _ (pd _ _));exact qo '1' '8')|refine qz ?_<;>walk_at "s")
def CH:DS:=(pd (pS 3 (sk (b_ (uV (uO qb) o7) (b_ (uV (uO qj) o7) (b_ (uV (uO qj) o7) f_))))) (pd (pS 3 (h_ rg qI (sk (b_ (uV (uO qj) o7) (b_ (uV (uO qj) o7) (b_ (uV (uO qj) o7) f_)))))) (pd (pS 3 (h_ rg qI (sk (b_ (uV (uO qj) o7) (b_ (uV (uO qj) o7) (b_ (uV (uO qj) o7) f_)))))) (pd (rX (xU (sN (uV (uO qb) o7))) (pL y8) rT) (pL (pK qj 1 (rU (b_ (dC (.int 9)) f_)) (.one 4) [(sN (h_ pX qI rA))] [] rA))))))
def z54:rj ["_law_call", "_law_error", "e", "_law_marks"] ["_law_call"] (pF (top 60)):=by walk_at "z"
def X1{X:Cx}{Ex:Nat->Hp->Prop}{k iT:Nat}{c Pt:af}{tE:DE}{params:eu}{body:aO}{scope:bS}{pn pl pp:Pos}(T:Txt X.K X.mg)(hr:nZ (k+2) X.A)(L:tI X.mg X.base c Pt)(rz:X.env.code=.ref c)(LS:Ho X.env.scope scope)(t_:defaultsOf params X.env=([],[]))
  (BW:∀(name qual:au)(cl:List (au×af))(pm cd ct:ae),bindArgs (ci name qual params body scope cl pm cd ct) ⟨[],[]⟩=pure [])
  (hE:∀(q:au)(lam:af)(cd:ae)(cl:List (au×af))(A:aU)(outer:List Env)(s:ag)(H:Hp)(E:XK),nZ k (A.deeper (sj q scope s.heap.objs.size lam cd cl))->PD (B8 (qR X.prog X.w Cl) X.prog X.w X.K X.mg X.base X.N (sj q scope s.heap.objs.size lam cd cl) A outer s H E) (Xk Cl E) body tE)
  (hg:Gl X "_law_refused"):PD X Ex (.Call (.Name "_law_refused" pn) [.Lambda params body scope pl] [] pp) (Am Pt iT Ca 4 1 tE CH):=
 zan (N:=["_law_call", "_law_error", "e", "_law_marks"]) (i:=2) (j:=1) (nf := "_law_call") (n := "e") (y := "_law_error") (xT := "TermError") (T:=24) (Cl:=Cl) (Ca:=Ca) T.wF hr rfl z54 (by decide +kernel) rfl rfl rfl 's' 's' rfl rfl (.inl rfl) '4' rfl T.wa1 (Wc T) (λf k_ s H hr=>(have x0:Nx ["_law_k"]:=⟨⟩;(qo '1' (qo '1' (qo '1' (qo '1' (qz '1'))))))) L rz LS t_ BW hE hg
def H_:DS:=(rX (xU (sN (o6 1 (sO Lj) (b_ m_ f_)))) (GV 0 (b_ (dC (.str [97,32,102,117,110,99,116,105,111,110,32,105,115,32,97,32,116,117,112,108,101,32,111,102,32,50,44,32,52,44,32,56,32,111,114,32,49,54,32,97,110,115,119,101,114,115,44,32,101,97,99,104,32,48,44,32,49,32,111,114,32,78,111,110,101])) f_)) rT)
def HV:pD:=(qx 1 H_)
def z4c:rj ["thing"] ["thing"] (pF (top 18)):=by walk_at "z"
def z4g(T:Txt K mg)(B:y_ mg base):og Cl P w K mg base "need_function" 5 1 HV:=
 og.self (fnX (k:=4) T.w4 z4c '4' λf k_ A outer s H E hr=>
  ((qz (by delta H_;walk_at "s"))))
def Lu:DS:=(pd (yE (o6 1 HV (b_ m_ f_))) (pL (pK qj 1 (pY (o6 1 (sO HD) (b_ (o6 1 (sO Lk) (b_ m_ f_)) f_))) (.one 1) [(sN (o6 2 (sO Ia) (b_ m_ (b_ o7 f_))))] [] o7)))
def HW:pD:=(qx 1 Lu)
def z6p:rj ["function"] ["function"] (pF (top 31)):=by walk_at "z"
def z5X(T:Txt K mg)(B:y_ mg base):og Cl P w K mg base "good_terms" 6 1 HW:=
 og.self (fnX (k:=5) T.we z6p '4' λf k_ A outer s H E hr=>
  (have x0:Nx ["term"]:=⟨⟩;(qo '1' (qz '1'))))
def HL:DS:=(pL (pK qj 1 (pY (o6 1 HW (b_ m_ f_))) (.one 1) [(A3 (sN (o6 2 (sO Ln) (b_ m_ (b_ o7 f_)))) (sN (o6 2 (sO K9) (b_ m_ (b_ o7 f_)))))] [] o7))
def EA:pD:=(qx 1 HL)
def z7U:rj ["function"] ["function"] (pF (top 34)):=by walk_at "z"
def z7Q(T:Txt K mg)(B:y_ mg base):og Cl P w K mg base "greatest" 7 1 EA:=
 og.self (fnX (k:=6) T.wh z7U '4' λf k_ A outer s H E hr=>
  (have x0:Nx ["term"]:=⟨⟩;(qz (by delta HL;walk_at "s"))))
def HR:DS:=(pL (Bc 1 (pY (o6 1 EA (b_ m_ f_))) (.one 1) [] [] o7 (o6 1 (sO Bl) (b_ o7 f_))))
def EI:pD:=(qx 1 HR)
def z5e:rj ["function"] ["function"] (pF (top 40)):=by walk_at "z"
def z5f(T:Txt K mg)(B:y_ mg base):og Cl P w K mg base "held_points" 8 1 EI:=
 og.self (fnX (k:=7) T.wm z5e '4' λf k_ A outer s H E hr=>
  (have x0:Nx ["term"]:=⟨⟩;(qz (by delta HR;walk_at "s"))))
def C6(P2:Nat):DS:=(pL (rJ P2 1 2 (sO (EJ P2)) (b_ (o6 1 EI (b_ m_ f_)) (b_ (o6 2 (sO Ll) (b_ m_ (b_ qD f_))) f_))))
def Bo(P2:Nat):pD:=vB 2 1 P2 (C6 P2)
def z5h:rj ["function", "<tab2>"] ["function"] (pF (top 41)):=by walk_at "z"
def Ug{c2 P2:af}(T:Txt K mg)(B:y_ mg base)(hT:yA K mg "covers" (top 38) c2)(LQ:tI mg base c2 P2):CM Cl P w K mg base "least_forms" 26 1 P2 (Bo P2):=
 Jq (k:=25) (i:=1) (z := "<tab2>") T.wn z5h rfl (z9 'k') '4' λf k_ A outer s H E hr=>
  ((qz (by delta C6;walk_at "s")))
def C4(P2:Nat):DS:=(pL (h_ pX (rJ P2 1 1 (Bo P2) (b_ m_ f_)) qE))
def xY(P2:Nat):pD:=vB 2 1 P2 (C4 P2)
def z5J:rj ["function", "<tab2>"] ["function"] (pF (top 42)):=by walk_at "z"
def T_{c2 P2:af}(T:Txt K mg)(B:y_ mg base)(hT:yA K mg "covers" (top 38) c2)(LQ:tI mg base c2 P2):CM Cl P w K mg base "least_form" 27 1 P2 (xY P2):=
 Jq (k:=26) (i:=1) (z := "<tab2>") T.wo z5J rfl (z9 'k') '4' λf k_ A outer s H E hr=>
  ((qz (by delta C4;walk_at "s")))
def C3(P2:Nat):DS:=(pL (pf qB (b_ (rJ P2 1 1 (Bo P2) (b_ m_ f_)) f_)))
def C5(P2:Nat):pD:=vB 2 1 P2 (C3 P2)
def z5M:rj ["function", "<tab2>"] ["function"] (pF (top 43)):=by walk_at "z"
def T9{c2 P2:af}(T:Txt K mg)(B:y_ mg base)(hT:yA K mg "covers" (top 38) c2)(LQ:tI mg base c2 P2):CM Cl P w K mg base "least_many" 27 1 P2 (C5 P2):=
 Jq (k:=26) (i:=1) (z := "<tab2>") T.wp z5M rfl (z9 'k') '4' λf k_ A outer s H E hr=>
  ((qz (by delta C3;walk_at "s")))
abbrev GK(Pt P2:Nat):DS:=pd (pS 2 (o6 2 (sO Lq) (b_ m_ (b_ o7 f_)))) (pd (pS 3 (o6 1 (sO LC) (b_ qc f_))) (pd (Gu (.two 4 5) (o6 1 (sO Lp) (b_ qI f_))) (pd (rX (Ab (xU (sN (o6 2 (sO EF) (b_ (rJ P2 8 1 (xY P2) (b_ qI f_)) (b_ rA f_))))) (xU (sN (o6 2 (sO EF) (b_ (rJ P2 8 1 (C5 P2) (b_ qI f_)) (b_ ue f_)))))) Cf rT) (pd (pS 6 (h_ pX (sk (b_ y8 (b_ qE (b_ (sJ f_) (b_ (sJ (b_ qE f_)) (b_ (sJ (b_ qE (b_ uU f_))) (b_ (sk (b_ qE (b_ qD f_))) (b_ (sJ (b_ qE (b_ (dC (.bl qb)) f_))) (b_ (dC (.str [48,49])) f_))))))))) (o6 2 (sO uX) (b_ qc (b_ (dC (.int 8)) f_))))) (pd (rX (pV (h_ (pA rW) (Am Pt 7 Ca 4 1 (rJ P2 8 1 (xY P2) uK) CH) (sk (b_ qE f_)))) Cf rT) (rX (pV (h_ (pA rW) (Am Pt 7 Ca 4 1 (rJ P2 8 1 (C5 P2) uK) CH) (sk (b_ qE f_)))) Cf rT))))))
def JK(Pt P2:Nat):DS:=(pd (uL (rU (b_ (pf DM (b_ qD (b_ (pf Cu (b_ (pf qB (b_ m_ f_)) (b_ AQ f_))) f_))) f_)) (.one 1) (GK Pt P2)) (pL (y0 (h_ (pA qC) (rJ P2 8 1 (xY P2) (b_ (sJ (b_ qE (b_ qE f_))) f_)) (sJ f_)) (h_ (pA qC) (rJ P2 8 1 (xY P2) (b_ (sJ (b_ y8 (b_ qD f_))) f_)) (sJ (b_ yX f_))))))
def F_law(Pt P2:Nat):pD:=Gh 9 7 8 Pt P2 (JK Pt P2)
def W4:rj ["_law_script", "_law_k", "_law_state_here", "_law_function_here", "_law_due", "_law_many", "_law_none", "<tab>", "<tab2>"] ["_law_script"] (pF (top 61)):=by walk_at "z"
def Xg{f c Pt c2 P2:af}{fd:dB}(hF:L2.Fun K "law" "law" (top 61) f fd)(hc:fd.code=.ref c)(T:Txt K mg)(B:y_ mg base)(hT:yA K mg "covers" (top 38) c2)(L:tI mg base c Pt)(LQ:tI mg base c2 P2):oj P w K mg base (qR P w Cl) 30 f fd ["_law_script"] (AX K (Xk Cl) 1 Pt P2 (F_law Pt P2)):=
 Wf (k:=29) (i:=7) (j:=8) (z := "<tab>") (y := "<tab2>") hF hc W4 rfl (z9 'k') rfl (z9 'k') λA outer s H E hr=>
  ((qo '1' (qz '1')))
def Xu{f c Pt b P2:af}{a:dB}(d:L2.Fun K "law" "law" (top 61) f a)(e:a.code=.ref c)(g:yA K mg "covers" (top 38) b)(T:Txt K mg)(B:y_ mg base)(L:tI mg base c Pt)(h:tI mg base b P2):oj P w K mg base (qR P w Cl) 30 f a ["_law_script"] (AX K (Xk Cl) 1 Pt P2 (F_law Pt P2)):=
 Xg d e T B g L h
end
def fa_mk{K:ai}{h:aL}{c:au->Option ae}(X:K.In h)(G:h.Ns bP c){n:au}{b:cN}{f:af}{e g:Option af}{sl:Array (Option ae)}{i j m o p d:ae}(a:gU K bP n=KF (KF (.ref f)))
  (l:K.lookup f=KF ⟨i,e,.func (bd n n (uF b) (rV b) (pF b) .none j m o g d p),sl⟩) (q:cS K d n=qb) (k:cR K (.ref f)=qb):qg K c n b:=⟨f,_,cE X G a,J6 l q k⟩
def gs_mk{K:ai}{h:aL}{a:au->Option ae}(X:K.In h)(G:h.Ns bP a){n:au}{cs:l_}{t:Tok}(s:gU K bP n=KF (KF (.str ⟨cs.toArray⟩ t))):Jl a n cs:=⟨_,cE X G s⟩
def gt_mk{K:ai}{h:aL}{a:au->Option ae}(X:K.In h)(G:h.Ns bP a){n:au}{b:List (Int×Int)}{e:af}{o:Obj}(d:gU K bP n=KF (KF (.ref e)))(u:K.lookup e=KF o)(v:Gf o b=qb)(y:(e==sysModules)=qj):AK K a n b:=⟨_,_,cE X G d,u,v,y⟩
def all_mk{P:aD}{w:aR}{K:ai}{h:aL}{b:au->Option ae}{I:af}(X:K.In h)(G:h.Ns bP b)(x:b "law" = KF (.ref I))(T:Txt K b)
  {f:af} {W J:Option af} {sl:Array (Option ae)} {Y M N O Q:ae} {i:af} (a:gU K bP "law" = KF (KF (.ref f)))
  (l:K.lookup f=KF ⟨Y,W,.func (bd "law" "law" (uF (top 61)) (rV (top 61)) (pF (top 61)) .none M N O J (.ref i) Q),sl⟩) (q:cS K (.ref i) "law" = qb) (k:cR K (.ref f)=qb)
  {v:af} {y z:Option af} {Z:Array (Option ae)} {A B C D E:ae} {j:af} (R:gU K bP "covers" = KF (KF (.ref v)))
  (S:K.lookup v=KF ⟨A,y,.func (bd "covers" "covers" (uF (top 38)) (rV (top 38)) (pF (top 38)) .none B C D z (.ref j) E),Z⟩) (q2:cS K (.ref j) "covers" = qb) (k2:cR K (.ref v)=qb)
  (F:lr K 37 Gi "ValueError.__new__" = qb)
  {P2:af} {m:ae} {n:Option af} {o:Array (Option ae)} {d:Array ae} (h6:K.lookup j=KF ⟨m,n,.fields d,o⟩) (h7:d[11]?=KF (.ref P2))
  {Pt:af} {p:ae} {r:Option af} {t:Array (Option ae)} {g:Array ae} (h4:K.lookup i=KF ⟨p,r,.fields g,t⟩) (h5:g[11]?=KF (.ref Pt)) (H:jc K=qb)
  : jc K=qb/\∃(c Pt U P2:af),gr K "law" = KF (c,Pt)/\gr K "covers" = KF (U,P2)/\∃V:dB,(∀(s:ag)(u:ae),iE s V ⟨[u],[]⟩ [("_law_script",u)])/\∀base:aL,K.In base->base.Ns bP b->tI b base c Pt->tI b base U P2->oj P w K b base (qR P w Cl) 30 I V ["_law_script"] (AX K (Xk Cl) 1 Pt P2 (F_law Pt P2)):=by have hF:L2.Fun K "law" "law" (top 61) f (bd "law" "law" (uF (top 61)) (rV (top 61)) (pF (top 61)) .none M N O J (.ref i) Q):=J6 l q k;have e:=x.symm.trans (cE X G a);cases e;have hT:yA K b "covers" (top 38) j:=⟨v,_,cE X G R,J6 S q2 k2,rfl⟩;exact⟨H,i,Pt,j,P2,OU a l h4 h5,OU R S h6 h7,_,λs u=>.of_eq rfl,λbase kb nb L LQ=>Xu hF rfl hT T ⟨ZN kb T.w11 F⟩ L LQ⟩
end K12
-- VH 30
namespace K12
open PySem DL
def AI:D->Bool
 |.non=>qb
 |.bl _=>qb
 |.int _=>qb
 |.str _=>qb
 |_=>qj
def x8:D->Bool
 |.tup ds=>ds.all AI
 |d=>AI d
def Pl(O:Ow):Prop:=∀c∈O,∀d∈c,x8 d=qb
def Po{p:D->Prop}(h0:p .non)(a:∀b,p (.bl b))(c:∀i,p (.int i))(e:∀w,p (.str w)):∀{d:D},AI d=qb->p d
 |.non,_=>h0
 |.bl b,_=>a b
 |.int i,_=>c i
 |.str w,_=>e w
def P0{p:D->Prop}(h:∀{d:D},AI d=qb->p d)(a:∀ds:List D,(∀d∈ds,AI d=qb)->p (.tup ds)):∀{d:D},x8 d=qb->p d
 |.tup ds,q=>a ds (aH.mp q)
 |.non,q=>h q
 |.bl _,q=>h q
 |.int _,q=>h q
 |.str _,q=>h q
theorem J5:∀{ds:List D},(∀d∈ds,nm d=qb)->nms ds=qb
 |[],_=>rfl
 | d::ds,h=>by
  unfold nms;rw[h d am,J5 λx a=>h x (ak _ a)];rfl
def Pu{d:D}:AI d=qb->nm d=qb:=Po (p:=λd=>nm d=qb) rfl (λ_=>rfl) (λ_=>rfl) (λ_=>rfl)
def XB{d:D}:x8 d=qb->nm d=qb:=P0 (p:=λd=>nm d=qb) Pu λb h=>by
 unfold nm;exact J5 λd a=>Pu (h d a)
def Pl.nms{O:Ow}(h:Pl O):O.all nms=qb:=aH.mpr λc a=>J5 λd b=>XB (h c a d b)
def He{O:Ow}{n f:Nat}{d:D}:x8 d=qb->frz O n (f+1) d=KF d:=by
 have a:∀{f:Nat}{d:D},AI d=qb->frz O n f d=KF d:=λ{f}{d}=>Po (p:=λd=>frz O n f d=KF d) (by cases f<;>rfl) (λ_=>by cases f<;>rfl) (λ_=>by cases f<;>rfl) (λ_=>by cases f<;>rfl);exact P0 (p:=λd=>frz O n (f+1) d=KF d) a λb h=>by
  show(pM (frz O n f) b).map D.tup=_;rw[CK λd c=>a (h d c)];rfl
def CN{a:Ow}(b:Pl a)(X:Ow){d d':D}(h:frz (a++X) a.length 8 d=KF d'):xp a.length (.ok d (a++X))=.ok d' a:=by
 unfold xp;dsimp only;rw[h];have:(a++X).take a.length=a:=by simp
 rw[this,CK λc e=>CK λd f=>He (b c e d f)]
def zy{O:Ow}{x:List D}:(O++[x])[O.length]?=KF x:=by simp
def Rf{O:Ow}{x y:List D}:(O++[x]).set O.length y=O++[y]:=by simp
def RE{O:Ow}(a:Pl O){ds:List D}(h:∀d∈ds,x8 d=qb):xp O.length (.ok (.own O.length) (O++[ds]))=.ok (.lst ds) O:=CN a _ (by
 unfold frz;dsimp only;rw[q0 (bU _),zy];dsimp only;rw[CK λd b=>He (h d b)];rfl)
def Pl.app{O X:Ow}(h:Pl O)(a:Pl X):Pl (O++X):=λc b=>(aS.mp b).elim (h c) (a c)
def Pl.one{O:Ow}(h:Pl O){c:List D}(a:∀d∈c,x8 d=qb):Pl (O++[c]):=h.app λx b=>by
 rw[bV.mp b];exact a
def NY(s:Int)(b:Bool):∀d∈[D.int s,D.bl b],x8 d=qb:=λd a=>by
 simp only[aq,bG,or_false] at a;rcases a with rfl|rfl<;>rfl
def Pl.set{O:Ow}(h:Pl O)(m:Nat)(s:Int)(b:Bool):Pl (O.set m [.int s,.bl b]):=λc e d a=>by
 rcases gL e with q|rfl
 ·exact h c q d a
 ·exact NY s b d a
def Qb(l:j_):∀d∈l.map D.str,x8 d=qb:=λd a=>by
 obtain⟨x,_,rfl⟩:=ay.mp a;rfl
def YP:Nat->j_
 |0=>[[]]
 |n+1=>(YP n).flatMap λt=>[t++[45],t++[48],t++[49]]
noncomputable def PN:Nat->l_
 |45=>[0,1]
 |48=>[0]
 |_=>[1]
def pR(cs:l_):l_:=cs.foldl (λps c=>ps.flatMap λp=>(PN c).map (2*p + ·)) [0]
def qH(l:l_):List D:=l.map λ(p:Nat)=>D.int (p:Int)
def om:j_:=YP 1++YP 2++YP 3++YP 4
def N4:l_:=[1,2,3,4]
def J4{n:Nat}(a:1<=n)(b:n<=4):n∈N4:=by
 have:n=1\/n=2\/n=3\/n=4:=by lia
 rcases this with rfl|rfl|rfl|rfl<;>simp[N4]
def DD{n:Nat}(a:1<=n)(b:n<=4):n=1\/n=2\/n=3\/n=4:=by lia
def ZY(O:Ow):(om.map λcs=>Bl [.str cs] O)=om.map λcs=>R.ok (.lst (qH (pR cs))) O:=by kernel_rfl
def Lo{cs:l_}(h:cs∈om)(O:Ow):Bl [.str cs] O=.ok (.lst (qH (pR cs))) O:=de.mp (ZY O) cs h
def zj:Nat->Nat->l_
 |0,_=>[]
 |n+1,p=>zj n (p/2)++[48+p%2]
def sgn(c:Nat):Bool:=c==45||c==48||c==49
def oX:List (l_×Nat):=om.flatMap λcs=>(a9 (2 ^ cs.length)).map λp=>(cs,p)
def oQ:List (Nat×Nat):=N4.flatMap λn=>(a9 (2 ^ n)).map λp=>(n,p)
def zdc(O:Ow):(oQ.map λq=>HI [.int (q.1:Nat),.int (q.2:Nat)] O)=oQ.map λq=>R.ok (.str (zj q.1 q.2)) O:=by kernel_rfl
def Sj{n p:Nat}(a:1<=n)(b:n<=4)(c:p<2 ^ n):(n,p)∈oQ:=iD.mpr ⟨n,J4 a b,ay.mpr ⟨p,cq.mpr c,rfl⟩⟩
def zdM{cs:l_}{p:Nat}(h:cs∈om)(a:p<2 ^ cs.length):(cs,p)∈oX:=iD.mpr ⟨cs,h,ay.mpr ⟨p,cq.mpr a,rfl⟩⟩
def xC{n:Nat}(a:1<=n)(b:n<=4){cs:l_}(h:cs∈YP n):cs∈om:=by unfold om;rcases DD a b with rfl|rfl|rfl|rfl<;>simp[h]
def YG:(om.all λcs=>decide (1<=cs.length)&&decide (cs.length<=4)&&cs.all sgn&&((pR cs).all λp=>decide (p<2 ^ cs.length))&&decide ((pR cs).length<=16)&&decide ((a9 (2 ^ cs.length)).filter (λp=>(pR cs).contains p)=pR cs))=qb:=by decide +kernel
structure TT(cs:l_):Prop where
 l1:1<=cs.length
 l4:cs.length<=4
 sg:∀c∈cs,sgn c=qb
 lt:∀p∈pR cs,p<2 ^ cs.length
 few:(pR cs).length<=16
 fil:(a9 (2 ^ cs.length)).filter (λp=>(pR cs).contains p)=pR cs
def tt{cs:l_}(h:cs∈om):TT cs:=by have:=aH.mp YG cs h;simp only[bi,decide_eq_true_eq,aH] at this;obtain⟨⟨⟨⟨⟨a,b⟩,c⟩,d⟩,e⟩,f⟩:=this;exact⟨a,b,c,d,e,f⟩
def zdG:(N4.all λn=>((YP n).all λcs=>cs.length==n)&&decide ((YP n).length<=81)&&decide ((YP n).Pairwise (· < ·)))=qb:=by decide +kernel
def Ef{n:Nat}(a:1<=n)(b:n<=4):(∀cs∈YP n,cs.length=n)/\(YP n).length<=81/\(YP n).Pairwise (· < ·):=by have:=aH.mp zdG n (J4 a b);simp only[bi,decide_eq_true_eq,aH,beq_iff_eq] at this;exact⟨this.1.1,this.1.2,this.2⟩
def Tj{n:Nat}(a:1<=n)(b:n<=4){cs:l_}(h:cs∈YP n):cs.length=n:=(Ef a b).1 cs h
def zbS{n:Nat}(a:1<=n)(b:n<=4){cs:l_}(h:cs∈YP n):∀c∈cs,sgn c=qb:=(tt (xC a b h)).sg
def D5{cs:l_}(h:cs∈om):(pR cs).length<=16:=(tt h).few
def Aj{n:Nat}(a:n<=4):2 ^ n<=16:=aF (cX 's' a) 's'
def CO{n:Nat}(a:1<=n)(b:n<=4){cs:l_}(h:cs∈YP n){p:Nat}(c:p∈pR cs):p<2 ^ n:=by have:=(tt (xC a b h)).lt p c;rwa [Tj a b h] at this
theorem K4:∀(n:Nat)(cs:l_),cs.length=n->(∀c∈cs,sgn c=qb)->cs∈YP n
 | 0,cs,h,_=>by
  rw[cx.mp h];simp[YP]
 | n+1,cs,h,hs=>by
  have b:cs≠[]:=by intro e;subst e;simp at h
  obtain⟨t,c,rfl⟩:∃t c,cs=t++[c]:=⟨_,_,(List.dropLast_concat_getLast b).symm⟩;have a:=hs c 'd';unfold sgn at a;simp only[gH,beq_iff_eq] at a;exact iD.mpr ⟨t,K4 n t ⇑h λc d=>hs c (bN _ d),by rcases a with(z|z)|z<;>rw[z]<;>simp⟩
def Sy{n k a:Nat}(h:(a9 n)[k]?=KF a):a=k/\k<n:=by obtain⟨b,rfl⟩:=al.mp h;exact⟨by simp,by simpa using b⟩
def JM{σ:Sg}{O O1:Ow}{t:DE}{n:Nat}(a:n<=4)(h:t σ O=.ok (.int n) O1):h_ (fI ug) qD t σ O=.ok (.int ((2 ^ n:Nat):Int)) O1:=by
 refine pG rfl h ?_;have:n=0\/n=1\/n=2\/n=3\/n=4:=by lia
 rcases this with rfl|rfl|rfl|rfl|rfl<;>rfl
def RT{σ:Sg}{O O1:Ow}{i k:Nat}{t:DE}{y:D}{ds:List D}(a:σ[i]?=KF (uq k))(b:t σ O=.ok y O1)(c:O1[k]?=KF ds)(d:ds.length<4000000):
  yE (AM (rB i) (b_ t f_)) σ O=.nx σ (O1.set k (ds++[y])):=by refine Rp (x:=.non) ?_;unfold AM rB;rw[a];show((b_ t f_ σ O).bnd _)=_;rw[pB b];show(match [y],O1[k]? with|[y],KF ds=>if ds.length<4000000 then R.ok D.non (O1.set k (ds++[y])) else R.bad|_,_=>R.bad)=_;rw[c];exact qL d
def z8u{α:Type}{l:List α}{p:α->Bool}{k:Nat}{a:α}(h:l[k]?=KF a):(l.take (k+1)).filter p=(l.take k).filter p++(if p a=qb then [a] else []):=by rw[jb,h,g7];cases b:p a<;>simp[b]
def grown{α:Type}{O:Ow}{l:List α}{inj:α->D}{p:α->Bool}{k:Nat}{a:α}(h:l[k]?=KF a):(if p a=qb then (O++[((l.take k).filter p).map inj]).set O.length (((l.take k).filter p).map inj++[inj a]) else O++[((l.take k).filter p).map inj])=O++[((l.take (k+1)).filter p).map inj]:=by rw[z8u h];cases p a<;>simp
def zeu(O:Ow)(x y:Option D):(oX.map λq=>JB [qJ q.1,x,y,qJ (zj q.1.length q.2)] O)=oX.map λq=>R.ok ((pR q.1).contains q.2) O:=by kernel_rfl
def HP{cs:l_}(h:cs∈om){O:Ow}(o:Pl O):yM [.str cs] O=.ok (.lst (qH (pR cs))) O:=by
 have T:=tt h;have q:=T.l1;have c:=T.l4;have u:=Aj c;have f:∀{σ a},rB 0 σ a=.ok (.str cs) a->pf qB (b_ m_ f_) σ a=.ok (.int (cs.length:Nat)) a:=λe=>rp (pB e) (KH 'o');let st (y z:Option D):Sg:=[qJ cs,uq O.length,y,z];obtain⟨r,a,g,y,z,rfl,rfl⟩:=DY (i:=2) (body:=pd (pS 3 (o6 2 HI (b_ (pf qB (b_ m_ f_)) (b_ qc f_)))) (rX JB (yE (AM o7 (b_ qc f_))) rT)) (l:=a9 (2 ^ cs.length)) (inj:=λ(i:Nat)=>D.int (i:Int)) (σ:=st KM KM) (zx (pB (JM c (f rfl))) 'o') (λk σ a=>∃y z,σ=st y z/\a=O++[(((a9 (2 ^ cs.length)).take k).filter λp=>(pR cs).contains p).map λ(p:Nat)=>D.int (p:Int)]) (λk p σ a j s=>by
  obtain⟨y,z,rfl,rfl⟩:=s;obtain⟨rfl,m⟩:=Sy j;refine⟨st (qd (p:Nat)) (qJ (zj cs.length p)),_,rK (qv (qT (f rfl) rfl) (de.mp (zdc _) (_,p) (Sj q c m))) ((yF (de.mp (zeu _ _ _) (cs,p) (zdM h m))).trans (?_:_=RS.nx _ _)),_,_,rfl,(grown (p:=λp=>(pR cs).contains p) j)⟩;have b:=bo (λp=>(pR cs).contains p) ((a9 (2 ^ cs.length)).take p);rw[bK,cM] at b;dsimp only;cases (pR cs).contains p with
  |false=>rfl
  |true=>exact RT rfl rfl zy (by rw[ax];lia)) ⟨KM,KM,rfl,rfl⟩
 rw[<- cM (n:=2 ^ cs.length),gk,cM,T.fil] at g;show xp O.length (fin (HQ [qJ cs,KM,KM,KM] O))=_;have e:HQ [qJ cs,KM,KM,KM] O=.rt (.own O.length) (O++[qH (pR cs)]):=by
  unfold HQ;exact rK (x:=.own O.length) (O1:=O++[[]]) rfl (xA g (uE rfl))
 rw[e];exact RE o λd t=>by
  obtain⟨p,_,rfl⟩:=ay.mp t;rfl
def vE{n:Nat}{F:pD}{a:DA}{σ:Sg}{O O1 O2:Ow}{ds:List D}{d:D}(b:a σ O=.ok ds O1)(c:F ds O1=.ok d O2)(e:ds.length=n:=by rfl):o6 n (sO F) a σ O=.ok d O2:=qv b (Ra c) e
def Qd(n:Nat)(l:l_):(qH l).all (pl n)=qb:=YH n l
def J7(O:Ow)(p:Nat)(l:l_):yp O (.int (p:Int)) (.lst (qH l))=.ok (.bl (l.contains p)) O/\y7 O (.int (p:Int)) (.lst (qH l))=.ok (.bl (!l.contains p)) O:=Wu O (l:=qH l) rfl (Qd 7 l) (.inl rfl) (by
 rw[cu];constructor
 ·intro h;exact ay.mpr ⟨p,h,rfl⟩
 ·intro h;obtain⟨j,h,e⟩:=ay.mp h;injection e with e;rwa [<- show j=p by lia])
def NT(O:Ow){l:List D}(h:l.all (pl 7)=qb):pA qC O (.lst l) (.lst [])=.ok (.bl l.isEmpty) O/\pA rW O (.lst l) (.lst [])=.ok (.bl (!l.isEmpty)) O:=Qa O h rfl (by cases l<;>simp)
def Zu{k:Nat}{l:j_}(h:∀t∈l,t∈om):(l.map D.str).all (pl k)=qb:=aH.mpr λd a=>by
 obtain⟨t,b,rfl⟩:=ay.mp a;have:(t.all λc=>decide (c<1114112))=qb:=aH.mpr λc e=>by
  have:=(tt (h t b)).sg c e;unfold sgn at this;simp only[gH,beq_iff_eq] at this;rcases this with(rfl|rfl)|rfl<;>rfl
 cases k<;>exact this
def Ri(O:Ow)(l:l_):pA qC O (.lst (qH l)) (.lst [])=.ok (.bl l.isEmpty) O/\pA rW O (.lst (qH l)) (.lst [])=.ok (.bl (!l.isEmpty)) O:=by rw[<- mP (f:=λ(p:Nat)=>D.int (p:Int))];exact NT O (Qd 7 l)
def zdw(O:Ow){l:j_}(h:∀t∈l,t∈om):pA qC O (.lst (l.map D.str)) (.lst [])=.ok (.bl l.isEmpty) O/\pA rW O (.lst (l.map D.str)) (.lst [])=.ok (.bl (!l.isEmpty)) O:=by rw[<- mP (f:=D.str)];exact NT O (Zu h)
def K5{α:Type}{l:List α}{p:α->Bool}:(l.filter p).isEmpty=l.all λx=>!p x:=by rw[eF,List.isEmpty_iff,List.filter_eq_nil_iff,aH];simp
def xK(d:D):Prop:=d=.int 0\/d=.int 1\/d=.non
def u9:D->Bool
 |.int 0=>qb
 |_=>qj
def x9:D->Bool
 |.int 1=>qb
 |_=>qj
structure Fn(n:Nat)(f:List D):Prop where
 n1:1<=n
 n4:n<=4
 len:f.length=2 ^ n
 ans:∀d∈f,xK d
def rC(f:List D)(cs:l_):Bool:=(pR cs).all λp=>!u9 (f.getD p .non)
def AY(f:List D)(cs:l_):Bool:=(pR cs).any λp=>x9 (f.getD p .non)
def UR(O:Ow){d:D}(h:xK d):pA qC O d (.int 0)=.ok (.bl (u9 d)) O/\pA rW O d (.int 0)=.ok (.bl (!u9 d)) O:=by rcases h with rfl|rfl|rfl<;>exact⟨rfl,rfl⟩
def Iw(O:Ow){d:D}(h:xK d):pA qC O d (.int 1)=.ok (.bl (x9 d)) O:=by rcases h with rfl|rfl|rfl<;>rfl
def Hw(O:Ow)(f:List D):qB O [.tup f]=.ok (.int f.length) O:=rfl
section
variable{n:Nat}{f:List D}(hf:Fn n f)
include hf
theorem AL{p:Nat}(b:p<2 ^ n):xK (f.getD p .non)/\∀O:Ow,pX O (.tup f) (.int (p:Int))=.ok (f.getD p .non) O:=by
 have a:p<f.length:=by rw[hf.len];exact b
 have e:f.getD p .non=f[p]:=by rw[bE,aC a];rfl
 rw[e];exact⟨hf.ans _ (el a),λO=>zfX a⟩
theorem z88(O:Ow):Lk [.tup f] O=.ok (.int n) O:=by show fin (pL (Gg zC (pf qB (b_ m_ f_))) [qp f] O)=_;refine uD ?_;show(match tY zC (f.length:Nat) with|some v=>R.ok (D.int v) O|none=>R.bad)=_;rw[hf.len];rcases DD hf.n1 hf.n4 with rfl|rfl|rfl|rfl<;>rfl
theorem z4K(O:Ow):HU [.tup f] O=.ok (.int n) O:=by show fin (pL (Gp [(2,1),(4,2),(8,3),(16,4)] (pf qB (b_ m_ f_))) [qp f] O)=_;refine uD ?_;show(match DH [(2,1),(4,2),(8,3),(16,4)] (f.length:Nat) with|some v=>R.ok (D.int v) O|none=>R.bad)=_;rw[hf.len];rcases DD hf.n1 hf.n4 with rfl|rfl|rfl|rfl<;>rfl
theorem z5g(O:Ow):Lj [.tup f] O=.ok (.bl qb) O:=by have g:=Aj hf.n4;have h:=hf.len;show fin (Li [qp f] O)=_;unfold Li;refine uN (vC (O1:=O) (J9 (a:=qj) (b:=qj) rfl λ_=>tP ?_) (uE (rp (pB (vZ (o:=qj) (l:=f) (inj:=λd=>d) (e:=λ_=>D.bl qb) (τ:=λd=>[qp f,KF d]) (by rw[List.map_id'];exact Kj rfl) 'o' (λ_=>rfl) (λd c=>qv (pB rfl) (by rcases hf.ans d c with rfl|rfl|rfl<;>rfl)))) ((K1 O f λ_=>qb).trans 'd'))));show R.ok (D.bl (if qb=qb then !(tY zC (f.length:Nat)).isSome else _)) O=_;rw[hf.len];rcases DD hf.n1 hf.n4 with rfl|rfl|rfl|rfl<;>rfl
theorem ZJ(O:Ow):HV [.tup f] O=.ok .non O:=by show fin (H_ [qp f] O)=_;unfold H_;rw[yF (b:=qj) (O1:=O) (Al (b:=qb) (yJ (vE (pB rfl) (z5g hf O))))];rfl
variable{cs:l_}(h:cs∈YP n)
include h
theorem RN(O:Ow):Ia [.tup f,.str cs] O=.ok (.bl (rC f cs)) O:=by
 have a:=xC hf.n1 hf.n4 h;have c:=D5 a;show fin (Ib [qp f,qJ cs] O)=_;unfold Ib;exact uD (rp (pB (vZ (o:=qj) (l:=pR cs) (inj:=λ(p:Nat)=>D.int (p:Int)) (e:=λp=>D.bl (!u9 (f.getD p .non))) (τ:=λ(p:Nat)=>[qp f,qJ cs,qd (p:Int)]) (tJ (qv (pB rfl) (Lo a O))) 'o' (λ_=>rfl) (λp b=>
  have q:=AL hf (CO hf.n1 hf.n4 h b)
  pG (pG rfl rfl (q.2 O)) rfl (UR O q.1).2))) (K1 O _ _))
theorem z5l(O:Ow):Ln [.tup f,.str cs] O=.ok (.bl (AY f cs)) O:=by
 have a:=xC hf.n1 hf.n4 h;have c:=D5 a;show fin (HS [qp f,qJ cs] O)=_;unfold HS;exact uD (rp (pB (vZ (o:=qj) (l:=pR cs) (inj:=λ(p:Nat)=>D.int (p:Int)) (e:=λp=>D.bl (x9 (f.getD p .non))) (τ:=λ(p:Nat)=>[qp f,qJ cs,qd (p:Int)]) (tJ (qv (pB rfl) (Lo a O))) 'o' (λ_=>rfl) (λp b=>
  have q:=AL hf (CO hf.n1 hf.n4 h b)
  pG (pG rfl rfl (q.2 O)) rfl (Iw O q.1)))) (RM O _ _))
theorem TZ{O:Ow}(b:Pl O):CZ [.tup f,.str cs] O=.ok (.bl (rC f cs)) O:=by
 have a:=xC hf.n1 hf.n4 h;have d:=D5 a;show fin (HF [qp f,qJ cs] O)=_;unfold HF;refine uD ((pG (x:=.lst (qH ((pR cs).filter λp=>u9 (f.getD p .non)))) (xS (o:=qj) (l:=pR cs) (inj:=λ(p:Nat)=>D.int (p:Int)) (p:=λp=>u9 (f.getD p .non)) (e:=λ(p:Nat)=>D.int (p:Int)) (τ:=λ(p:Nat)=>[qp f,qJ cs,qd (p:Int)]) (tJ (qv (pB rfl) (HP a b))) 'o' (λ_=>rfl) (λp c=>
  have q:=AL hf (CO hf.n1 hf.n4 h c)
  tP (pG (pG rfl rfl (q.2 O)) rfl (UR O q.1).1)) (λ_ _ _=>rfl)) rfl (Ri O _).1).trans ?_)
 rw[K5];rfl
end
def A6(n:Nat)(f:List D):j_:=(YP n).filter (rC f)
def DB(f:List D)(cs:l_)(k:Nat):Bool:=cs.getD k 0 !=45&&rC f (cs.set k 45)
def w_(f:List D)(cs:l_):Bool:=!(a9 cs.length).any (DB f cs)
def xG(f:List D)(cs:l_):Bool:=AY f cs&&w_ f cs
def qU(n:Nat)(f:List D):j_:=(A6 n f).filter (xG f)
noncomputable def allS:List (l_×Nat):=om.flatMap λcs=>(a9 cs.length).map λk=>(cs,k)
def KI{cs:l_}{k:Nat}(h:cs∈om)(a:k<cs.length):(cs,k)∈allS:=iD.mpr ⟨cs,h,ay.mpr ⟨k,cq.mpr a,rfl⟩⟩
def Hx{n:Nat}(a:1<=n)(b:n<=4){cs:l_}(h:cs∈YP n)(k:Nat):cs.set k 45∈YP n:=K4 n _ (by rw[cr,Tj a b h]) λc d=>by
 rcases gL d with q|rfl
 ·exact zbS a b h c q
 ·rfl
def Y0(O:Ow)(x:Option D):(allS.map λq=>(K7 [.str q.1,.int (q.2:Nat),.str [45]] O,h_ (pA rW) (h_ pX o7 qc) yX [x,qJ q.1,qd (q.2:Nat)] O))=allS.map λq=>(R.ok (.str (q.1.set q.2 45)) O,R.ok (.bl (q.1.getD q.2 0 !=45)) O):=by kernel_rfl
def z6d(O:Ow):(N4.map λn=>(HD [.int (n:Nat)] O,ED [.int (n:Nat)] O))=N4.map λn=>(R.ok (.lst ((YP n).map .str)) O,R.ok (.lst ((YP n).map .str)) O):=by kernel_rfl
def Sf{n:Nat}(a:1<=n)(b:n<=4)(O:Ow):HD [.int n] O=.ok (.lst ((YP n).map .str)) O/\ED [.int n] O=.ok (.lst ((YP n).map .str)) O:=by have:=de.mp (z6d O) n (J4 a b);exact⟨congrArg jM this,congrArg kW this⟩
def zaf{α:Type}{p:α->Bool}{l:List α}{k:Nat}(h:l.length<=k):(l.filter p).length<=k:=aF (bo _ _) h
def KP{n:Nat}{f:List D}{cs:l_}(h:cs∈A6 n f):cs∈YP n/\rC f cs=qb:=bw.mp h
section
variable{n:Nat}{f:List D}(hf:Fn n f)
include hf
theorem zbJ:(A6 n f).length<=81:=zaf (Ef hf.n1 hf.n4).2.1
theorem C2:∀cs∈qU n f,cs∈om:=λcs h=>xC hf.n1 hf.n4 (KP (bw.mp h).1).1
theorem C1:(qU n f).Pairwise (· < ·):=((Ef hf.n1 hf.n4).2.2.filter _).filter _
theorem zbF{cs:l_}(h:cs∈YP n)(O:Ow):K9 [.tup f,.str cs] O=.ok (.bl (w_ f cs)) O:=by have a:=xC hf.n1 hf.n4 h;have T:=(tt a).l4;show fin (HG [qp f,qJ cs] O)=_;unfold HG w_;refine uD (ZX (rp (pB (vZ (o:=qj) (l:=a9 cs.length) (inj:=λ(p:Nat)=>D.int (p:Int)) (e:=λk=>D.bl (DB f cs k)) (τ:=λ(p:Nat)=>[qp f,qJ cs,qd (p:Nat)]) (zx (pB (rp (pB rfl) (KH 'o'))) 'o') (by rw[cM];lia) (λ_=>rfl) (λk b=>qv (Hv rfl (qT rfl rfl)) ?_))) (RM O _ _)));have e:=de.mp (Y0 O (qp f)) (cs,k) (KI a (cq.mp b));exact uD (Kl (congrArg kW e) λ_=>qv (qT rfl (qv (Hv rfl (qT rfl rfl)) (congrArg jM e))) (RN hf (Hx hf.n1 hf.n4 h k) O))
theorem zaB(O:Ow):EA [.tup f] O=.ok (.lst ((qU n f).map .str)) O:=by
 have g:HW [.tup f] O=.ok (.lst ((A6 n f).map .str)) O:=by
  show fin (Lu [qp f] O)=_;unfold Lu;exact uN (YQ (qv (pB rfl) (ZJ hf O)) (uE (xS (o:=qj) (l:=YP n) (inj:=D.str) (p:=rC f) (e:=D.str) (τ:=λt=>[qp f,qJ t]) (tJ (vE (pB (vE (pB rfl) (z88 hf O))) (Sf hf.n1 hf.n4 O).1)) (by have:=(Ef hf.n1 hf.n4).2.1;lia) (λ_=>rfl) (λt a=>yJ (vE (qT rfl rfl) (RN hf a O))) (λ_ _ _=>rfl))))
 show fin (HL [qp f] O)=_;unfold HL;exact uD (xS (o:=qj) (l:=A6 n f) (inj:=D.str) (p:=xG f) (e:=D.str) (τ:=λt=>[qp f,qJ t]) (tJ (qv (pB rfl) g)) (by have:=zbJ hf;lia) (λ_=>rfl) (λt a=>Sk (yJ (vE (qT rfl rfl) (z5l hf (KP a).1 O))) λ_=>yJ (vE (qT rfl rfl) (zbF hf (KP a).1 O))) (λ_ _ _=>rfl))
omit hf in
theorem YI(O:Ow)(a b y3 y4:Option D):(allS.map λq=>(Js [a,b,qJ q.1,y3,y4,qd (q.2:Nat)] O,Jw [a,b,qJ q.1,y3,y4,qd (q.2:Nat)] O))=allS.map λq=>(R.ok (.str (q.1.set q.2 45)) O,R.ok (q.1.getD q.2 0 !=45) O):=by kernel_rfl
theorem zdb{cs:l_}(h:cs∈YP n){O:Ow}(m:Pl O){k:Nat}{c:List D}(d:O[k]?=KF c)(A:c.length<4000000)(y3 y4:Option D):
  ∃B C,JL [qp f,uq k,qJ cs,y3,y4] O=.nx [qp f,uq k,qJ cs,B,C] (if (rC f cs&&xG f cs)=qb then O.set k (c++[.str cs]) else O):=by
 have r:=xC hf.n1 hf.n4 h;have T:=tt r;have K:=T.l4;have s:=T.few;let st (x y:Option D):Sg:=[qp f,uq k,qJ cs,x,y];let a:=(pR cs).filter λp=>x9 (f.getD p .non);let b:=((a9 cs.length).filter λk=>cs.getD k 0 !=45).map λk=>cs.set k 45;have u:=xS (o:=qj) (ext:=1) (i:=5) (it0:=pY (o6 1 yM (b_ qc f_))) (σ:=st y3 y4) (t:=pV (h_ (pA qC) (h_ pX m_ ue) qD)) (te:=rB 5) (l:=pR cs) (inj:=λ(p:Nat)=>D.int (p:Int)) (p:=λp=>x9 (f.getD p .non)) (e:=λ(p:Nat)=>D.int (p:Int)) (τ:=λ(p:Nat)=>st y3 y4++[qd (p:Int)]) (tJ (qv (pB rfl) (HP r m))) 'o' (λ_=>rfl) (λp s=>
  have q:=AL hf (CO hf.n1 hf.n4 h s)
  tP (pG (pG rfl rfl (q.2 O)) rfl (Iw O q.1))) (λ_ _ _=>rfl)
 have E:(!a.isEmpty)=AY f cs:=by
  show(!((pR cs).filter λp=>x9 (f.getD p .non)).isEmpty)=_;rw[K5,jW];simp[AY]
 have j:A3 (pV (h_ (pA rW) qI yz)) (sN (o6 2 CZ (b_ m_ (b_ qc f_)))) (st (qh (qH a)) y4) O=.ok (AY f cs&&rC f cs) O:=
  Sk (E▸tP (pG rfl rfl (Ri O a).2)) λ_=>yJ (qv (qT rfl rfl) (TZ hf h m))
 have F:(rC f cs&&xG f cs)=(AY f cs&&rC f cs&&w_ f cs):=by
  unfold xG;rw[<- Bool.and_assoc,nH (rC f cs)]
 rw[F];cases v:(AY f cs&&rC f cs) with
 | false=>
  rw[v] at j;exact⟨_,_,rK (x:=.lst (qH a)) u ((yF j).trans rfl)⟩
 | true=>
  rw[v] at j;have w:=λ(i:Nat)(G:i<cs.length)=>de.mp (YI O (qp f) (uq k) (qh (qH a)) y4) (cs,i) (KI r G);have H:=xS (o:=qj) (ext:=1) (i:=5) (it0:=rU (b_ (pf qB (b_ qc f_)) f_)) (σ:=st (qh (qH a)) y4) (O0:=O) (O:=O) (t:=Jw) (te:=Js) (l:=a9 cs.length) (inj:=λ(p:Nat)=>D.int (p:Int)) (p:=λk=>cs.getD k 0 !=45) (e:=λ(k:Nat)=>D.str (cs.set k 45)) (τ:=λ(p:Nat)=>st (qh (qH a)) y4++[qd (p:Int)]) (zx (pB (rp (pB rfl) (KH 'o'))) 'o') (by rw[cM];lia) (λ_=>rfl) (λk d=>congrArg kW (w k (cq.mp d))) (λk d _=>congrArg jM (w k (cq.mp d)));have z:∀o∈b,o∈YP n:=λo g=>by
   obtain⟨k,_,rfl⟩:=ay.mp g;exact Hx hf.n1 hf.n4 h k
  have I:(b.filter (rC f)).isEmpty=w_ f cs:=by
   rw[K5];show((((a9 cs.length).filter _).map _).all _)=_;rw[List.all_map,List.all_filter,jW];unfold w_ DB;congr 2;funext k;simp only[Function.comp,Bool.not_or,Bool.not_not]
  have J:pV (h_ (pA qC) (pK qj 1 (pY rA) (.one 5) [(sN (o6 2 CZ (b_ m_ (b_ ue f_))))] [] ue) yz) (st (qh (qH a)) (qh (b.map .str))) O=.ok (w_ f cs) O:=
   I▸tP (pG (xS (o:=qj) (l:=b) (inj:=D.str) (p:=rC f) (e:=D.str) (τ:=λo=>st (qh (qH a)) (qh (b.map .str))++[qJ o]) (tJ rfl) (by
    show((mQ _ _).length)<_;have:=bo (λk=>cs.getD k 0 !=45) (a9 cs.length);rw[cM] at this;rw[ax];lia) (λ_=>rfl) (λo g=>yJ (qv (qT rfl rfl) (TZ hf (z o g) m))) (λ_ _ _=>rfl)) rfl (zdw O λo g=>xC hf.n1 hf.n4 (z o (bw.mp g).1)).1)
  refine⟨qh (qH a),qh (b.map .str),rK (x:=.lst (qH a)) u ((yF j).trans (rK (x:=.lst (b.map .str)) (O1:=O) (H.trans ?_) ((yF J).trans ?_)))⟩
  ·rw[bH];rfl
  ·cases w_ f cs with
   |false=>rfl
   |true=>exact RT rfl rfl d A
theorem z4H{O:Ow}(j:Pl O):LB [.tup f] O=.ok (.lst ((qU n f).map .str)) O:=by
 have o:=(Ef hf.n1 hf.n4).2.1;obtain⟨q,d,g,h,b,c,rfl,rfl⟩:=DY (i:=2) (body:=JL) (it:=pY (o6 1 ED (b_ (o6 1 HU (b_ m_ f_)) f_))) (l:=YP n) (inj:=D.str) (σ:=[qp f,uq O.length,KM,KM,KM]) (O0:=O++[[]]) (tJ (qv (pB (qv (pB rfl) (z4K hf _))) (Sf hf.n1 hf.n4 _).2)) (λk σ d=>∃h b c,σ=[qp f,uq O.length,h,b,c]/\d=O++[(((YP n).take k).filter λt=>rC f t&&xG f t).map D.str]) (λk t σ d m r=>by
  obtain⟨h,b,c,rfl,rfl⟩:=r;have a:((((YP n).take k).filter λt=>rC f t&&xG f t).map D.str).length<4000000:=by
   rw[ax];have:=bo (λt=>rC f t&&xG f t) ((YP n).take k);rw[bK] at this;lia
  obtain⟨s,u,e⟩:=zdb hf (aX m) (j.one (Qb _)) zy a b c;exact⟨_,_,e,_,_,_,rfl,grown (p:=λt=>rC f t&&xG f t) m⟩) ⟨KM,KM,KM,rfl,rfl⟩
 rw[gk] at g;have e:(YP n).filter (λt=>rC f t&&xG f t)=qU n f:=by
  unfold qU A6;rw[l9];congr 1;funext t;rw[nH]
 rw[e] at g;show xp O.length (fin (H8 [qp f,KM,KM,KM,KM] O))=_;have e:H8 [qp f,KM,KM,KM,KM] O=.rt (.own O.length) (O++[(qU n f).map .str]):=by
  unfold H8;exact rK (x:=.own O.length) (O1:=O++[[]]) rfl (xA g (uE rfl))
 rw[e];exact RE j (Qb _)
end
structure ow(O:Ow)(m:Nat)(s:Int)(b:Bool):Prop where
 at_:O[m]?=KF [.int s,.bl b]
 nn:0<=s
 lt:b=qj->s<2147483647
def ow.len{O:Ow}{m:Nat}{s:Int}{b:Bool}(h:ow O m s b):m<O.length:=(al.mp h.at_).1
def QH{O:Ow}{m:Nat}{x y:D}(h:O[m]?=KF [x,y]):pX O (.own m) (.int 0)=.ok x O/\pX O (.own m) (.int 1)=.ok y O:=by
 constructor
 ·show(match O[m]? with|some ds=>(match L2.atI ds 0 with|some d=>R.ok d O|none=>R.bad)|none=>_)=_;rw[h];rfl
 ·show(match O[m]? with|some ds=>(match L2.atI ds 1 with|some d=>R.ok d O|none=>R.bad)|none=>_)=_;rw[h];rfl
def Kt{te b c:DE}{σ:Sg}{O O1 O2 a:Ow}{y:D}{k:Nat}{i:Int}{ds:List D}{j:Nat}(d:te σ O=.ok y O1)(e:b σ O1=.ok (.own k) O2)(f:c σ O2=.ok (.int i) a)(g:a[k]?=KF ds)(h:L2.ixN ds.length i=KF j):
  Cp te b c σ O=.nx σ (a.set k (ds.set j y)):=by show((te σ O).bnS _)=_;rw[d];show((b σ O1).bnS _)=_;rw[e];show((c σ O2).bnS _)=_;rw[f];show(match a[k]? with|some ds=>(match L2.ixN ds.length i with|some j=>RS.nx σ (a.set k (ds.set j y))|none=>RS.bad)|none=>RS.bad)=_;rw[g];show(match L2.ixN ds.length i with|some j=>RS.nx σ (a.set k (ds.set j y))|none=>RS.bad)=_;rw[h]
def CG{O:Ow}{i j:Int}(h:0<j):fI vV O (.int i) (.int j)=.ok (.int (i%j)) O:=by show(match vV i j with|some d=>R.ok d O|none=>R.bad)=_;unfold vV;rw[qL h]
def Pz{O:Ow}{i j:Int}(h:0<j)(a:j<1073741824):fI y9 O (.int i) (.int j)=.ok (.int (i/j)) O:=by show(match y9 i j with|some d=>R.ok d O|none=>R.bad)=_;unfold y9;rw[qL ⟨h,a⟩]
def Ee{O:Ow}{i j:Int}(h:-1000000000000000<i)(a:i<1000000000000000):fI xq O (.int i) (.int j)=.ok (.int (i*j)) O:=by show(match xq i j with|some d=>R.ok d O|none=>R.bad)=_;unfold xq;rw[qL (.inl ⟨h,a⟩)]
def Ep{O:Ow}{i j:Int}:rg O (.int i) (.int j)=.ok (.int (i+j)) O:=rfl
def md(x:Int){m:Int}(h:0<m):0<=x%m/\x%m<m:=⟨Int.emod_nonneg _ 'o',Int.emod_lt_of_pos _ h⟩
def Bg{O:Ow}{m:Nat}{s:Int}{b:Bool}(h:ow O m s b){k:Nat}(k1:1<=k)(k2:k<=1000):
  ∃(r:Nat)(s':Int),r<k/\uX [.own m,.int k] O=.ok (.int r) (O.set m [.int s',.bl b])/\ow (O.set m [.int s',.bl b]) m s' b:=by
 have d:(0:Int)<(k:Int):=by lia
 have p:∀s',(O.set m [.int s',.bl b])[m]?=KF [D.int s',D.bl b]:=λs'=>by rw[aZ h.len]
 have q:∀x:Int,∃r:Nat,r<k/\x%(k:Int)=(r:Int):=λx=>by
  have:=md x d;exact⟨(x%(k:Int)).toNat,by lia,by lia⟩
 have t:sN (h_ pX m_ qD) [uq m,qd k,KM,KM] O=.ok b O:=yJ (pG rfl rfl (QH h.at_).2);have f:∀{i:Ow}{s':Int}{τ:Sg},i[m]?=KF [D.int s',D.bl b]->h_ pX m_ qE (uq m::τ) i=.ok (.int s') i:=λe=>pG rfl rfl (QH e).1;have e:∃(r:Nat)(s':Int),r<k/\K8 [uq m,qd k,KM,KM] O=.rt (.int r) (O.set m [.int s',.bl b])/\0<=s'/\(b=qj->s'<2147483647):=by
  unfold K8;cases b with
  | true=>
   obtain⟨r,c,l⟩:=q s;exact⟨r,s/k,c,Ah t (rK (pG (f h.at_) rfl ((CG d).trans (by rw[l]))) (xA (Kt (ds:=[.int s,.bl qb]) (j:=0) (pG (f h.at_) rfl (Pz d 'o')) rfl rfl h.at_ rfl) (uE rfl))),Int.ediv_nonneg h.nn 'o',λz=>by cases z⟩
  | false=>
   have B:=h.lt rfl;have C:=h.nn;have n:=md (s*48271+29) (m:=2147483647) 's';generalize u:(s*48271+29)%2147483647=a at n;have v:=md (a*a+39373*a+7) (m:=2147483629) 's';generalize w:(a*a+39373*a+7)%2147483629=g at v;obtain⟨r,c,l⟩:=q ((g*g+16807*g)%2147483587/8);have o:∀τ:Sg,_:=λτ=>f (τ:=τ) (p a);refine⟨r,a,c,vC t (xA (Kt (ds:=[.int s,.bl qj]) (j:=0) (pG (pG (pG (f h.at_) rfl (Ee 'o' 'o')) rfl Ep) rfl ((CG 's').trans (by rw[u]))) rfl rfl h.at_ rfl)
    (rK (x:=.int g) (pG (pG (pG (pG (o _) (o _) (Ee 'o' 'o')) (pG rfl (o _) (Ee 's' 's')) Ep) rfl Ep) rfl ((CG 's').trans (by rw[w])))
    (rK (pG (pG (pG rfl rfl (Ee 'o' 'o')) (pG rfl rfl (Ee 's' 's')) Ep) rfl (CG 's'))
    (uE (pG (pG rfl rfl (Pz 's' 's')) rfl ((CG d).trans (by rw[l]))))))),n.1,λ_=>n.2⟩
 obtain⟨r,s',c,e,y,A⟩:=e;exact⟨r,s',c,uN e,p _,y,A⟩
def zdo{ns:List Int}{k:Nat}(O:Ow):∃s b,Lq [.lst (ns.map .int),.int k] O=.ok (.own O.length) (O++[[.int s,.bl b]])/\ow (O++[[.int s,.bl b]]) O.length s b:=by
 obtain⟨c,g⟩:∃c:Int,Ly [.lst (ns.map .int),.int k] O=.ok (.int c) O:=by
  have a:pV (h_ B4 o7 (pf qB (b_ m_ f_))) [qh (ns.map .int),qd k] O=.ok (decide ((k:Int)<(ns.map D.int).length)) O:=rfl;by_cases h:(k:Int)<(ns.map D.int).length
  ·have i:k<(ns.map D.int).length:=by lia
   rw[decide_eq_true h] at a;exact⟨ns[k]'⇑i,uN (Ah a (uE (pG rfl rfl ((zu i).trans 'd'))))⟩
  ·rw[decide_eq_false h] at a;exact⟨0,uN (vC a rfl)⟩
 have j:∀d,h_ (fI AV) (dC (.int 10)) (dC (.int 18)) d O=.ok (.int 1000000000000000000) O:=λd=>pG rfl rfl 'k';have a:pV (h_ FX qc (h_ (fI AV) (dC (.int 10)) (dC (.int 18)))) [qh (ns.map .int),qd k,qd c] O=.ok (decide ((1000000000000000000:Int)<=c)) O:=tP (pG rfl (j _) rfl);have l:∀{f:DA}{d:Sg}{x:Int}{b:Bool},f d O=.ok [.int x,.bl b] O->Ae f d O=.ok (.own O.length) (O++[[.int x,.bl b]]):=λ{f d x b}e=>by
  show((f d O).bnd _)=_;rw[e];rfl
 by_cases n:(1000000000000000000:Int)<=c
 ·rw[decide_eq_true n] at a;exact⟨c-1000000000000000000,qb,uN (rK (qv (qT rfl rfl) g) (Ah a (uE (l (qT (pG rfl (j _) rfl) rfl))))),zy,by lia,λz=>by cases z⟩
 ·rw[decide_eq_false n] at a;have:=md c (m:=2147483647) 's';exact⟨c%2147483647,qj,uN (rK (qv (qT rfl rfl) g) (vC a (uE (l (qT (pG rfl rfl (CG 's')) rfl))))),zy,this.1,λ_=>this.2⟩
def zem{O:Ow}{m:Nat}{x:List D}(h:O[m]?=KF x):O.set m x=O:=by obtain⟨a,rfl⟩:=al.mp h;exact List.set_getElem_self a
def QO{ext:Nat}{it0:DI}{i:Nat}{te:DE}{σ:Sg}{O O0:Ow}{ds:List D}{m:Nat}{s:Int}{b:Bool}{P:D->Prop}{o:Bool}(l:ow O m s b)(p:it0 σ O0=.ok (.val ds) O)(x:ds.length<1900000)
  (q:∀d∈ds,∀s',ow (O.set m [.int s',.bl b]) m s' b->∃v c,te ((qe (qe (σ++aM ext KM) [i]) [i]).set i (KF d)) (O.set m [.int s',.bl b])=.ok v (O.set m [.int c,.bl b])/\ow (O.set m [.int c,.bl b]) m c b/\P v):
  ∃vs s',pK o ext it0 (.one i) [] [] te σ O0=vU o (.ok vs (O.set m [.int s',.bl b]))/\ow (O.set m [.int s',.bl b]) m s' b/\vs.length=ds.length/\∀v∈vs,P v:=by
 obtain⟨a,f,e,s',rfl,g,h,k⟩:=SW (ds:=ds) (step:=Ad ⟨it0,.one i,[]⟩ [] te (qe (σ++aM ext KM) (p9 [⟨it0,.one i,[]⟩])))
  (λj f a=>∃s',f=O.set m [.int s',.bl b]/\ow f m s' b/\a.length=j/\∀v∈a,P v) (λj f a d r n=>by
   obtain⟨s',rfl,g,h,k⟩:=r;have y:=(al.mp n).1;obtain⟨v,c,t,u,z⟩:=q d (aX n) s' g;refine⟨a++[v],_,?_,c,rfl,u,by simp[h],λw hw=>?_⟩
   ·show vX [] te ((qe (qe (σ++aM ext KM) [i]) [i]).set i (KF d)) (O.set m [.int s',.bl b]) a=_;unfold vX;rw[t];exact qL 'o'
   ·rcases aS.mp hw with hw|hw
    ·exact k w hw
    ·rwa [bV.mp hw]) ds.length 0 O [] ⟨s,(zem l.at_).symm,l,rfl,by simp⟩ 'o' (ck _)
 refine⟨a,s',?_,g,h,k⟩;unfold pK Bi;rw[p];show vU o (yP (qy (.val ds) _ ds.length 0 O []))=_;rw[e];rfl
def Y4{σ:Sg}{O f:Ow}{e:DA}:∀(cs:l_),1<=cs.length->cs.length<=4->e σ O=.ok [.lst (cs.map λc=>.str [c])] f->GH Dy e σ O=.ok (.str cs) f
 |[],h,_,_=>by simp at h
 |[a],_,_,h=>by show((e σ O).bnd _)=_;rw[h];rfl
 |[a,b],_,_,h=>by show((e σ O).bnd _)=_;rw[h];rfl
 |[a,b,c],_,_,h=>by show((e σ O).bnd _)=_;rw[h];rfl
 |[a,b,c,d],_,_,h=>by show((e σ O).bnd _)=_;rw[h];rfl
 |_::_::_::_::_::_,_,h,_=>by simp at h
theorem QW{α:Type}{inj:α->D}{p:α->Prop}:∀(vs:List D),(∀v∈vs,∃c,v=inj c/\p c)->∃cs:List α,vs=cs.map inj/\∀c∈cs,p c
 |[],_=>⟨[],rfl,by simp⟩
 | v::vs,h=>by
  obtain⟨c,rfl,a⟩:=h v am;obtain⟨cs,rfl,b⟩:=QW vs λw d=>h w (ak _ d);exact⟨c::cs,rfl,λx f=>(aq.mp f).elim (λe=>by rw[e];exact a) (b x)⟩
def Zh{O:Ow}{m:Nat}{s:Int}{b:Bool}(h:ow O m s b){n:Nat}(y:1<=n)(z:n<=4):
  ∃cs s',cs∈YP n/\EE [.own m,.int n] O=.ok (.str cs) (O.set m [.int s',.bl b])/\ow (O.set m [.int s',.bl b]) m s' b:=by
 obtain⟨f,s',g,j,l,p⟩:=QO (o:=qj) (ext:=1) (i:=2) (it0:=rU (b_ o7 f_)) (O0:=O) (σ:=[uq m,qd n]) (te:=h_ pX (dC (.str [48,49,45,45])) (o6 2 uX (b_ m_ (b_ yv f_)))) (P:=λv=>∃c,v=D.str [c]/\sgn c=qb) h (zx (pB rfl) 'o') (by simp;lia) (λd A s' q=>by
  obtain⟨r,t,u,a,e⟩:=Bg q (k:=4) 's' 's';rw[eH] at a e;refine⟨D.str [[48,49,45,45][r]],t,pG rfl (qv (qT rfl rfl) a) (zfQ 's' u),e,_,rfl,?_⟩;have:r=0\/r=1\/r=2\/r=3:=by lia
  rcases this with rfl|rfl|rfl|rfl<;>rfl)
 obtain⟨cs,rfl,w⟩:=QW f p;have x:cs.length=n:=⇑l
 exact⟨cs,s',K4 n cs x w,uD (Y4 cs 'o' 'o' (pB g)),j⟩
def L8:l_:=[4,3,3,2,4,3,4,1]
def Ls:List (List D):=[[.int 0,.int 1],[.int 0,.int 1,.non],[.int 0,.int 0,.int 0,.int 1,.non],[.int 1,.int 1,.int 1,.int 0,.non]]
def WB{r:Nat}(h:r<L8.length):1<=L8[r]/\L8[r]<=4:=by
 have:(L8.all λn=>decide (1<=n)&&decide (n<=4))=qb:=by decide
 simpa using aH.mp this _ (el h)
def Xd{r:Nat}(h:r<Ls.length):1<=Ls[r].length/\Ls[r].length<=5/\∀d∈Ls[r],xK d:=by
 have:r=0\/r=1\/r=2\/r=3:=by have:r<4:=h;lia
 rcases this with rfl|rfl|rfl|rfl<;>simp[Ls,xK]
def zdz(O:Ow){a b:l_}(h:a.length+b.length<=4000000):rg O (.lst (qH a)) (.lst (qH b))=.ok (.lst (qH (a++b))) O:=by show(if (qH a).length+(qH b).length<=4000000 then R.ok (D.lst (qH a++qH b)) O else R.bad)=_;unfold qH;rw[qL (by rw[ax,ax];exact h),dq]
def XE{f:List D}(h:∀d∈f,xK d):x8 (.tup f)=qb:=aH.mpr λd a=>by rcases h d a with rfl|rfl|rfl<;>rfl
def W2{O O1:Ow}(a:Pl O1)(b:O1.length=O.length)(X:Ow){f:List D}(h:∀d∈f,xK d):xp O.length (.ok (.tup f) (O1++X))=.ok (.tup f) O1:=by rw[<- b];exact CN a X (He (XE h))
def z87{O:Ow}(hO:Pl O){m:Nat}{s:Int}{b:Bool}(h:ow O m s b):
  ∃n f s',Fn n f/\LC [.own m] O=.ok (.tup f) (O.set m [.int s',.bl b])/\ow (O.set m [.int s',.bl b]) m s' b:=by
 obtain⟨r,s1,r1,r2,h1⟩:=Bg h (k:=8) 's' 's';have hn:=WB r1;generalize hm:L8[r]=n at hn;obtain⟨E,t⟩:=hn;obtain⟨w,u,w1,w2,Z⟩:=Bg h1 (k:=6) 's' 's';rw[eH] at w2 Z;have hpw:=Aj t;let A:Option D:=uq m;let N:Option D:=qd n;let W:Option D:=qd w;have G:∀{τ:Sg}{v:Ow},rU (b_ (h_ (fI ug) qD o7) f_) (A::N::τ) v=.ok (.val ((a9 (2 ^ n)).map λ(i:Nat)=>D.int (i:Int))) v:=zx (pB (JM t rfl)) 'o';have e0:∀{d:DS}{z:RS},d [A,N,W,KM,KM,KM,KM] (O.set m [.int u,.bl b])=z->pd (pS 1 (h_ pX (sk (b_ yv (b_ AQ (b_ AQ (b_ uU (b_ yv (b_ AQ (b_ yv (b_ qD f_))))))))) (o6 2 uX (b_ m_ (b_ (dC (.int 8)) f_))))) (pd (pS 2 (o6 2 uX (b_ m_ (b_ (dC (.int 6)) f_)))) d) [A,KM,KM,KM,KM,KM,KM] O=z:=λe=>
  rK (x:=.int n) (pG (x:=.lst (qH L8)) rfl (qv (qT rfl rfl) r2) ((zu (ds:=qH L8) (i:=r) r1).trans (congrArg (λd=>R.ok d _) ((fC _).trans (congrArg (λ(x:Nat)=>D.int (x:Int)) hm))))) (rK (qv (qT rfl rfl) w2) e)
 have H:pV (h_ B4 qc yv) [A,N,W,KM,KM,KM,KM] (O.set m [.int u,.bl b])=.ok (decide ((w:Int)<4)) (O.set m [.int u,.bl b]):=rfl
 suffices g:∃f s' X,Fn n f/\H9 [A,KM,KM,KM,KM,KM,KM] O=.rt (.tup f) (O.set m [.int s',.bl b]++X)/\ow (O.set m [.int s',.bl b]) m s' b by
  obtain⟨f,s',X,hf,e,S⟩:=g;refine⟨n,f,s',hf,?_,S⟩;show xp O.length (fin (H9 [A,KM,KM,KM,KM,KM,KM] O))=_;rw[e];exact W2 (hO.set m s' b) cr X hf.ans
 unfold H9;by_cases hw:(w:Int)<4
 ·have Di:w<Ls.length:=by show w<4;lia
  obtain⟨l1,l5,la⟩:=Xd Di;rw[decide_eq_true hw] at H;have hix:pX (O.set m [.int u,.bl b]) (.lst (Ls.map D.lst)) (.int w)=.ok (.lst Ls[w]) (O.set m [.int u,.bl b]):=(zu (i:=w) (by rw[ax];exact Di)).trans (by rw[fC]);generalize Ls[w]=l at *;obtain⟨c,T,c1,c2,c3,c4⟩:=QO (o:=qj) (ext:=1) (i:=7) (te:=h_ pX qI (o6 2 uX (b_ m_ (b_ (pf qB (b_ qI f_)) f_)))) (σ:=[A,N,W,qh l,KM,KM,KM]) (P:=xK) Z G (by simp;lia) (λd F s' S=>by
   rw[eH] at S ⊢;obtain⟨q,qK,q1,I,q3⟩:=Bg S (k:=l.length) l1 'o';rw[eH] at I q3;refine⟨l[q],qK,?_,by rw[eH];exact q3,la _ (el q1)⟩;rw[eH];exact pG (x:=.lst l) rfl (qv (qT rfl (rp (pB rfl) rfl)) I) (zu q1))
  rw[eH] at c1 c2;exact⟨c,T,[],⟨E,t,by simpa using c3,c4⟩,e0 (Ah H (rK (x:=.lst l) (pG (x:=.lst (Ls.map D.lst)) rfl rfl hix) (uE (rp (pB c1) (by rw[bL];rfl))))),c2⟩
 ·rw[decide_eq_false hw] at H;obtain⟨q,T,q1,I,h3⟩:=Bg Z (k:=5) 's' 's';rw[eH] at I h3;let st (x y z:Option D):Sg:=[A,N,W,KM,x,y,z];obtain⟨σ',v,f1,B,l,y,rfl,rfl,C,Fw⟩:=DY (i:=5) (it:=rU (b_ (h_ rg qD (o6 2 uX (b_ m_ (b_ (dC (.int 5)) f_)))) f_)) (body:=pS 4 (h_ rg rA (o6 1 yM (b_ (o6 2 EE (b_ m_ (b_ o7 f_))) f_)))) (l:=a9 (1+q)) (inj:=λ(i:Nat)=>D.int (i:Int)) (σ:=st (KF (.lst [])) KM KM) (O0:=O.set m [.int u,.bl b]) (O:=O.set m [.int T,.bl b]) (zx (pB ((pG rfl (qv (qT rfl rfl) I) Ep).trans (by congr 2))) 'o') (λi σ v=>∃B l y,σ=st (qh (qH l)) y KM/\v=O.set m [.int B,.bl b]/\ow v m B b/\l.length<=16*i) (λi k σ v hk hI=>by
   obtain⟨B,l,y,rfl,rfl,C,Fw⟩:=hI;have hi:=(Sy hk).2;obtain⟨cs,J,t1,t2,t3⟩:=Zh C E t;rw[eH] at t2 t3;have qY:=D5 (xC E t t1);exact⟨_,_,G6 (pG (x:=.lst (qH l)) rfl (qv (pB (qv (qT rfl rfl) t2)) (HP (xC E t t1) (hO.set m J b))) (zdz _ 'o')),J,l++pR cs,_,rfl,rfl,t3,by rw[aB];lia⟩) ⟨T,[],KM,rfl,rfl,h3,by simp⟩
  generalize U:O.set m [.int B,.bl b]=a at *;have hl4:a.length=O.length:=by rw[<- U,cr]
  let c:List D:=(a9 (2 ^ n)).map λp=>.int (if l.contains p=qb then 1 else 0);have Dj:c.length=2 ^ n:=by simp[c]
  have UT:∀d∈c,xK d:=λd F=>by
   obtain⟨p,_,rfl⟩:=ay.mp F;cases l.contains p
   ·exact .inl rfl
   ·exact .inr (.inl rfl)
  have hc:=vZ (o:=qb) (ext:=1) (i:=7) (it0:=rU (b_ (h_ (fI ug) qD o7) f_)) (σ:=st (qh (qH l)) y KM) (O0:=a) (te:=pf A2 (b_ (h_ yp sM rA) f_)) (l:=a9 (2 ^ n)) (inj:=λ(p:Nat)=>D.int (p:Int)) (e:=λp=>.int (if l.contains p=qb then 1 else 0)) (τ:=λp=>st (qh (qH l)) y KM++[qd (p:Int)]) G (by rw[cM];lia) (λ_=>rfl) (λp _=>rp (pB (pG rfl rfl (J7 a p l).1)) (by cases l.contains p<;>rfl));have e4:∀{d:DS}{z:RS},d (st (qh (qH l)) y (uq a.length)) (a++[c])=z->pd (pS 4 yz) (pd (uL (rU (b_ (h_ rg qD (o6 2 uX (b_ m_ (b_ (dC (.int 5)) f_)))) f_)) (.one 5) (pS 4 (h_ rg rA (o6 1 yM (b_ (o6 2 EE (b_ m_ (b_ o7 f_))) f_))))) (pd (pS 6 (pK qb 1 (rU (b_ (h_ (fI ug) qD o7) f_)) (.one 7) [] [] (pf A2 (b_ (h_ yp sM rA) f_)))) d)) [A,N,W,KM,KM,KM,KM] (O.set m [.int u,.bl b])=z:=λe=>rK (x:=.lst []) rfl (xA f1 (rK (x:=.own a.length) hc e));have V:pV (h_ (pA qC) qc (dC (.int 5))) (st (qh (qH l)) y (uq a.length)) (a++[c])=.ok ((w:Int)==5) (a++[c]):=rfl;have K:∀{L:Ow}{M:List D}{τ:Sg},L.length=a.length->pL (pf zr uK) (st (qh (qH l)) y (uq a.length)) (L++[M])=.rt (.tup M) (L++[M]):=λ{L M _}e=>uE (rp (pB rfl) (by
   show(match (L++[M])[a.length]? with|some ds=>R.ok (D.tup ds) _|none=>_)=_;rw[<- e,zy]))
  by_cases h5:((w:Int)==5)=qb
  ·rw[h5] at V;have Dm:m<a.length:=C.len;have vg:ow (a++[c]) m B b:=⟨by rw[aG Dm];exact C.at_,C.nn,C.lt⟩;obtain⟨z,J,z1,z2,Y⟩:=Bg vg (k:=2 ^ n) l8 'o';rw[lg _ _ Dm,<- U,eH] at z2 Y;have Q:(O.set m [.int J,.bl b]).length=a.length:=by rw[cr,hl4]
   have z4:=Y.at_;rw[aG (by rw[Q];exact Dm)] at z4;refine⟨c.set z .non,J,[c.set z .non],⟨E,t,by rw[cr];exact Dj,λd F=>?_⟩,e0 (vC H (e4 (xA ((yF V).trans (Kt (y:=.non) (k:=a.length) (i:=(z:Int)) (ds:=c) (j:=z) rfl rfl (by rw[<- U];exact qv (qT rfl (JM t rfl)) z2) (by rw[<- Q];exact zy) (by
     unfold L2.ixN;rw[qL 'o',qL (by rw[Dj];lia)];rfl))) ?_))),z4,Y.nn,Y.lt⟩
   ·rcases gL F with F|rfl
    ·exact UT d F
    ·exact .inr (.inr rfl)
   ·rw[<- Q,Rf,Q];exact K (τ:=[]) Q
  ·rw[jy.mpr h5] at V;subst U;exact⟨c,B,[c],⟨E,t,Dj,UT⟩,e0 (vC H (e4 (xA ((yF V).trans rfl) (K (τ:=[]) rfl)))),C⟩
def zdA{ns:List Int}(e:ns.length<=63)(σ:Sg)(c:Nat)(f:c<1000)(h0:rB 0 σ []=.ok (.lst (ns.map .int)) []):∃m:Nat,m<100000/\pf DM (b_ qD (b_ (pf Cu (b_ (pf qB (b_ m_ f_)) (b_ (dC (.int (c:Nat))) f_))) f_)) σ []=.ok (.int (m:Nat)) []:=by
 have a:pf Cu (b_ (pf qB (b_ m_ f_)) (b_ (dC (.int (c:Nat))) f_)) σ []=.ok (.int (if (c:Int)<((ns.map D.int).length:Nat) then (c:Int) else ((ns.map D.int).length:Nat))) []:=rp (qT (rp (pB h0) rfl) rfl) rfl;rw[ax] at a;generalize b:(if (c:Int)<((ns.length:Nat):Int) then (c:Int) else ((ns.length:Nat):Int))=v at a;have d:0<=v/\v<1000:=by rw[<- b];split<;>lia
 refine⟨(if v>1 then v else 1).toNat,by split<;>lia,rp (qT (t:=dC (.int 1)) rfl a) ?_⟩;show R.ok (D.int (if v>1 then v else 1)) []=_;congr 2;split<;>lia
def z6s{α:Type}{n i:Nat}(f:Nat->α):((a9 n).map f)[i]?=if i<n then KF (f i) else KM:=by
 rw[bO];by_cases h:i<n
 ·rw[lB h,qL h];rfl
 ·rw[q0 h,ba.mpr (by simp;lia)];rfl
theorem Oo{α:Type}{src:Src}{step:D->Ow->List D->R (List D)}{O:Ow}{inj:α->D}{g:α->D}{all:List α}(c:∀i,src.get O i=(all.map inj)[i]?)(j:∀b a r,all=b++a::r->step (inj a) O (b.map g)=.ok (b.map g++[g a]) O):∀(ds b:List α)(f:Nat),all=b++ds->ds.length<=f->qy src step f b.length O (b.map g)=.ok (all.map g) O
 | [],b,f,ha,_=>by
  have e:src.get O b.length=KM:=by rw[c,ha];simp
  have k:all=b:=by rw[ha];simp
  cases f<;>(unfold qy;rw[e,k])
 |d::ds,b,0,_,h=>by simp at h
 | d::ds,b,f+1,ha,h=>by
  unfold qy;have e:src.get O b.length=KF (inj d):=by rw[c,ha];simp
  rw[e];show((step (inj d) O (b.map g)).bnd λl m=>qy src step f (b.length+1) m l)=_;rw[j b d ds ha];show qy src step f (b.length+1) O (b.map g++[g d])=_;have:=Oo c j ds (b++[d]) f (by rw[ha];simp) ⇑h;rw[aB,e9,dq] at this;exact this
def zdh{α:Type}{ext i:Nat}{it0:DI}{tk tv:DE}{σ:Sg}{O O0:Ow}{l:List α}{inj key val:α->D}{kk:α->DK}{τ:α->Sg}(o:it0 σ O0=.ok (.val (l.map inj)) O)(y:l.length<1000)(m:(l.map kk).Nodup)
  (p:∀a,(qe (qe (σ++aM ext KM) [i]) [i]).set i (KF (inj a))=τ a) (q:∀a∈l,tk (τ a) O=.ok (key a) O) (f:∀a∈l,vW (key a)=KF (kk a)) (s:∀a∈l,tv (τ a) O=.ok (val a) O):
  Bc ext it0 (.one i) [] [] tk tv σ O0=.ok (.map (l.map kk) (l.map val)) O:=by
 unfold Bc Bj;rw[o];show((yP (qy (.val (l.map inj)) _ ((l.map inj).length) 0 O [])).bnd _)=_;have w:=Oo (O:=O) (src:=.val (l.map inj)) (step:=ui ⟨it0,.one i,[]⟩ [] (B6 tk tv) (qe (σ++aM ext KM) (p9 [⟨it0,.one i,[]⟩]))) (inj:=inj) (g:=λa=>su (kk a,val a)) (all:=l) (λ_=>rfl) (λc a r h=>by
  have j:a∈l:=by rw[h];simp
  show(match (KF ((qe (qe (σ++aM ext KM) [i]) [i]).set i (KF (inj a))):Option Sg) with|some qf=>(uw [] qf O).bnd λb n=>if b=qb then uz [] (B6 tk tv) qf n (c.map λa=>su (kk a,val a)) else .ok (c.map λa=>su (kk a,val a)) n|none=>.bad)=_;rw[p a];show((tk (τ a) O).bnd _)=_;rw[q a j];show(match vW (key a) with|some k=>_|none=>_)=_;rw[f a j];show((tv (τ a) O).bnd _)=_;rw[s a j];have d:(c.map λa=>su (kk a,val a)).length<1000:=by
   rw[ax];have:=congrArg kg h;simp at this;lia
  have t:(c.map λa=>su (kk a,val a)).any (Cj (kk a))=qj:=by
   rw[jC];intro x u;obtain⟨b,v,rfl⟩:=ay.mp u;have:kk b≠kk a:=by
    rw[h,dq,bz,fU] at m;exact m.2.2 _ (ay.mpr ⟨b,v,rfl⟩) _ am
   show ¬ decide (kk b=kk a)=qb;rw[decide_eq_true_eq];exact this
  show(if _/\_ then R.ok _ O else R.bad)=_;rw[qL ⟨d,t⟩];rfl) l [] ((l.map inj).length) rfl 'd'
 rw[show qy (.val (l.map inj)) _ ((l.map inj).length) 0 O []=_ from w];show R.ok (D.map (Dd (l.map λa=>su (kk a,val a))) (De (l.map λa=>su (kk a,val a)))) O=_;have e:(l.map λa=>su (kk a,val a))=(l.map λa=>(kk a,val a)).map su:=by rw[bH];rfl
 rw[e,Ks,Kc,bH,bH];rfl
theorem SY{α:Type}{kk:α->DK}{val:α->D}{a:α}:∀{l:List α},a∈l->(l.map kk).Nodup->v8 (kk a) (l.map kk) (l.map val)=KF (val a)
 |[],h,_=>by cases h
 | b::l,h,hn=>by
  rw[bz,bq] at hn;show(if kk b=kk a then KF (val b) else v8 (kk a) (l.map kk) (l.map val))=_;rcases aq.mp h with rfl|h
  ·rw[qL rfl]
  ·rw[q0 (λ(e:kk b=kk a)=>hn.1 (by rw[e];exact ay.mpr ⟨a,h,rfl⟩))];exact SY h hn.2
def Qh{c a:DE}{σ:Sg}{O:Ow}{b:List DK}{ds:List D}{y d:D}{k:DK}(e:c σ O=.ok (.map b ds) O)(f:a σ O=.ok y O)(g:vW y=KF k)(h:v8 k b ds=KF d):CB c a σ O=.ok d O:=by unfold CB;rw[e];show((a σ O).bnd _)=_;rw[f];show(match vW y with|some k=>_|none=>_)=_;rw[g];show(match v8 k b ds with|some d=>R.ok d O|none=>R.bad)=_;rw[h]
noncomputable def sg(cs:l_):Nat:=(cs.filter (· != 45)).length
theorem Sa(x:l_):∀l:j_,(uW x l).length<=l.length+1
 |[]=>by simp[uW]
 | y::r=>by
  have:=Sa x r;unfold uW;split
  ·simp
  ·split
   ·simp
   ·simp only[a7];lia
def zdJ(c:j_):(qO c).length<=c.length:=by
 have:∀(l b:j_),(l.foldl (λl x=>uW x l) b).length<=b.length+l.length:=λl=>by
  induction l with
  |nil=>intro b;simp
  | cons a l ih=>
   intro b;rw[fO];have d:=ih (uW a b);have e:=Sa a b;simp only[a7];lia
 have:=this c [];simpa [qO] using this
def qF(f:List D):l_:=(a9 f.length).filter λp=>x9 (f.getD p .non)
def ZU{n:Nat}{f:List D}(a:Fn n f)(O:Ow):HH [.tup f] O=.ok (.lst (qH (qF f))) O:=by
 have b:=a.len;have d:=Aj a.n4;show fin (HE [qp f] O)=_;unfold HE;exact uD (xS (o:=qj) (l:=a9 f.length) (inj:=λ(p:Nat)=>D.int (p:Int)) (p:=λp=>x9 (f.getD p .non)) (e:=λ(p:Nat)=>D.int (p:Int)) (τ:=λ(p:Nat)=>[qp f,qd (p:Int)]) (zx (pB (rp (pB rfl) (Hw O f))) 'o') (by simp;lia) (λ_=>rfl) (λp c=>
  have q:=AL a (p:=p) (by rw[<- b];exact cq.mp c)
  tP (pG (pG rfl rfl (q.2 O)) rfl (Iw O q.1))) (λ_ _ _=>rfl))
def oF{f:List D}{p:Nat}:p∈qF f↔p<f.length/\x9 (f.getD p .non)=qb:=by unfold qF;rw[bw,cq]
def RB{n:Nat}{f:List D}(a:Fn n f):(qF f).length<=16:=by have b:=bo (λp=>x9 (f.getD p .non)) (a9 f.length);rw[cM] at b;have c:=Aj a.n4;have d:=a.len;unfold qF;lia
def zcb{l:j_}(h:l.Pairwise (· < ·)):qO l=l:=Hq (Eg l) h λx=>An l
def zlv{σ:Sg}{O O1:Ow}{t:DA}{x:D}{l:j_}(h:t σ O=.ok [x] O1)(a:sR O1 x=KF (l.map .str)\/x=.tup (l.map .str))(b:l.length<1000):Ol qj t σ O=.ok (.lst ((qO l).map .str)) O1:=by
 unfold Ol;rw[h];show(match (match sR O1 x with|some ds=>KF ds|none=>Av x) with|some ds=>NF qj (.ok ds O1)|none=>.bad)=_;have e:(match sR O1 x with|some ds=>KF ds|none=>Av x)=KF (l.map .str):=by
  rcases a with a|rfl
  ·rw[a]
  ·rfl
 rw[e];show(match ux (l.map D.str) with|some ss=>if ss.length<1000 then (if qj=qb then R.ok (D.own _) _ else R.ok (D.lst ((qO ss).map .str)) O1) else .bad|none=>.bad)=_;rw[DL.strL_map];show(if l.length<1000 then _ else _)=_;rw[qL b];rfl
def neI(O:Ow)(a b:Int):pA rW O (.int a) (.int b)=.ok (.bl (a !=b)) O:=rfl
def Nb(O:Ow)(a b:Int):pA qC O (.int a) (.int b)=.ok (.bl (a==b)) O:=rfl
def GU{a:DA}{σ:Sg}{O O1:Ow}{ds:List D}(h:a σ O=.ok ds O1)(b:ds.length<=4000000):sJ a σ O=.ok (.tup ds) O1:=by show((a σ O).bnd _)=_;rw[h];show(if ds.length<=4000000 then _ else _)=_;rw[qL b]
def RH(O:Ow):DF Ca 4 1 CH (.exc 0 O)=.ok (.lst [.int 0]) O:=by kernel_rfl
def Rh(n:Nat)(l:List Int):(l.map D.int).all (pl n)=qb:=aH.mpr λd a=>by
 obtain⟨i,_,rfl⟩:=ay.mp a;cases n<;>rfl
def NM(O:Ow)(i:Int):pA rW O (.lst [.int i]) (.lst [.int i])=.ok (.bl qj) O:=(Qa O (Rh _ [i]) (Rh _ [i]) (b:=qb) ⟨λ_=>rfl,λ_=>rfl⟩).2
def P_{Pt a:Nat}{b:DE}{σ:Sg}{O:Ow}{r:R D}{z:R D}(c:σ[a]?=KF (KF (.tab Pt)))(h:b σ O=r)(d:DF Ca 4 1 CH r=z):Am Pt a Ca 4 1 b CH σ O=z:=by unfold Am;rw[c];dsimp only;rw[qL rfl,h];exact d
def toT(c:j_):D:=.tup (c.map .str)
def WV(c:j_):x8 (toT c)=qb:=by show(c.map D.str).all AI=qb;rw[aH];intro d a;obtain⟨x,_,rfl⟩:=ay.mp a;rfl
def Kn(l:List j_):∀d∈l.map toT,x8 d=qb:=λd a=>by
 obtain⟨x,_,rfl⟩:=ay.mp a;exact WV x
section
variable{α:Type}[DecidableEq α]
noncomputable def sS(inj:α->D)(h:DLC.Held α):D:=.map ((DLC.keys h).map dh) (h.map λkv=>.lst (kv.2.map inj))
structure Inj(inj:α->D):Prop where
 in_:∀(O:Ow)(x:α)(l:List α),yp O (inj x) (.lst (l.map inj))=.ok (.bl (l.contains x)) O
 nin:∀(O:Ow)(x:α)(l:List α),y7 O (inj x) (.lst (l.map inj))=.ok (.bl (!l.contains x)) O
variable{inj:α->D}(J:Inj inj)
def OX{h:DLC.Held α}(n:(DLC.keys h).Nodup){kv:l_×List α}(m:kv∈h):v8 (.inr kv.1) ((DLC.keys h).map dh) (h.map λkv=>D.lst (kv.2.map inj))=qh (kv.2.map inj):=by
 have e:(DLC.keys h).map dh=h.map λkv=>(dh kv.1:DK):=by unfold DLC.keys;rw[bH];rfl
 rw[e];refine SY (kk:=λkv:l_×List α=>(dh kv.1:DK)) (val:=λkv=>D.lst (kv.2.map inj)) m ?_;rw[<- e];exact ee.mpr (mz (λa e=>a (je e)) n)
def Ze{h:DLC.Held α}(n:(DLC.keys h).Nodup){t:l_}(m:t∈DLC.keys h):v8 (.inr t) ((DLC.keys h).map dh) (h.map λkv=>D.lst (kv.2.map inj))=qh ((DLC.at_ h t).map inj):=by obtain⟨kv,a,rfl⟩:=ay.mp m;rw[OX n a,DLC.at_mem n a]
include J in
theorem Tn{h:DLC.Held α}(n:(DLC.keys h).Nodup)(b:h.length<=100)(x:α)(O:Ow):Bm [sS inj h,inj x] O=.ok (.lst ((DLC.hold h x).map .str)) O:=by
 show fin (HZ [KF (sS inj h),KF (inj x)] O)=_;unfold HZ;have c:Gs m_ [KF (sS inj h),KF (inj x)] O=.ok (.val (h.map λa=>D.str a.1)) O:=by
  show R.ok (Src.val (((DLC.keys h).map dh).map Au)) O=_;unfold DLC.keys;rw[bH,bH];rfl
 refine uD ((xS (l:=h) (inj:=λa=>D.str a.1) (p:=λa=>a.2.contains x) (e:=λa=>.str a.1) (τ:=λa=>[KF (sS inj h),KF (inj x),qJ a.1]) c 'o' (λ_=>rfl) (λa d=>tP (pG rfl (Qh rfl rfl rfl (OX n d)) (J.in_ O x a.2))) (λ_ _ _=>rfl)).trans ?_);show R.ok (D.lst _) O=_;unfold DLC.hold;rw[bH];rfl
theorem KJ{c:DE}{σ:Sg}{O:Ow}{f:α->Nat}:∀(w:List α)(b:α),(∀y∈w,c (σ++[KF (inj y)]) O=.ok (.int (f y:Nat)) O)->DL.minGo c σ (w.map inj) (inj b) (f b:Nat) O=.ok (inj (DLC.minGo f w b)) O
 |[],b,_=>rfl
 | x::w,b,h=>by
  rw[bz];unfold DL.minGo DLC.minGo;rw[h x am];dsimp only;by_cases d:f x<f b
  ·rw[qL (show((f x:Nat):Int)<(f b:Nat) by lia),qL d];exact KJ w x λy a=>h y (ak _ a)
  ·rw[q0 (show ¬ ((f x:Nat):Int)<(f b:Nat) by lia),q0 d];exact KJ w b λy a=>h y (ak _ a)
def stC(inj:α->D)(h:DLC.Held α)(w:List α)(m:Int)(y:Option D)(k:Nat)(a b c:Option D)(Pt:Nat):Sg:=[KF (sS inj h),qh (w.map inj),qd m,y,uq k,a,b,c,KF (.tab Pt)]
include J in
theorem YJ{h:DLC.Held α}(n:(DLC.keys h).Nodup){w:List α}(d:w.length<=300){t:l_}(b:t∈DLC.keys h){m:Int}{y:Option D}{k Pt:Nat}{a c:Option D}(O:Ow):AZ (stC inj h w m y k a (qJ t) c Pt) O=.ok (.lst ((DLC.left h w t).map inj)) O:=
 (xS (o:=qj) (l:=w) (inj:=inj) (p:=λx=>!(DLC.at_ h t).contains x) (e:=inj) (τ:=λx=>stC inj h w m y k a (qJ t) c Pt++[KF (inj x)]) (tJ rfl) 'o' (λ_=>rfl) (λx f=>tP (pG rfl (Qh rfl rfl rfl (Ze n b)) (J.nin O x _))) (λ_ _ _=>rfl)).trans rfl
def xW{Pt a n:Nat}{F:pD}{t:DA}{σ:Sg}{O O1:Ow}{ds:List D}{z:R D}(b:σ[a]?=KF (KF (.tab Pt)))(c:t σ O=.ok ds O1)(d:F ds O1=z)(e:ds.length=n:=by rfl):rJ Pt a n F t σ O=z:=by unfold rJ;rw[b];dsimp only;rw[qL rfl];exact qv c d e
def Xm{h r:DLC.Held α}{w l:List α}{t:l_}{m:Nat}{y:Option D}{Pt:Nat}{F:pD}{O:Ow}{a cs:List j_}(d:F [sS inj r,.lst (l.map inj),.int (m:Nat)] (O++[a.map toT])=.ok (.lst (cs.map toT)) (O++[a.map toT]))(n:a.length+cs.length<=1700000)(b:∀c∈cs,c.length<=1000):
  Aa Pt F (stC inj h w ((m+1:Nat):Int) y O.length (KF (sS inj r)) (qJ t) (qh (l.map inj)) Pt) (O++[a.map toT])=.ok .non (O++[(a++cs.map (t :: ·)).map toT]):=by
 have f:((m+1:Nat):Int)-1=(m:Nat):=by lia
 have g:rJ Pt 8 3 F (b_ ue (b_ sM (b_ (h_ (fI z7) qc qD) f_))) (stC inj h w ((m+1:Nat):Int) y O.length (KF (sS inj r)) (qJ t) (qh (l.map inj)) Pt) (O++[a.map toT])=.ok (.lst (cs.map toT)) (O++[a.map toT]):=by
  refine xW rfl (ds:=[sS inj r,.lst (l.map inj),.int (m:Nat)]) ?_ d;show R.ok [sS inj r,.lst (l.map inj),.int (((m+1:Nat):Int)-1)] _=_;rw[f]
 have j:=vZ (o:=qj) (ext:=1) (i:=9) (l:=cs) (inj:=toT) (te:=h_ rg (sJ uK) (rB 9)) (e:=λc=>toT (t::c)) (τ:=λc=>stC inj h w ((m+1:Nat):Int) y O.length (KF (sS inj r)) (qJ t) (qh (l.map inj)) Pt++[KF (toT c)]) (tJ g) 'o' (λ_=>rfl) (λc k=>by
  refine pG (x:=.tup [.str t]) (y:=toT c) (O1:=O++[a.map toT]) (O2:=O++[a.map toT]) rfl rfl ?_;show(if [D.str t]≠[]/\[D.str t].length+(c.map D.str).length<=4000000 then R.ok (D.tup ([D.str t]++c.map D.str)) (O++[a.map toT]) else .bad)=_;rw[qL ⟨by simp,by rw[ax];have:=b c k;simp;lia⟩];rfl)
 unfold Aa Gv;show(R.bnd (R.ok (D.own O.length) (O++[a.map toT])) _)=_;show((b_ _ f_ _ (O++[a.map toT])).bnd _)=_;rw[pB (j.trans (show vU qj _=R.ok (D.lst (cs.map λc=>toT (t::c))) (O++[a.map toT]) from rfl))];show(match [D.lst (cs.map λc=>toT (t::c))],(O++[a.map toT])[O.length]? with|[y],KF ds=>(match sR (O++[a.map toT]) y with|some es=>if ds.length+es.length<=4000000 then R.ok D.non ((O++[a.map toT]).set O.length (ds++es)) else R.bad|none=>R.bad)|_,_=>R.bad)=_;rw[zy];dsimp only[sR];rw[qL (by simp;lia),Rf,dq,bH];rfl
def Jx(inj:α->D)(Pt k m:Nat):Prop:=∀(h:DLC.Held α)(w:List α)(O:Ow),Pl O->(DLC.keys h).Nodup->h.length<=20->w.length<=300->xb Pt k [sS inj h,.lst (w.map inj),.int (m:Nat)] O=.ok (.lst ((DLC.cov m h w).map toT)) O
def Se(h:DLC.Held α)(t:l_):(DLC.drop h t).length<=h.length:=bo _ _
def zcJ(r:DLC.Held α)(t:l_):uC (.inr t) ((DLC.keys r).map dh)=(DLC.keys (DLC.drop r t)).map dh:=by
 unfold uC DLC.keys DLC.drop
 induction r with
 |nil=>rfl
 | cons kv r ih=>
  simp only[bz];by_cases e:kv.1=t
  ·rw[cP (by simp[e]),cP (by simp[e])];exact ih
  ·rw[cQ ⇑e,cQ ⇑e];simp only[bz];rw[ih]
def zcN(r:DLC.Held α)(t:l_):xV (.inr t) ((DLC.keys r).map dh) (r.map λkv=>D.lst (kv.2.map inj))=(DLC.drop r t).map λkv=>D.lst (kv.2.map inj):=by
 unfold DLC.keys DLC.drop
 induction r with
 |nil=>rfl
 | cons kv r ih=>
  simp only[bz];unfold xV;by_cases e:kv.1=t
  ·rw[qL (by rw[e]),cP (by simp[e])];exact ih
  ·rw[q0 (λz=>e (je z)),cQ ⇑e,bz,ih]
def XO{r:DLC.Held α}{t:l_}(h:t∈DLC.keys r):Dh (.inr t) ((DLC.keys r).map dh)=qb:=by unfold Dh;rw[er];exact⟨.inr t,ay.mpr ⟨t,h,rfl⟩,by simp⟩
include J in
theorem QX{Pt k m:Nat}(z:Jx inj Pt k m)(A:m<=100){h:DLC.Held α}{w:List α}(n:(DLC.keys h).Nodup)(j:h.length<=20)(l:w.length<=300){O:Ow}(o:Pl O){y:Option D}:
  ∀(ts:j_)(r:DLC.Held α)(d:List j_)(b c:Option D),(∀t∈ts,t∈DLC.keys r)->ts.Nodup->(∀kv∈r,kv∈h)->(DLC.keys r).Nodup->r.length<=20->d.length+2 ^ r.length<=1700000->(∀t∈ts,t∈DLC.keys h)->
   ∃p q,zo 5 6 7 AZ (Aa Pt (xb Pt k)) (ts.map D.str) ((DLC.keys r).map dh) (r.map λkv=>D.lst (kv.2.map inj)) (stC inj h w ((m+1:Nat):Int) y O.length KM b c Pt) (O++[d.map toT])=.nx (stC inj h w ((m+1:Nat):Int) y O.length KM p q Pt) (O++[(d++DLC.covL (DLC.cov m) h w ts r).map toT])
 |[],r,d,b,c,_,_,_,_,_,_,_=>⟨b,c,by unfold DLC.covL;rw[bL];rfl⟩
 | t::ts,r,d,b,c,f,nt,hr,nr,fr,hl,Vb=>by
  have u:∀kv∈DLC.drop r t,kv∈h:=λkv f=>hr kv (DLC.mem_drop.mp f).1;have K:=DLC.cov_pow m (DLC.drop r t) (DLC.left h w t) (DLC.nd_drop nr);have B:=DLC.drop_lt (f t am);have C:2 ^ ((DLC.drop r t).length+1)<=2 ^ r.length:=cX 'o' B;rw[l7] at C;have E:=YJ J n l (Vb t am) (m:=((m+1:Nat):Int)) (y:=y) (k:=O.length) (Pt:=Pt) (a:=KM) (c:=c) (O++[d.map toT]);have F:=z (DLC.drop r t) (DLC.left h w t) (O++[d.map toT]) (o.one (Kn d)) (DLC.nd_drop nr) (aF (Se r t) fr) (aF (bo _ _) l);have g:d.length+(DLC.cov m (DLC.drop r t) (DLC.left h w t)).length<=1700000:=by lia
  have G:=Xm (h:=h) (w:=w) (t:=t) (y:=y) (Pt:=Pt) F g λc H=>by have:=(DLC.cov_sound m (DLC.nd_drop nr) H).1;lia
  obtain⟨p,q,I⟩:=QX z A n j l o ts (DLC.drop r t) (d++(DLC.cov m (DLC.drop r t) (DLC.left h w t)).map (t :: ·)) (qJ t) (qh ((DLC.left h w t).map inj))
   (λs i=>DLC.keys_drop.mpr ⟨f s (ak _ i),λe=>(bq.mp nt).1 (e▸i)⟩) (bq.mp nt).2 u (DLC.nd_drop nr) (aF (Se r t) fr) (by rw[aB,ax];lia) (λs i=>Vb s (ak _ i))
  refine⟨p,q,?_⟩;rw[bz];unfold zo;dsimp only[vW];rw[qL (XO (f t am))];have v:AZ ((stC inj h w ((m+1:Nat):Int) y O.length KM b c Pt).set 6 (qJ t)) (O++[d.map toT])=.ok (.lst ((DLC.left h w t).map inj)) (O++[d.map toT]):=E;rw[v];dsimp only;rw[zcJ,zcN];have x:Aa Pt (xb Pt k) ((((stC inj h w ((m+1:Nat):Int) y O.length KM b c Pt).set 6 (qJ t)).set 7 (qh ((DLC.left h w t).map inj))).set 5 (KF (.map ((DLC.keys (DLC.drop r t)).map dh) ((DLC.drop r t).map λkv=>D.lst (kv.2.map inj))))) (O++[d.map toT])=_:=G;rw[x];dsimp only;rw[qL (o.one (Kn _)).nms];refine Eq.trans I ?_;show _=RS.nx _ (O++[(d++((DLC.cov m (DLC.drop r t) (DLC.left h w t)).map (t :: ·)++DLC.covL (DLC.cov m) h w ts (DLC.drop r t))).map toT]);rw[bh]
include J in
theorem S6{Pt:Nat}:∀(m k:Nat),m<k->m<=100->Jx inj Pt k m
 |m,0,hk,_=>by lia
 | 0,k+1,_,_=>by
  intro h w O f n a q;show xp O.length (fin (zB Pt (xb Pt k) [KF (sS inj h),qh (w.map inj),qd 0,KM,KM,KM,KM,KM,KF (.tab Pt)] O))=_;unfold zB;cases w with
  | nil=>
   rw[uN (Ah (O1:=O) (x:=.lst [.tup []]) (Al (b:=qj) rfl) rfl)];have:=CN f [] (d:=.lst [.tup []]) (d':=.lst [.tup []]) rfl;rw[bL] at this;exact this
  | cons x w=>
   rw[uN (vC (O1:=O) (Al (b:=qb) rfl) (Ah (O1:=O) (x:=.lst []) (tP (b:=qb) rfl) rfl))];have:=CN f [] (d:=.lst []) (d':=.lst []) rfl;rw[bL] at this;exact this
 | m+1,k+1,hk,hm=>by
  intro h w O f n a q;cases w with
  | nil=>
   show xp O.length (fin (zB Pt (xb Pt k) [KF (sS inj h),KF (.lst []),qd ((m+1:Nat):Int),KM,KM,KM,KM,KM,KF (.tab Pt)] O))=_;unfold zB;rw[uN (Ah (O1:=O) (x:=.lst [.tup []]) (Al (b:=qj) rfl) rfl)];have:=CN f [] (d:=.lst [.tup []]) (d':=.lst [.tup []]) rfl;rw[bL] at this;exact this
  | cons x w=>
   have u:Jx inj Pt k m:=S6 m k 'o' 'o';let c:Sg:=[KF (sS inj h),qh ((x::w).map inj),qd ((m+1:Nat):Int),KM,KM,KM,KM,KM,KF (.tab Pt)];have r:∀y,AU (c++[KF (inj y)]) O=.ok (.int ((DLC.hold h y).length:Nat)) O:=λy=>rp (pB (qv (qT rfl rfl) (Tn J n 'o' y O))) (by show R.ok (D.int (((DLC.hold h y).map D.str).length:Nat)) O=_;rw[ax]);generalize g:DLC.minGo (λy=>(DLC.hold h y).length) w x=y;have v:y∈x::w:=by
    rcases DLC.minGo_mem (λy=>(DLC.hold h y).length) w x with e|e
    ·rw[<- g,e];exact am
    ·rw[<- g];exact ak _ e
   have z:Cr Pt 8 o7 AU c O=.ok (inj y) O:=by
    show(if Pt=Pt then (R.bnd (R.ok (D.lst ((x::w).map inj)) O) λx O1=>match x with|.lst ds=>Cc AU c O1 ds|_=>.bad) else .bad)=_;rw[qL rfl];show Cc AU c O (inj x::w.map inj)=_;show(match AU (c++[KF (inj x)]) O with|.ok (.int j) O1=>DL.minGo AU c (w.map inj) (inj x) j O1|_=>.bad)=_;rw[r x];dsimp only;rw[<- g];exact KJ w x λy _=>r y
   have s:2 ^ h.length<=1700000:=by
    have:=cX (n:=2) 's' a;lia
   obtain⟨I,K,A⟩:=QX J u 'o' n a q f (y:=KF (inj y)) (DLC.hold h y) h [] KM KM (λt i=>((DLC.mem_hold n).mp i).1) (DLC.hold_nd n y) (λ_ h=>h) n a (by simp only[fJ];lia) (λt i=>((DLC.mem_hold n).mp i).1);have B:((m+1:Nat):Int)≠0:=by lia
   have C:pV (h_ (pA qC) qc qE) c O=.ok qj O:=tP (pG rfl rfl (show pA qC O (.int ((m+1:Nat):Int)) (.int 0)=_ from by
    show R.ok (D.bl (((m+1:Nat):Int)==0)) O=_;rw[beq_eq_false_iff_ne.mpr B]))
   have l:pY (o6 2 Bm (b_ m_ (b_ qI f_))) (stC inj h (x::w) ((m+1:Nat):Int) (KF (inj y)) O.length KM KM KM Pt) (O++[[]])=.ok (.val ((DLC.hold h y).map D.str)) (O++[[]]):=tJ (qv (qT rfl rfl) (Tn J n 'o' y (O++[[]])));have E:DQ 5 6 7 m_ (pY (o6 2 Bm (b_ m_ (b_ qI f_)))) AZ (Aa Pt (xb Pt k)) (pL rA) (stC inj h (x::w) ((m+1:Nat):Int) (KF (inj y)) O.length KM KM KM Pt) (O++[[]])=.rt (.own O.length) (O++[((DLC.covL (DLC.cov m) h (x::w) (DLC.hold h y) h)).map toT]):=by
    unfold DQ;show(R.bnS (R.ok (sS inj h) (O++[[]])) _)=_;show(R.bnS (pY (o6 2 Bm (b_ m_ (b_ qI f_))) (stC inj h (x::w) ((m+1:Nat):Int) (KF (inj y)) O.length KM KM KM Pt) (O++[[]])) _)=_;rw[l];show(match zo 5 6 7 AZ (Aa Pt (xb Pt k)) ((DLC.hold h y).map D.str) ((DLC.keys h).map dh) (h.map λo=>D.lst (o.2.map inj)) (stC inj h (x::w) ((m+1:Nat):Int) (KF (inj y)) O.length KM KM KM Pt) (O++[[]]) with|.nx σ' O'=>pL rA σ' O'|_=>.bad)=_;have F:zo 5 6 7 AZ (Aa Pt (xb Pt k)) ((DLC.hold h y).map D.str) ((DLC.keys h).map dh) (h.map λo=>D.lst (o.2.map inj)) (stC inj h (x::w) ((m+1:Nat):Int) (KF (inj y)) O.length KM KM KM Pt) (O++[[]])=_:=A;rw[F];rw[gJ];rfl
   have p:zB Pt (xb Pt k) c O=.rt (.own O.length) (O++[((DLC.covL (DLC.cov m) h (x::w) (DLC.hold h y) h)).map toT]):=by
    unfold zB;exact vC (O1:=O) (Al (b:=qb) rfl) (vC C (rK (x:=inj y) z (rK (x:=.own O.length) (O1:=O++[[]]) rfl E)))
   show xp O.length (fin (zB Pt (xb Pt k) c O))=_;rw[uN p];have G:=CN f [(DLC.covL (DLC.cov m) h (x::w) (DLC.hold h y) h).map toT] (d:=.own O.length) (d':=.lst ((DLC.covL (DLC.cov m) h (x::w) (DLC.hold h y) h).map toT)) (by
    unfold frz;dsimp only;rw[q0 (bU _),zy];dsimp only;rw[CK λd H=>He (Kn _ d H)];rfl)
   refine G.trans ?_;show _=R.ok (D.lst ((DLC.covL (DLC.cov m) h (x::w) (DLC.hold h (DLC.minGo (λy=>(DLC.hold h y).length) w x)) h).map toT)) O;rw[g]
end
def zdp{t:DE}{σ:Sg}{O O1:Ow}{ds:List D}(h:t σ O=.ok (.lst ds) O1):sN t σ O=.ok (!ds.isEmpty) O1:=by show((t σ O).bnd _)=_;rw[h];rfl
def xE(t:l_):Int:=((sg t:Nat):Int)
def zeg(O:Ow):(om.map λcs=>Et [.str cs] O)=om.map λcs=>R.ok (D.int (xE cs)) O:=by kernel_rfl
def Zf{cs:l_}(h:cs∈om)(O:Ow):Et [.str cs] O=.ok (.int (xE cs)) O:=de.mp (zeg O) cs h
def rq(c:j_):Int:=(c.map xE).sum
theorem Ew:∀l:List Int,xw (l.map D.int)=KF l
 |[]=>rfl
 | x::l=>by
  show(xw (l.map D.int)).map (x :: ·)=_;rw[Ew l];rfl
def Zb{c:j_}(a:∀t∈c,t∈om)(f:c.length<=1000)(O:Ow):zD [toT c] O=.ok (.int (rq c)) O:=by
 have b:=vZ (o:=qj) (ext:=1) (i:=1) (it0:=pY m_) (σ:=[KF (toT c)]) (O0:=O) (O:=O) (l:=c) (inj:=D.str) (te:=o6 1 Et (b_ o7 f_)) (e:=λt=>D.int (xE t)) (τ:=λt=>[KF (toT c),qJ t]) (Kj rfl) 'o' (λ_=>rfl) (λt d=>qv (pB rfl) (Zf (a t d) O));show fin (HC [KF (toT c)] O)=_;unfold HC;refine uD (rp (pB b) ?_);show(match xw (c.map λt=>D.int (xE t)) with|some ns=>R.ok (D.int ns.sum) O|none=>.bad)=_;have:(c.map λt=>D.int (xE t))=(c.map xE).map D.int:=by rw[bH];rfl
 rw[this,Ew];rfl
section
variable{α:Type}[DecidableEq α]{inj:α->D}(J:Inj inj)
def sQ(inj:α->D)(h:DLC.Held α)(w:List α)(Pt m:Nat)(x:Option D):Sg:=[KF (sS inj h),qh (w.map inj),qd (m:Nat),qh ((DLC.cov m h w).map toT),x,KF (.tab Pt)]
structure Sz(h:DLC.Held α)(w:List α):Prop where
 nd:(DLC.keys h).Nodup
 few:h.length<=18
 wl:w.length<=300
include J in
theorem Pr{h:DLC.Held α}{w:List α}(z:Sz h w){Pt m:Nat}(d:m<=18){a b:Option D}{O:Ow}(c:Pl O):rJ Pt 5 3 (Er Pt) (b_ m_ (b_ o7 (b_ qc f_))) [KF (sS inj h),qh (w.map inj),qd (m:Nat),a,b,KF (.tab Pt)] O=.ok (.lst ((DLC.cov m h w).map toT)) O:=
 xW rfl (Hv rfl (qT rfl rfl)) (S6 J m 20 'o' 'o' h w O c z.nd (aF z.few 's') z.wl)
include J in
theorem RV{h:DLC.Held α}{w:List α}(z:Sz h w)(g:DLC.cov 18 h w≠[]):∀(fuel m:Nat),m<=18->18<m+fuel->∃c,m<=c/\c<=18/\DLC.cov c h w≠[]/\(∀j,m<=j->j<c->DLC.cov j h w=[])/\∀(Pt:Nat)(O:Ow),Pl O->vD cW (bW Pt) fuel (sQ inj h w Pt m KM) O=.nx (sQ inj h w Pt c KM) O
 |0,m,h1,h2=>by lia
 | fuel+1,m,h1,h2=>by
  by_cases e:DLC.cov m h w=[]
  ·have x:m≠18:=λq=>g (q▸e);obtain⟨c,y,i,l,n,o⟩:=RV z g fuel (m+1) 'o' 'o';refine⟨c,by lia,i,l,λj p s=>?_,λPt O d=>?_⟩
   ·by_cases q:j=m
    ·rw[q];exact e
    ·exact n j 'o' s
   ·have f:cW (sQ inj h w Pt m KM) O=.ok qb O:=by
     unfold sQ;rw[e];rfl
    have u:bW Pt (sQ inj h w Pt m KM) O=.nx (sQ inj h w Pt (m+1) KM) O:=by
     refine xA (σ':=[KF (sS inj h),qh (w.map inj),qd ((m+1:Nat):Int),qh ((DLC.cov m h w).map toT),KM,KF (.tab Pt)]) (O1:=O) rfl ?_;rw[G6 (Pr J z 'o' d)];rfl
    show((cW (sQ inj h w Pt m KM) O).bnS λk O1=>if k=qb then (match bW Pt (sQ inj h w Pt m KM) O1 with
     |.nx σ' O'=>vD cW (bW Pt) fuel σ' O'
     |.ct σ' O'=>vD cW (bW Pt) fuel σ' O'
     |.bk σ' O'=>.nx σ' O'
     |r=>r) else .nx (sQ inj h w Pt m KM) O1)=_
    rw[f];show(if qb=qb then (match bW Pt (sQ inj h w Pt m KM) O with
     |.nx σ' O'=>vD cW (bW Pt) fuel σ' O'
     |.ct σ' O'=>vD cW (bW Pt) fuel σ' O'
     |.bk σ' O'=>.nx σ' O'
     |r=>r) else RS.nx (sQ inj h w Pt m KM) O)=_
    rw[qL rfl,u];exact o Pt O d
  ·refine⟨m,aE _,h1,e,λj a b=>by lia,λPt O d=>?_⟩;have f:cW (sQ inj h w Pt m KM) O=.ok qj O:=by
    refine Al (b:=qb) ?_;rw[zdp (t:=rB 3) (σ:=sQ inj h w Pt m KM) (O:=O) (O1:=O) (ds:=(DLC.cov m h w).map toT) rfl];cases v:DLC.cov m h w with
    |nil=>exact absurd v e
    |cons _ _=>rfl
   show((cW (sQ inj h w Pt m KM) O).bnS λk O1=>if k=qb then (match bW Pt (sQ inj h w Pt m KM) O1 with
     |.nx σ' O'=>vD cW (bW Pt) fuel σ' O'
     |.ct σ' O'=>vD cW (bW Pt) fuel σ' O'
     |.bk σ' O'=>.nx σ' O'
     |r=>r) else .nx (sQ inj h w Pt m KM) O1)=_
   rw[f];rfl
theorem RL:∀l:List j_,yZ (l.map toT)=KF l
 |[]=>rfl
 | x::l=>by
  show(match ux (x.map D.str),yZ (l.map toT) with|some ks,KF t=>KF (ks::t)|_,_=>KM)=_;rw[strL_map,RL l]
def few(h:DLC.Held α)(w:List α)(m:Nat):Int:=Ac ((DLC.cov m h w).map rq)
def z8(h:DLC.Held α)(w:List α)(m:Nat):List j_:=AS (((DLC.cov m h w).filter λc=>rq c==few h w m).map qO)
theorem Eo:∀(l:List Int)(x:Int),l.foldl min x=x\/l.foldl min x∈l
 |[],x=>.inl rfl
 | y::l,x=>by
  show l.foldl min (min x y)=x\/_;rcases Eo l (min x y) with e|e
  ·rw[show(List.foldl min x (y::l))=l.foldl min (min x y) from rfl,e];rcases Int.le_total x y with g|g
   ·left;lia
   ·right;rw[show min x y=y by lia];exact am
  ·right;exact ak _ e
def QZ{h:DLC.Held α}{w:List α}{m:Nat}(a:DLC.cov m h w≠[]):∃c∈DLC.cov m h w,rq c=few h w m:=by
 unfold few;cases b:DLC.cov m h w with
 |nil=>exact absurd b a
 | cons c l=>
  rcases Eo (l.map rq) (rq c) with e|e
  ·exact⟨c,am,e.symm⟩
  ·obtain⟨d,f,q⟩:=ay.mp e;exact⟨d,ak _ f,q⟩
def oH{h:DLC.Held α}{w:List α}{m:Nat}{x:j_}:x∈z8 h w m ↔ ∃c∈DLC.cov m h w,rq c=few h w m/\qO c=x:=by
 unfold z8;rw[(HB _).mem_iff,ay];constructor
 ·rintro⟨c,d,rfl⟩;obtain⟨a,b⟩:=bw.mp d;exact⟨c,a,by simpa using b,rfl⟩
 ·rintro⟨c,a,b,rfl⟩;exact⟨c,bw.mpr ⟨a,by simpa using b⟩,rfl⟩
def YX{h:DLC.Held α}{w:List α}{m:Nat}(a:DLC.cov m h w≠[]):z8 h w m≠[]:=by obtain⟨c,b,e⟩:=QZ a;have:qO c∈z8 h w m:=oH.mpr ⟨c,b,e,rfl⟩;intro q;rw[q] at this;cases this
include J in
theorem WR{h:DLC.Held α}{w:List α}(z:Sz h w)(A:∀t∈DLC.keys h,t∈om)(B:DLC.cov 18 h w≠[]):∃m,m<=18/\DLC.Lm h w m/\∀(Pt:Nat)(O:Ow),Pl O->EJ Pt [sS inj h,.lst (w.map inj)] O=.ok (.lst ((z8 h w m).map toT)) O:=by
 obtain⟨m,_,C,r,E,F⟩:=RV J z B 20 0 'o' 'o';refine⟨m,C,⟨z.nd,r,λj G=>E j 'o' G⟩,λPt O s=>?_⟩;show fin (Lx Pt [KF (sS inj h),qh (w.map inj),KM,KM,KM,KF (.tab Pt)] O)=_;unfold Lx;have u:(DLC.cov m h w).length<=262144:=aF (DLC.cov_pow m h w z.nd) (aF (cX 's' z.few) 's');have v:∀c∈DLC.cov m h w,∀O,zD [toT c] O=.ok (.int (rq c)) O:=λc a O=>by
  obtain⟨y,f,b⟩:=DLC.cov_sound m z.nd a;exact Zb (λt g=>A t (b.1 t g)) 'o' O
 have H:pf DR (b_ (pK qj 1 (pY qI) (.one 6) [] [] (o6 1 zD uK)) f_) (sQ inj h w Pt m KM) O=.ok (.int (few h w m)) O:=by
  have k:=vZ (o:=qj) (ext:=1) (i:=6) (it0:=pY qI) (σ:=sQ inj h w Pt m KM) (O0:=O) (O:=O) (l:=DLC.cov m h w) (inj:=toT) (te:=o6 1 zD uK) (e:=λc=>D.int (rq c)) (τ:=λc=>sQ inj h w Pt m KM++[KF (toT c)]) (tJ rfl) 'o' (λ_=>rfl) (λc a=>qv (pB rfl) (v c a O));refine rp (pB k) ?_;show(match xw ((DLC.cov m h w).map λc=>D.int (rq c)) with|some ns=>(if ns≠[] then R.ok (D.int (Ac ns)) O else .bad)|none=>.bad)=_;have:((DLC.cov m h w).map λc=>D.int (rq c))=((DLC.cov m h w).map rq).map D.int:=by rw[bH];rfl
  rw[this,Ew];show(if (DLC.cov m h w).map rq≠[] then R.ok (D.int (Ac ((DLC.cov m h w).map rq))) O else .bad)=_;rw[qL (by intro q;exact r (List.map_eq_nil_iff.mp q))];rfl
 have I:pf DJ (b_ (pK qj 1 (pY qI) (.one 6) [(pV (h_ (pA qC) (o6 1 zD uK) rA))] [] (pf zr (b_ (pf A0 uK) f_))) f_) (sQ inj h w Pt m (qd (few h w m))) O=.ok (.lst ((z8 h w m).map toT)) O:=by
  have k:=xS (o:=qj) (ext:=1) (i:=6) (it0:=pY qI) (σ:=sQ inj h w Pt m (qd (few h w m))) (O0:=O) (O:=O) (l:=DLC.cov m h w) (inj:=toT) (t:=pV (h_ (pA qC) (o6 1 zD uK) rA)) (te:=pf zr (b_ (pf A0 uK) f_)) (p:=λc=>rq c==few h w m) (e:=λc=>toT (qO c)) (τ:=λc=>sQ inj h w Pt m (qd (few h w m))++[KF (toT c)]) (tJ rfl) 'o' (λ_=>rfl)
   (λc a=>tP ((OY (qv (pB rfl) (v c a O)) rfl).trans (Nb O _ _)))
   (λc a _=>by
    obtain⟨y,f,b⟩:=DLC.cov_sound m z.nd a;have K:pf A0 uK (sQ inj h w Pt m (qd (few h w m))++[KF (toT c)]) O=.ok (.lst ((qO c).map .str)) O:=by
     refine rp (pB (x:=toT c) (O1:=O) rfl) ?_;show(match ux (c.map D.str) with|some ss=>(if ss.Nodup/\ss.length<=1000 then R.ok (D.lst ((qO ss).map .str)) O else .bad)|none=>.bad)=_;rw[strL_map];show(if c.Nodup/\c.length<=1000 then R.ok (D.lst ((qO c).map .str)) O else .bad)=_;rw[qL ⟨f,by lia⟩]
    exact rp (pB K) rfl)
  refine rp (pB k) ?_;have L:(((DLC.cov m h w).filter λc=>rq c==few h w m).map λc=>toT (qO c))=(((DLC.cov m h w).filter λc=>rq c==few h w m).map qO).map toT:=by rw[bH];rfl
  show(match yZ (((DLC.cov m h w).filter λc=>rq c==few h w m).map λc=>toT (qO c)) with|some pN=>(if (2<=pN.length->(pN.all λd=>!d.isEmpty)=qb)/\pN.length<=4000000 then R.ok (D.lst ((AS pN).map DL.toT)) O else .bad)|none=>.bad)=_;rw[L,RL];have M:(((DLC.cov m h w).filter λc=>rq c==few h w m).map qO).length<=4000000:=by
   rw[ax];have:=bo (λc=>rq c==few h w m) (DLC.cov m h w);lia
  have n:2<=(((DLC.cov m h w).filter λc=>rq c==few h w m).map qO).length->((((DLC.cov m h w).filter λc=>rq c==few h w m).map qO).all λd=>!d.isEmpty)=qb:=by
   intro N;cases w with
   | nil=>
    exfalso;rw[ax] at N;have S:=bo (λc=>rq c==few h ([]:List α) m) (DLC.cov m h []);have T:(DLC.cov m h ([]:List α)).length=1:=by unfold DLC.cov;rfl
    lia
   | cons x w=>
    rw[aH];intro d P;obtain⟨c,a,rfl⟩:=ay.mp P;have a:=(bw.mp a).1;obtain⟨y,f,b⟩:=DLC.cov_sound m z.nd a;obtain⟨t,g,_⟩:=b.2 x am;have:t∈qO c:=(An _).mpr g;cases Q:qO c with
    |nil=>rw[Q] at this;cases this
    |cons _ _=>rfl
  show(if _/\_ then R.ok (D.lst ((AS (((DLC.cov m h w).filter λc=>rq c==few h w m).map qO)).map DL.toT)) O else .bad)=_;rw[qL ⟨n,M⟩];rfl
 refine uN (O1:=O) (rK (O1:=O) (x:=.int 0) rfl (rK (O1:=O) (Pr J z (m:=0) 'o' s) (xA (σ':=sQ inj h w Pt m KM) (O1:=O) ?_ (rK (O1:=O) H ?_))))
 ·exact F Pt O s
 ·exact uE I
end
def CC{l:j_}(h:l.Pairwise (· < ·)):l.Nodup:=mz (λ{a b}z(e:a=b)=>gd a (by rw[<- e] at z;exact z)) h
def u4(S:j_):Nat:=(S.map sg).sum
def Kx(t:l_)(b:j_):u4 (t::b)=sg t+u4 b:=by unfold u4;rw[bz,fF]
def Kw{a b:j_}(h:a.Perm b):u4 a=u4 b:=by
 induction h with
 |nil=>rfl
 |cons x _ ih=>rw[Kx,Kx,ih]
 |swap x y l=>simp only[Kx];lia
 |trans _ _ h1 h2=>exact h1.trans h2
def xP(ps:l_)(ts S:j_):Prop:=(∀t∈S,t∈ts)/\∀p∈ps,∃t∈S,p∈pR t
structure zmJ(ps:l_)(ts:j_)(a b:Nat):Prop where
 ex:∃S:j_,S.Nodup/\xP ps ts S/\S.length=a/\u4 S=b
 le:∀S:j_,S.Nodup->xP ps ts S->a<S.length\/(a=S.length/\b<=u4 S)
def xH(g:Nat->Bool)(t:l_):Bool:=(pR t).all g
def Bp(g:Nat->Bool)(t:l_):Bool:=xH g t && !(a9 t.length).any λk=>t.getD k 0 !=45&&xH g (t.set k 45)
def YL:∀a b c d e f g h:Bool,((YP 3).filter (Bp λp=>[a,b,c,d,e,f,g,h].getD p qj)).length<=6:=by decide +kernel
def Pp{g k:Nat->Bool}(h:∀p,p<8->g p=k p){t:l_}(b:t∈YP 3):xH g t=xH k t:=by
 unfold xH;rw[eF,aH,aH];constructor
 ·intro q p a;rw[<- h p (CO (n:=3) 's' 's' b a)];exact q p a
 ·intro q p a;rw[h p (CO (n:=3) 's' 's' b a)];exact q p a
def WT{g k:Nat->Bool}(h:∀p,p<8->g p=k p){t:l_}(a:t∈YP 3):Bp g t=Bp k t:=by unfold Bp;rw[Pp h a];congr 3;funext i;rw[Pp h (Hx (n:=3) 's' 's' a _)]
def six(g:Nat->Bool):((YP 3).filter (Bp g)).length<=6:=by
 have:=YL (g 0) (g 1) (g 2) (g 3) (g 4) (g 5) (g 6) (g 7);rwa [List.filter_congr λt a=>WT (k:=g) (λp b=>by
  have:p=0\/p=1\/p=2\/p=3\/p=4\/p=5\/p=6\/p=7:=by lia
  rcases this with rfl|rfl|rfl|rfl|rfl|rfl|rfl|rfl<;>rfl) a] at this
def qG(f:List D)(t:l_):Bool:=rC f t&&w_ f t
def Zv{α:Type}{p q:α->Bool}{l:List α}(h:∀x∈l,p x=qb->q x=qb):(l.filter p).length<=(l.filter q).length:=by rw[<- jd,<- jd];exact List.countP_mono_left h
def zdu(n:Nat)(f:List D):(qU n f).length<=((YP n).filter (qG f)).length:=by unfold qU A6;rw[l9];refine Zv λt _ h=>?_;unfold xG at h;unfold qG;simp only[bi] at h ⊢;exact⟨h.2,h.1.2⟩
theorem OB{q a b c:l_->Bool}:∀(l:j_),(∀t∈l,(q (t++[45])=qb->a t=qb)/\(q (t++[48])=qb->b t=qb)/\(q (t++[49])=qb->c t=qb))->((l.flatMap λt=>[t++[45],t++[48],t++[49]]).filter q).length<=(l.filter a).length+(l.filter b).length+(l.filter c).length
 |[],_=>by simp
 | t::l,h=>by
  obtain⟨g,i,j⟩:=h t am;have k:=OB l λs f=>h s (ak _ f);rw[fV,g7,aB];have e:([t++[45],t++[48],t++[49]].filter q).length<=(if a t=qb then 1 else 0)+(if b t=qb then 1 else 0)+(if c t=qb then 1 else 0):=by
   simp only[eM,j7];cases m:q (t++[45])<;>cases n:q (t++[48])<;>cases o:q (t++[49])<;>simp_all<;>(repeat' split)<;>lia
  have d:∀p:l_->Bool,((t::l).filter p).length=(if p t=qb then 1 else 0)+(l.filter p).length:=λp=>by
   rw[eM];split<;>simp<;>lia
  rw[d a,d b,d c];lia
def Kd(t:l_)(c:Nat):pR (t++[c])=(pR t).flatMap λp=>(PN c).map (2*p + ·):=by unfold pR;rw[jB];rfl
def JD{f:List D}{c:Nat}{g:Nat->Bool}(a:∀s,rC f (s++[c])=xH g s){t:l_}(h:qG f (t++[c])=qb):Bp g t=qb:=by unfold qG w_ at h;simp only[bi,fW,jC] at h;unfold Bp;simp only[bi,fW,jC];refine⟨by rw[<- a];exact h.1,λk d=>?_⟩;have b:=cq.mp d;have:=h.2 k (cq.mpr (by rw[aB];lia));unfold DB at this;rw[lg _ _ b,a,bE,aG b,<- bE,bi] at this;exact this
def Yn(f:List D)(s:l_):rC f (s++[45])=xH (λp=>!u9 (f.getD (2*p) .non) && !u9 (f.getD (2*p+1) .non)) s:=by unfold rC xH;rw[Kd,jT];congr 1;funext p;show([2*p+0,2*p+1].all _)=_;simp
def Yl(f:List D)(s:l_):rC f (s++[48])=xH (λp=>!u9 (f.getD (2*p) .non)) s:=by unfold rC xH;rw[Kd,jT];congr 1;funext p;show([2*p+0].all _)=_;simp
def WX(f:List D)(s:l_):rC f (s++[49])=xH (λp=>!u9 (f.getD (2*p+1) .non)) s:=by unfold rC xH;rw[Kd,jT];congr 1;funext p;show([2*p+1].all _)=_;simp
def CY{n:Nat}{f:List D}(d:Fn n f):(qU n f).length<=18:=by
 refine aF (zdu n f) ?_;rcases DD d.n1 d.n4 with rfl|rfl|rfl|rfl
 ·exact aF (bo _ _) 's'
 ·exact aF (bo _ _) 's'
 ·have:=six λp=>!u9 (f.getD p .non);exact aF (aF (gY rfl) this) 's'
 ·have h:=OB (q:=qG f) (YP 3) λt _=>⟨JD (Yn f),JD (Yl f),JD (WX f)⟩;have a:=six λp=>!u9 (f.getD (2*p) .non) && !u9 (f.getD (2*p+1) .non);have b:=six λp=>!u9 (f.getD (2*p) .non);have c:=six λp=>!u9 (f.getD (2*p+1) .non);have e:YP 4=(YP 3).flatMap λt=>[t++[45],t++[48],t++[49]]:=rfl;rw[e];lia
def ZZ:(allS.all λq=>(pR q.1).all λp=>(pR (q.1.set q.2 45)).contains p)=qb:=by decide +kernel
def zfZ:(oQ.all λq=>decide (pR (zj q.1 q.2)=[q.2])&&decide (zj q.1 q.2∈YP q.1))=qb:=by decide +kernel
theorem N_{n:Nat}{f:List D}(j:Fn n f):∀(k:Nat)(t:l_),t∈YP n->rC f t=qb->t.countP (· != 45)<=k->∃g∈YP n,rC f g=qb/\w_ f g=qb/\∀p∈pR t,p∈pR g
 | k,t,ht,hg,hk=>by
  cases l:w_ f t with
  |true=>exact⟨t,ht,hg,l,λ_ h=>h⟩
  | false=>
   unfold w_ at l;rw[Bool.not_eq_false',er] at l;obtain⟨i,e,m⟩:=l;have e:=cq.mp e;unfold DB at m;rw[bi] at m;have o:(t[i] !=45)=qb:=by
    have:=m.1;rwa [bE,aC e] at this
   have q:=List.countP_set (p:=(· != 45)) (a:=45) e;have s:0<t.countP (· != 45):=List.countP_pos_iff.mpr ⟨t[i],el e,o⟩;simp only[o,if_true,bne_self_eq_false,dR,if_false] at q
   match k,hk with
   |0,hk=>lia
   | k+1,hk=>
    obtain⟨g,a,b,c,d⟩:=N_ j k (t.set i 45) (Hx j.n1 j.n4 ht i) m.2 'o';refine⟨g,a,b,c,λp r=>d p ?_⟩;have:=aH.mp (aH.mp ZZ (t,i) (KI (xC j.n1 j.n4 ht) e)) p r;exact cu.mp this
def zcU{n:Nat}{f:List D}(a:Fn n f){p:Nat}(d:p∈qF f):pR (zj n p)=[p]/\zj n p∈YP n/\rC f (zj n p)=qb:=by obtain⟨b,c⟩:=oF.mp d;have:=aH.mp zfZ (n,p) (Sj a.n1 a.n4 (by rw[<- a.len];exact b));simp only[bi,decide_eq_true_eq] at this;refine⟨this.1,this.2,?_⟩;unfold rC;rw[this.1];have g:=AL a (p:=p) (by rw[<- a.len];exact b);rcases g.1 with e|e|e<;>rw[e] at c<;>simp only[lu,List.all_nil,lv,e]<;>first|rfl|cases c
def XQ{n:Nat}{f:List D}(a:Fn n f){p:Nat}(b:p∈qF f):∃t∈qU n f,p∈pR t:=by obtain⟨d,e,h⟩:=zcU a b;obtain⟨g,i,j,k,l⟩:=N_ a _ _ e h (aE _);have c:=l p (by rw[d];simp);refine⟨g,bw.mpr ⟨bw.mpr ⟨i,j⟩,?_⟩,c⟩;unfold xG;rw[k,lv];exact er.mpr ⟨p,c,(oF.mp b).2⟩
def WE{n:Nat}{f:List D}(b:Fn n f)(O:Ow):Ll [.tup f,.int 1] O=.ok (.lst (qH (qF f))) O:=by
 have c:=Aj b.n4;have d:=b.len;have h:=CV (o:=qj) (ext:=2) (g:=.two 2 3) (it0:=GW (b_ m_ f_)) (σ:=[qp f,qd 1]) (O0:=O) (O:=O) (src:=.val (yD f)) (ts:=[(pV (h_ (pA qC) qI o7))]) (te:=rB 2) (l:=a9 f.length) (inj:=λ(p:Nat)=>D.tup [.int (p:Int),f.getD p .non]) (p:=λp=>x9 (f.getD p .non)) (e:=λ(p:Nat)=>D.int (p:Int))
  (τ:=λ(p:Nat)=>[qp f,qd 1,qd (p:Int),KF (f.getD p .non)]) rfl (λi=>by
   rw[z6s];show(yD f)[i]?=_;rw[SX];by_cases a:i<f.length
   ·rw[qL a,aC a,bE,aC a];rfl
   ·rw[q0 a,ba.mpr 'o'];rfl) (by
   show(yD f).length=_;unfold yD;simp) (by rw[cM];lia) (λk _=>rfl) (λp j=>KE (tP (pG rfl rfl (Iw O (AL b (by rw[<- d];exact cq.mp j)).1)))) (λp _ _=>rfl)
 exact uD h
def iN(p:Nat):D:=.int (p:Nat)
def V3:Inj iN:=⟨λO x l=>(J7 O x l).1,λO x l=>(J7 O x l).2⟩
def tx(n:Nat)(f:List D):DLC.Held Nat:=(qU n f).map λt=>(t,pR t)
def Ej(n:Nat)(f:List D):DLC.keys (tx n f)=qU n f:=by unfold DLC.keys tx;rw[bH];exact List.map_id _
section
variable{n:Nat}{f:List D}(hf:Fn n f)
include hf
theorem A9:(DLC.keys (tx n f)).Nodup:=by rw[Ej];exact CC (C1 hf)
theorem N6{t:l_}(h:t∈qU n f):DLC.at_ (tx n f) t=pR t:=DLC.at_mem (A9 hf) (kv:=(t,pR t)) (ay.mpr ⟨t,h,rfl⟩)
theorem D4{S:j_}:DLC.Cov (tx n f) (qF f) S↔xP (qF f) (qU n f) S:=by
 constructor
 ·rintro⟨b,c⟩;have b:∀t∈S,t∈qU n f:=λt a=>by have:=b t a;rwa [Ej] at this
  refine⟨b,λp d=>?_⟩;obtain⟨t,a,q⟩:=c p d;rw[N6 hf (b t a)] at q;exact⟨t,a,q⟩
 ·rintro⟨b,c⟩;refine⟨λt a=>by rw[Ej];exact b t a,λp d=>?_⟩;obtain⟨t,a,q⟩:=c p d;exact⟨t,a,by rw[N6 hf (b t a)];exact q⟩
theorem W_:DLC.cov 18 (tx n f) (qF f)≠[]:=by obtain⟨c,a,_⟩:=DLC.cov_some 18 (A9 hf) ((D4 hf (S:=qU n f)).mpr ⟨λt b=>b,λp d=>XQ hf d⟩) (CY hf);intro e;rw[e] at a;cases a
theorem Wg:Sz (tx n f) (qF f):=⟨A9 hf,by unfold tx;rw[ax];exact CY hf,aF (RB hf) 's'⟩
theorem Y8(O:Ow):EI [.tup f] O=.ok (sS iN (tx n f)) O:=by
 have c:=zaB hf O;have j:=CY hf;have d:=zdh (ext:=1) (i:=1) (it0:=pY (o6 1 EA (b_ m_ f_))) (tk:=rB 1) (tv:=o6 1 (sO Bl) (b_ o7 f_)) (σ:=[qp f]) (O0:=O) (O:=O) (l:=qU n f) (inj:=D.str) (key:=D.str) (val:=λt=>.lst (qH (pR t))) (kk:=dh) (τ:=λt=>[qp f,qJ t]) (tJ ((DZ (pB rfl) rfl).trans c)) 'o' (by
  refine ee.mpr ((CC (C1 hf)).imp ?_);intro a b h e;exact h (je e)) (λ_=>rfl) (λ_ _=>rfl) (λ_ _=>rfl) (λt g=>vE (pB rfl) (Lo (C2 hf t g) O))
 show fin (HR [qp f] O)=_;unfold HR;have e:sS iN (tx n f)=.map ((qU n f).map dh) ((qU n f).map λt=>.lst (qH (pR t))):=by
  unfold sS;rw[Ej];unfold tx;rw[bH];rfl
 rw[e];show fin (pL _ _ _)=_;unfold pL;rw[d];rfl
end
def DW(c:j_):rq c=((u4 c:Nat):Int):=by
 unfold rq u4
 induction c with
 |nil=>rfl
 |cons t l ih=>rw[bz,fF,ih,bz,fF];unfold xE;lia
def WW{α:Type}[DecidableEq α]{h:DLC.Held α}{w:List α}{m:Nat}{c:j_}(e:c∈DLC.cov m h w):few h w m<=rq c:=by
 unfold few;cases f:DLC.cov m h w with
 |nil=>rw[f] at e;cases e
 | cons d l=>
  obtain⟨a,b⟩:=Ku (l.map rq) (rq d);rw[f] at e;rcases aq.mp e with rfl|h
  ·exact a
  ·exact b _ (ay.mpr ⟨c,h,rfl⟩)
structure Nn(n:Nat)(f:List D)(L:List j_)(a b:Nat):Prop where
 nd:L.Nodup
 srt:L.Pairwise vO
 ne:L≠[]
 mem:∀x,x∈L↔x.Pairwise (· < ·)/\xP (qF f) (qU n f) x/\x.length=a/\u4 x=b
 low:∀S:j_,S.Nodup->xP (qF f) (qU n f) S->a<S.length\/(S.length=a/\b<=u4 S)
 few:L.length<=262144
 a18:a<=18
def Pd{n:Nat}{f:List D}(d:Fn n f):∃L a b,Nn n f L a b/\∀(Pt:Nat)(O:Ow),Pl O->Bo Pt [.tup f] O=.ok (.lst (L.map toT)) O:=by
 obtain⟨m,s,k,u⟩:=WR V3 (Wg d) (λt j=>by rw[Ej] at j;exact C2 d t j) (W_ d);obtain⟨E,F,g⟩:=QZ k.ne;rw[DW] at g;have v:∀{c},c∈DLC.cov m (tx n f) (qF f)->c.Perm (qO c):=λ{c}i=>DLC.perm_of_sub (DLC.cov_sound m (A9 d) i).2.1 (λt j=>(An c).mpr j) (zdJ c);have G:∀{c},c∈DLC.cov m (tx n f) (qF f)->xP (qF f) (qU n f) (qO c):=λ{c}i=>by
  obtain⟨x,y⟩:=(D4 d).mp (DLC.cov_sound m (A9 d) i).2.2;exact⟨λt j=>x t ((An c).mp j),λp h=>let ⟨t,j,q⟩:=y p h;⟨t,(An c).mpr j,q⟩⟩
 have A:(z8 (tx n f) (qF f) m).Perm (((DLC.cov m (tx n f) (qF f)).filter λc=>rq c==few (tx n f) (qF f) m).map qO):=HB _;refine⟨z8 (tx n f) (qF f) m,m,u4 E,⟨?_,Ky _,YX k.ne,λx=>⟨λw=>?_,λw=>?_⟩,λS R B=>?_,?_,s⟩,λPt O H=>?_⟩
 ·refine A.nodup_iff.mpr (ee.mpr (gX ?_ ((DLC.cov_once m _ _ (A9 d)).filter _)));intro a b I J K e;have e:qO a=qO b:=e;have l:=v (bw.mp I).1;rw[e] at l;exact K (l.trans (v (bw.mp J).1).symm)
 ·obtain⟨c,i,M,rfl⟩:=oH.mp w;have o:=v i;rw[DW,<- g] at M;exact⟨Eg c,G i,by rw[<- o.length_eq];exact k.len i,by rw[<- Kw o];lia⟩
 ·obtain⟨l,r,C,N⟩:=w;obtain⟨c,i,o⟩:=k.all ((D4 d).mpr r) C;refine oH.mpr ⟨c,i,?_,?_⟩
  ·rw[DW,Kw o,N,<- g]
  ·rw[<- zcb l];exact Hq (Eg _) (Eg _) λt=>by rw[An,An];exact o.mem_iff
 ·have l:=k.le ((D4 d).mpr B);rcases gZ m S.length with z|z
  ·exact .inl z
  ·right;have u:S.length=m:=by lia
   obtain⟨T,P,Q⟩:=k.all ((D4 d).mpr B) u;have r:=WW P;rw[<- g,DW,Kw Q] at r;lia
 ·rw[A.length_eq,ax];have l:=bo (λc=>rq c==few (tx n f) (qF f) m) (DLC.cov m (tx n f) (qF f));have r:=DLC.cov_pow m (tx n f) (qF f) (A9 d);have C:2 ^ (tx n f).length<=2 ^ 18:=cX 's' (by unfold tx;rw[ax];exact CY d);lia
 ·show fin (C6 Pt [qp f,KF (.tab Pt)] O)=_;unfold C6;exact uD (xW rfl (qT (qv (pB rfl) (Y8 d O)) (vE (qT rfl rfl) (WE d O))) (Ra (u Pt O H)))
def Tc{P2:Nat}{f:List D}{O:Ow}{x:j_}{r:List j_}(h:Bo P2 [.tup f] O=.ok (.lst ((x::r).map toT)) O):xY P2 [.tup f] O=.ok (.tup (x.map .str)) O/\C5 P2 [.tup f] O=.ok (.int ((x::r).length:Nat)) O:=by
 constructor
 ·show fin (C4 P2 [qp f,KF (.tab P2)] O)=_;unfold C4;exact uD (pG (xW rfl (pB rfl) h) rfl (zu (i:=0) (ds:=mQ toT (x::r)) 'd'))
 ·show fin (C3 P2 [qp f,KF (.tab P2)] O)=_;unfold C3;exact uD (rp (pB (xW rfl (pB rfl) h)) ((show _=R.ok (D.int ((mQ toT (x::r)).length:Nat)) O from rfl).trans (by rw[ax])))
theorem Lf{α:Type}[LT α](f:∀a:α,¬ a<a)(g:∀a b c:α,a<b->b<c->a<c):∀{l m:List α},l.Pairwise (· < ·)->m.Pairwise (· < ·)->(∀x,x∈l↔x∈m)->l=m
 |[],[],_,_,_=>rfl
 |[],b::m,_,_,h=>by have:=(h b).mpr am;cases this
 |a::l,[],_,_,h=>by have:=(h a).mp am;cases this
 | a::l,b::m,hl,hm,h=>by
  rw[bb] at hl hm;have e:a=b:=by
   rcases aq.mp ((h a).mp am) with z|z
   ·exact z
   ·rcases aq.mp ((h b).mpr am) with w|w
    ·exact w.symm
    ·exact absurd (g _ _ _ (hm.1 a z) (hl.1 b w)) (f _)
  subst e;congr 1;refine Lf f g hl.2 hm.2 λx=>?_;constructor
  ·intro d;rcases aq.mp ((h x).mp (ak _ d)) with z|z
   ·subst z;exact absurd (hl.1 x d) (f x)
   ·exact z
  ·intro d;rcases aq.mp ((h x).mpr (ak _ d)) with z|z
   ·subst z;exact absurd (hm.1 x d) (f x)
   ·exact z
def z7E:(om.all λcs=>decide ((pR cs).Pairwise (· < ·)))=qb:=by decide +kernel
def Q8{cs:l_}(h:cs∈om):(pR cs).Pairwise (· < ·):=of_decide_eq_true (aH.mp z7E cs h)
theorem HN{α:Type}[DecidableEq α]:∀{a b:List α},a.Nodup->(∀t∈a,t∈b)->a.length<=b.length
 |[],_,_,_=>ck _
 | x::a,b,n,h=>by
  have c:=h x am;have d:=bq.mp n;have:=HN (b:=b.erase x) d.2 λt f=>(lf (λe:t=x=>d.1 (e▸f))).mpr (h t (ak _ f));rw[jS c] at this;have:=List.length_pos_of_mem c;rw[a7];lia
def q_(l:j_):List j_:=l.foldl (λKB t=>KB++KB.map (· ++ [t])) [[]]
def Eh(l:j_)(t:l_):q_ (l++[t])=q_ l++(q_ l).map (· ++ [t]):=by unfold q_;rw[jB];rfl
def Hs{P:j_->Prop}(h0:P [])(b:∀l t,P l->P (l++[t])):∀l,P l:=λl=>by
 have:∀k(l:j_),l.length=k->P l:=λk=>by
  induction k with
  |zero=>intro l h;rw[cx.mp h];exact h0
  | succ k ih=>
   intro l h;rcases List.eq_nil_or_concat l with rfl|⟨a,t,rfl⟩
   ·cases h
   ·rw[List.concat_eq_append] at h ⊢;exact b a t (ih a ⇑h)
 exact this _ l rfl
def Rt(l:j_):(q_ l).length=2 ^ l.length:=Hs (P:=λl=>(q_ l).length=2 ^ l.length) rfl (λl t a=>by
 rw[Eh,aB,ax,a,aB];show _=2 ^ (l.length+1);rw[l7];lia) l
def KN(l:j_):∀r∈q_ l,r.Sublist l:=Hs (P:=λl=>∀r∈q_ l,r.Sublist l) (λr a=>by
 have:r=[]:=by simpa [q_] using a
 rw[this];exact mB _) (λl t b r a=>by
 rw[Eh] at a;rcases aS.mp a with h|h
 ·exact(b r h).trans (List.sublist_append_left _ _)
 ·obtain⟨c,d,rfl⟩:=ay.mp h;exact(b c d).append (mB _)) l
def z8h(p:l_->Bool)(l:j_):l.filter p∈q_ l:=Hs (P:=λl=>l.filter p∈q_ l) (by simp[q_]) (λl t a=>by
 rw[Eh,g7];by_cases h:p t=qb
 ·rw[cQ h];exact aw _ (ay.mpr ⟨_,a,rfl⟩)
 ·rw[cP h,j7,bL];exact bN _ a) l
def tW(l:l_):Nat:=(l.map λp=>2 ^ p).sum
def XM{l:l_}(d:l.Pairwise (· < ·)){N:Nat}(f:∀p∈l,p<N):tW l=DLB.mkN (λp=>l.contains p) N:=by
 have e:l=(a9 N).filter λp=>l.contains p:=Lf (α:=Nat) (λa=>bU a) (λa b c=>Nat.lt_trans) d (kw.filter _) λx=>by
  rw[bw,cq,cu];exact⟨λh=>⟨f x h,h⟩,λh=>h.2⟩
 have h:=DLB.sum_mkN (λp=>l.contains p) N;rw[<- e] at h;have:(l.map λi=>((2 ^ i:Nat):Int)).sum=((tW l:Nat):Int):=by
  unfold tW;clear h e d f
  induction l with
  |nil=>rfl
  |cons x l ih=>rw[bz,fF,ih,bz,fF];lia
 rw[this] at h;lia
def G7{l:l_}(a:l.Pairwise (· < ·))(i:Nat):(tW l).testBit i=l.contains i:=by
 obtain⟨N,b⟩:∃N,∀p∈l,p<N:=by
  clear a
  induction l with
  |nil=>exact⟨0,λ_ h=>(bG h).elim⟩
  | cons x l ih=>
   obtain⟨N,h⟩:=ih;refine⟨N+x+1,λp hp=>?_⟩;rcases aq.mp hp with rfl|hp
   ·lia
   ·have:=h p hp;lia
 rw[XM a b,DLB.mkN_bit];cases c:l.contains i with
 |false=>rw[kK]
 |true=>rw[decide_eq_true (b i (cu.mp c))];rfl
def zJ(r:j_):Nat:=DLB.orM (λt=>tW (pR t)) r
def AG(ps:l_)(r:j_):Bool:=(zJ r &&& tW ps)==tW ps
def QV{a:l_}(d:a.Pairwise (· < ·)){r:j_}(e:∀t∈r,t∈om):AG a r=qb ↔ ∀p∈a,∃t∈r,p∈pR t:=by
 unfold AG zJ;rw[beq_iff_eq];have b:∀i,(DLB.orM (λt=>tW (pR t)) r).testBit i=qb ↔ ∃t∈r,i∈pR t:=λi=>by
  rw[DLB.orM_bit,er];exact⟨λ⟨t,c,q⟩=>⟨t,c,by rw[G7 (Q8 (e t c))] at q;exact cu.mp q⟩,λ⟨t,c,q⟩=>⟨t,c,by rw[G7 (Q8 (e t c))];exact cu.mpr q⟩⟩
 constructor
 ·intro h p f;have:(DLB.orM (λt=>tW (pR t)) r &&& tW a).testBit p=qb:=by rw[h,G7 d];exact cu.mpr f
  rw[mZ,bi] at this;exact(b p).mp this.1
 ·intro h;refine Nat.eq_of_testBit_eq λi=>?_;rw[mZ,G7 d];cases g:a.contains i with
  |false=>rw[kK]
  |true=>rw[lv];exact(b i).mpr (h i (cu.mp g))
def Xi(a b:Nat):io (a:Int) (b:Int)=((a ||| b:Nat):Int):=by
 have d:decide ((0:Int) <= -(a:Int)-1)=qj:=decide_eq_false 'o';have e:decide ((0:Int) <= -(b:Int)-1)=qj:=decide_eq_false 'o';show -(match decide ((0:Int) <= -(a:Int)-1),decide ((0:Int) <= -(b:Int)-1) with|true,qb=>_|true,qj=>_|false,qb=>_|false,qj=>-((((-(-(a:Int)-1)-1).toNat ||| (-(-(b:Int)-1)-1).toNat:Nat)):Int)-1)-1=_;rw[d,e];have f:(-(-(a:Int)-1)-1).toNat=a:=by lia
 have g:(-(-(b:Int)-1)-1).toNat=b:=by lia
 dsimp only;rw[f,g];show -(-((a ||| b:Nat):Int)-1)-1=_;generalize a ||| b=c;lia
def orF(O:Ow)(a b:Nat):fI IV O (.int (a:Nat)) (.int (b:Nat))=.ok (.int ((a ||| b:Nat))) O:=by show R.ok (D.int (io (a:Int) (b:Int))) O=_;rw[Xi]
def V5(O:Ow)(a b:Nat):fI DC O (.int (a:Nat)) (.int (b:Nat))=.ok (.int ((a &&& b:Nat))) O:=by show R.ok (D.int (g8 (a:Int) (b:Int))) O=_;have c:decide ((0:Int)<=(a:Int))=qb:=decide_eq_true 'o';have d:decide ((0:Int)<=(b:Int))=qb:=decide_eq_true 'o';unfold g8;rw[c,d];rfl
def NQ(O:Ow){n:Nat}(h:n<=1000000):fI ug O (.int 1) (.int (n:Nat))=.ok (.int ((2 ^ n:Nat))) O:=by show(match ug 1 (n:Nat) with|some d=>R.ok d O|none=>.bad)=_;unfold ug;rw[qL ⟨by lia,by lia,by decide⟩];simp
def Qu(O:Ow)(l:l_):yC O [.lst (l.map λp=>D.int ((2 ^ p:Nat):Int))]=.ok (.int ((tW l:Nat))) O:=by
 show(match xw (l.map λp=>D.int ((2 ^ p:Nat):Int)) with|some ns=>R.ok (D.int ns.sum) O|none=>.bad)=_;have:(l.map λp=>D.int ((2 ^ p:Nat):Int))=(l.map λp=>((2 ^ p:Nat):Int)).map D.int:=by rw[bH];rfl
 rw[this,Ew];show R.ok (D.int _) O=_;have e:(l.map λp=>((2 ^ p:Nat):Int)).sum=((tW l:Nat):Int):=by
  unfold tW;clear this
  induction l with
  |nil=>rfl
  |cons x l ih=>rw[bz,fF,ih,bz,fF];lia
 rw[e]
def uh(r:j_):D:=.tup [.tup (r.map .str),.int ((zJ r:Nat))]
def YC(O:Ow){r:j_}(t:l_)(h:r.length<=1000):A1 O (.tup (r.map .str)) (.tup [.str t])=.ok (.tup ((r++[t]).map .str)) O:=by
 cases r with
 |nil=>rfl
 | cons x l=>
  show(if (x::l).map D.str≠[]/\((x::l).map D.str).length+[D.str t].length<=4000000 then R.ok (D.tup ((x::l).map D.str++[.str t])) O else .bad)=_;rw[qL ⟨by simp,by rw[ax];simp only[a7,fJ] at *;lia⟩,dq];rfl
def Y_(r:j_)(t:l_):zJ (r++[t])=zJ r ||| tW (pR t):=DLB.orM_app _ _ _
def zg1{l:j_}:l.Nodup->(q_ l).Nodup:=Hs (P:=λl=>l.Nodup->(q_ l).Nodup) (λ_=>d7 _ _) (λl t d h=>by
 obtain⟨f,_,g⟩:=bF.mp h;rw[Eh];refine bF.mpr ⟨d f,ee.mpr ((d f).imp λ{a b}z e=>z (List.append_cancel_right e)),λa i b j e=>?_⟩;obtain⟨c,k,rfl⟩:=ay.mp j;have:t∈a:=by rw[e];simp
 exact g t ((KN l a i).subset this) t 'd' rfl) l
section
variable{n:Nat}{f:List D}(hf:Fn n f){L:List j_}{a b:Nat}(hl:Nn n f L a b)
def rows(n:Nat)(f:List D):List j_:=(q_ (qU n f)).filter (AG (qF f))
def Sr(f:List D):(qF f).Pairwise (· < ·):=kw.filter _
include hf in
theorem Zo:(rows n f).Nodup:=(zg1 (CC (C1 hf))).filter _
include hf in
theorem Hr{x:j_}:x∈rows n f↔x.Pairwise (· < ·)/\xP (qF f) (qU n f) x:=by
 constructor
 ·intro h;obtain⟨i,g⟩:=bw.mp h;have j:=KN _ x i;exact⟨(C1 hf).sublist j,λt d=>j.subset d,(QV (Sr f) λt d=>C2 hf t (j.subset d)).mp g⟩
 ·rintro⟨i,g,k⟩;refine bw.mpr ⟨?_,(QV (Sr f) λt d=>C2 hf t (g t d)).mpr k⟩;have:=z8h (λt=>decide (t∈x)) (qU n f);have e:(qU n f).filter (λt=>decide (t∈x))=x:=Lf (λa=>gd a) (λa b c=>iw) ((C1 hf).filter _) i λt=>by
   rw[bw,decide_eq_true_eq];exact⟨λh=>h.2,λh=>⟨g t h,h⟩⟩
  rwa [e] at this
def um(r:j_):TS.K3:=(((r.length:Nat):Int),((u4 r:Nat):Int),r)
def zl(n:Nat)(f:List D):List TS.K3:=(rows n f).map um
include hf hl in
theorem zdY{x:j_}{r:List j_}(e:L=x::r):∃d,xQ (zl n f)=(((a:Nat):Int),((b:Nat):Int),x)::d:=by
 have o:x∈L:=by rw[e];exact am
 obtain⟨p,q,s,t⟩:=(hl.mem x).mp o;have c:um x∈xQ (zl n f):=(CS _).mem_iff.mpr (ay.mpr ⟨x,(Hr hf).mpr ⟨p,q⟩,rfl⟩);have u:um x=(((a:Nat):Int),((b:Nat):Int),x):=by unfold um;rw[s,t]
 have i:=KG (zl n f);cases g:xQ (zl n f) with
 |nil=>rw[g] at c;cases c
 | cons y d=>
  have v:y∈zl n f:=(CS _).mem_iff.mp (by rw[g];exact am);rw[g] at i c;obtain⟨z,w,rfl⟩:=ay.mp v;obtain⟨j,k⟩:=(Hr hf).mp w;have A:TS.lt3 (um x) (um z)=qj:=by
   rcases aq.mp c with h|h
   ·rw[h];exact TS.lt3_irr _
   ·exact(bb.mp i).1 _ h
  have B:TS.lt3 (um z) (um x)=qj:=by
   cases h:TS.lt3 (um z) (um x) with
   |false=>rfl
   | true=>
    have h:=TS.lt3_iff.mp h;unfold um at h;dsimp only at h;have C:=hl.low z (CC j) k;rcases h with h|⟨h,h|⟨E,l⟩⟩
    ·lia
    ·lia
    ·have Iz:z∈L:=(hl.mem z).mpr ⟨j,k,by lia,by lia⟩;have m:=hl.srt;rw[e] at m Iz;rcases aq.mp Iz with rfl|Iz
     ·exact absurd l (TS.llt_irrefl _)
     ·exact absurd l ((bb.mp m).1 z Iz)
  rw[TS.lt3_tot B A,u];exact⟨d,rfl⟩
def asg(a b:Nat)(k:TS.K3):Bool:=k.1==((a:Nat):Int)&&k.2.1==((b:Nat):Int)
include hf hl in
theorem Zi:((xQ (zl n f)).filter (asg a b)).length=L.length:=by
 rw[((CS (zl n f)).filter (asg a b)).length_eq];unfold zl;rw[List.filter_map,ax];have g:∀x,x∈(rows n f).filter (asg a b∘um)↔x∈L:=λx=>by
  rw[bw,Hr hf,hl.mem];show _/\(((x.length:Nat):Int)==((a:Nat):Int)&&((u4 x:Nat):Int)==((b:Nat):Int))=qb↔_;rw[bi,beq_iff_eq,beq_iff_eq];constructor
  ·rintro⟨⟨c,d⟩,h,i⟩;exact⟨c,d,by lia,by lia⟩
  ·rintro⟨c,d,h,i⟩;exact⟨⟨c,d⟩,by lia,by lia⟩
 exact j6 (HN ((Zo hf).filter _) λx e=>(g x).mp e) (HN hl.nd λx e=>(g x).mpr e)
include hf in
theorem zef:(rows n f).length<=262144:=by have c:=bo (AG (qF f)) (q_ (qU n f));rw[Rt] at c;have d:2 ^ (qU n f).length<=2 ^ 18:=cX 's' (CY hf);unfold rows;lia
end
def Xo(O:Ow)(x:Option D):(om.map λcs=>LJ [x,qJ cs] O)=om.map λcs=>R.ok (.int (sg cs:Nat)) O:=by kernel_rfl
def zaT{l:j_}(h:∀t∈l,t∈om)(c:l.length<=1000)(O:Ow):HX [.tup (l.map .str)] O=.ok (.int (u4 l:Nat)) O:=by
 have a:=vZ (o:=qj) (ext:=1) (i:=1) (it0:=pY m_) (σ:=[qp (l.map .str)]) (O0:=O) (O:=O) (l:=l) (inj:=D.str) (te:=LJ) (e:=λt=>D.int (xE t)) (τ:=λt=>[qp (l.map .str),qJ t]) (Kj rfl) 'o' (λ_=>rfl) (λt b=>de.mp (Xo O _) t (h t b));show fin (HY [qp (l.map .str)] O)=_;unfold HY;refine uD (rp (pB a) ?_);show(match xw (l.map λt=>D.int (xE t)) with|some ns=>R.ok (D.int ns.sum) O|none=>.bad)=_;have:(l.map λt=>D.int (xE t))=(l.map xE).map D.int:=by rw[bH];rfl
 rw[this,Ew];show R.ok (D.int (rq l)) O=_;rw[DW]
def NH(O:Ow)(i j:Int)(d:D){σ:Sg}{t:DE}(h:t σ O=.ok (.tup [.int i,.int j,d]) O):yY t v7 (xx uU) σ O=.ok (.tup [.int i,.int j]) O:=by show((t σ O).bnd _)=_;rw[h];rfl
def Yh(O:Ow)(i j a b:Int):pA qC O (.tup [.int i,.int j]) (.tup [.int a,.int b])=.ok (.bl (i==a&&j==b)) O:=(OC O rfl rfl 'd').1
section
variable{n:Nat}{f:List D}(hf:Fn n f){L:List j_}{a b:Nat}(hl:Nn n f L a b){x:j_}{r:List j_}(e:L=x::r){O:Ow}(hO:Pl O)
include hf hl e hO
theorem ze3:Lp [.tup f] O=.ok (.tup [.tup (x.map .str),.int (L.length:Nat)]) O:=by
 obtain⟨P,A⟩:=zdY hf hl e;have B:=Zi hf hl;have Q:=C2 hf;have Mo:=CY hf;have hnd:=CC (C1 hf);have U:=zef hf;have V:=λx=>Hr hf (x:=x);have L7:=z4H hf hO;unfold zl at A B;unfold rows at A B U V;generalize hg:qU n f=ts at *;let F:Option D:=qp f;let T:Option D:=qh (ts.map .str);let M:Option D:=qh (ts.map λt=>D.int ((tW (pR t):Nat):Int));let W:Option D:=qd ((tW (qF f):Nat):Int);have hm:pK qj 1 (pY o7) (.one 7) [] [] (pf yC (b_ (pK qj 1 (pY (o6 1 yM (b_ sM f_))) (.one 8) [] [] (h_ (fI ug) qD (rB 8))) f_)) [F,T,KM,KM,KM,KM,KM] O=.ok (.lst (ts.map λt=>D.int ((tW (pR t):Nat):Int))) O:=
  (vZ (o:=qj) (ext:=1) (i:=7) (l:=ts) (inj:=D.str) (e:=λt=>D.int ((tW (pR t):Nat):Int)) (τ:=λt=>[F,T,KM,KM,KM,KM,KM,qJ t]) (tJ rfl) 'o' (λ_=>rfl) (λt s=>by
   have C:=Q t s;have Vl:=D5 C;refine rp (pB ((vZ (o:=qj) (ext:=1) (i:=8) (l:=pR t) (inj:=λ(p:Nat)=>D.int (p:Int)) (e:=λp=>D.int ((2 ^ p:Nat):Int)) (τ:=λ(p:Nat)=>[F,T,KM,KM,KM,KM,KM,qJ t,qd (p:Int)]) (tJ (qv (pB rfl) (HP C hO))) 'o' (λ_=>rfl) (λp E=>?_)).trans rfl)) (Qu O (pR t));have qM:=(tt C).lt p E;have:=Aj (tt C).l4;exact pG rfl rfl (NQ O 'o'))).trans rfl
 have hw:pf yC (b_ (pK qj 1 (pY (o6 1 HH (b_ m_ f_))) (.one 7) [] [] (h_ (fI ug) qD sM)) f_) [F,T,M,KM,KM,KM,KM] O=.ok (.int ((tW (qF f):Nat):Int)) O:=by
  have Vl:=RB hf;refine rp (pB ((vZ (o:=qj) (ext:=1) (i:=7) (l:=qF f) (inj:=λ(p:Nat)=>D.int (p:Int)) (e:=λp=>D.int ((2 ^ p:Nat):Int)) (τ:=λ(p:Nat)=>[F,T,M,KM,KM,KM,KM,qd (p:Int)]) (tJ (qv (pB rfl) (ZU hf O))) 'o' (λ_=>rfl) (λp E=>pG rfl rfl (NQ O ?_))).trans rfl)) (Qu O (qF f));have d:=(oF.mp E).1;have G:=hf.len;have:=Aj hf.n4;lia
 have u:∀i,(q_ (ts.take i)).length<=262144:=λi=>by
  rw[Rt];have d:=lh i ts;exact aF (cX 's' (aF d Mo)) 's'
 have H:∀{i:Nat}{r:j_},r∈q_ (ts.take i)->r.length<=1000:=λ{i r}m=>by
  have d:=(KN _ r m).length_le;have G:=lh i ts;lia
 obtain⟨σ',c,X,⟨y,rfl⟩,eO⟩:=DY (i:=5) (it:=rU (b_ (pf qB (b_ o7 f_)) f_)) (body:=N3) (σ:=[F,T,M,W,KF (.lst [uh []]),KM,KM]) (O0:=O) (O:=O) (l:=a9 ts.length) (inj:=λ(i:Nat)=>D.int (i:Int)) (zx (pB (rp (pB rfl) ((show _=R.ok (D.int ((ts.map D.str).length:Nat)) O from rfl).trans (by rw[ax])))) 'o')
  (λj σ c=>(∃y,σ=[F,T,M,W,qh ((q_ (ts.take j)).map uh),y,KM])/\c=O) (λj a σ c ha hI=>by
   obtain⟨⟨y,rfl⟩,rfl⟩:=hI;obtain⟨v,e⟩:=al.mp ha;rw[List.getElem_range] at e;subst e;have v:j<ts.length:=by rwa [cM] at v
   have s:ts.take (j+1)=ts.take j++[ts[j]]:=by rw[jb,aC v];rfl
   have f1:=u j;have hc:pK qj 2 (pY rA) (.two 7 8) [] [] Uv [F,T,M,W,qh ((q_ (ts.take j)).map uh),qd (j:Nat),KM] c=.ok (.lst (((q_ (ts.take j)).map (· ++ [ts[j]])).map uh)) c:=by
    refine(CV (o:=qj) (ext:=2) (g:=.two 7 8) (ts:=[]) (src:=.val ((q_ (ts.take j)).map uh)) (l:=q_ (ts.take j)) (inj:=uh) (p:=λ_=>qb) (e:=λr=>uh (r++[ts[j]])) (τ:=λr=>[F,T,M,W,qh ((q_ (ts.take j)).map uh),qd (j:Nat),KM,qp (r.map .str),qd ((zJ r:Nat))]) (tJ rfl) (λ_=>rfl) (by show((q_ (ts.take j)).map uh).length=_;rw[ax]) 'o' (λ_ _=>rfl) (λ_ _=>rfl) (λr m _=>?_)).trans ?_
    ·have I:h_ pX o7 ue [F,T,M,W,qh ((q_ (ts.take j)).map uh),qd (j:Nat),KM,qp (r.map .str),qd ((zJ r:Nat))] c=.ok (.str ts[j]) c:=pG rfl rfl ((zu (by rw[ax];exact v)).trans (by rw[fC]));have J:h_ pX qc ue [F,T,M,W,qh ((q_ (ts.take j)).map uh),qd (j:Nat),KM,qp (r.map .str),qd ((zJ r:Nat))] c=.ok (.int ((tW (pR ts[j]):Nat))) c:=pG rfl rfl ((zu (by rw[ax];exact v)).trans (by rw[fC]));refine(GU (qT (pG rfl (GU (pB I) (by show 1<=4000000;decide)) (YC c _ (H m))) (pG rfl J (orF c _ _))) (by show 2<=4000000;decide)).trans ?_;unfold uh;rw[Y_]
    ·rw[i5.mpr (λ_ _=>rfl),bH];rfl
   refine⟨_,_,G6 (pG rfl hc ?_),⟨qd (j:Nat),rfl⟩,rfl⟩;show(if _ then R.ok (D.lst (_++_)) c else .bad)=_;rw[qL (by rw[ax,ax,ax];lia),<- dq,s,Eh]) ⟨⟨KM,rfl⟩,rfl⟩
 rw[cM,gk,eO] at X;have f2:=u ts.length;rw[gk] at f2;have ym:pK qj 2 (pY rA) (.two 7 8) [(pV (h_ (pA qC) (h_ (fI DC) (rB 8) qI) qI))] [] sM [F,T,M,W,qh ((q_ ts).map uh),y,KM] O=.ok (.lst (((q_ ts).filter (AG (qF f))).map toT)) O:=by
  refine(CV (o:=qj) (ext:=2) (g:=.two 7 8) (src:=.val ((q_ ts).map uh)) (l:=q_ ts) (inj:=uh) (p:=AG (qF f)) (e:=toT) (τ:=λr=>[F,T,M,W,qh ((q_ ts).map uh),y,KM,qp (r.map .str),qd ((zJ r:Nat))]) (tJ rfl) (λ_=>rfl) (by show((q_ ts).map uh).length=_;rw[ax]) 'o' (λ_ _=>rfl) (λr m=>KE ?_) (λr m _=>rfl)).trans rfl;refine tP (pG (pG rfl rfl (V5 O _ _)) rfl ((Nb O _ _).trans ?_));congr 2;unfold AG;rw[eF,beq_iff_eq,beq_iff_eq];lia
 generalize hR:(q_ ts).filter (AG (qF f))=q at *;let w:Option D:=qh (q.map toT);have Y:pf D1 (b_ (pK qj 1 (pY rA) (.one 7) [] [] (sJ (b_ (pf qB (b_ sM f_)) (b_ (o6 1 HX (b_ sM f_)) (b_ sM f_))))) f_) [F,T,M,W,w,y,KM] O=.ok (.lst ((xQ (q.map um)).map to3)) O:=by
  refine rp (pB ((vZ (o:=qj) (ext:=1) (i:=7) (l:=q) (inj:=toT) (e:=λr=>to3 (um r)) (τ:=λr=>[F,T,M,W,w,y,KM,qp (r.map .str)]) (tJ rfl) 'o' (λ_=>rfl) (λr m=>?_)).trans rfl)) ?_
  ·have d:=(V r).mp m;have G:r.length<=1000:=by
    have:=HN (CC d.1) d.2.1;lia
   exact GU (Hv (rp (pB rfl) ((Hw O _).trans (by rw[ax];rfl))) (qT (qv (pB rfl) (zaT (λt s=>Q t (d.2.1 t s)) G O)) rfl)) (by show 3<=4000000;decide)
  ·show(match AN (q.map λr=>to3 (um r)) with|some pN=>(if pN.length<=4000000 then R.ok (D.lst ((xQ pN).map to3)) O else .bad)|none=>.bad)=_;rw[show(q.map λr=>to3 (um r))=(q.map um).map to3 by rw[bH];rfl,Ry];dsimp only;rw[qL (by rw[ax];lia)]
 rw[A] at Y B;have hS:(xQ (q.map um)).length<=262144:=by rw[(CS _).length_eq,ax];exact U
 rw[A] at hS;generalize K:(((a:Nat):Int),((b:Nat):Int),x)::P=S at *;let N:Option D:=qh (S.map to3);have Z:∀{τ:Sg},rB 6 τ O=.ok (.lst (S.map to3)) O->h_ pX xu qE τ O=.ok (.tup [.int (a:Nat),.int (b:Nat),.tup (x.map .str)]) O:=λh=>by
  refine pG h rfl ?_;rw[<- K];exact zu (i:=0) (ds:=mQ to3 ((((a:Nat):Int),((b:Nat):Int),x)::P)) 'd'
 have z:pf qB (b_ (pK qj 1 (pY xu) (.one 7) [(pV (h_ (pA qC) (yY sM v7 (xx uU)) (yY (h_ pX xu qE) v7 (xx uU))))] [] sM) f_) [F,T,M,W,w,y,N] O=.ok (.int (L.length:Nat)) O:=by
  refine rp (pB (xS (o:=qj) (ext:=1) (i:=7) (l:=S) (inj:=to3) (p:=asg a b) (e:=to3) (τ:=λk=>[F,T,M,W,w,y,N,KF (to3 k)]) (tJ rfl) 'o' (λ_=>rfl) (λk hk=>tP (pG (NH O _ _ _ rfl) (NH O _ _ _ (Z rfl)) (Yh O _ _ _ _))) (λ_ _ _=>rfl))) ?_;show R.ok (D.int ((((S.filter (asg a b)).map to3).length:Nat):Int)) O=_;rw[ax,B]
 have Mt:pL (sJ (b_ (h_ pX (h_ pX xu qE) uU) (b_ (pf qB (b_ (pK qj 1 (pY xu) (.one 7) [(pV (h_ (pA qC) (yY sM v7 (xx uU)) (yY (h_ pX xu qE) v7 (xx uU))))] [] sM) f_)) f_))) [F,T,M,W,w,y,N] O=.rt (.tup [.tup (x.map .str),.int (L.length:Nat)]) O:=
  uE (GU (qT (pG (Z rfl) rfl rfl) z) (by show 2<=4000000;decide))
 show fin (Lw [F,KM,KM,KM,KM,KM,KM] O)=_;unfold Lw;exact uN (rK (x:=.lst (ts.map .str)) (qv (pB rfl) L7) (rK (i:=2) hm (rK (i:=3) hw (rK (i:=4) (x:=.lst [uh []]) (O1:=O) rfl (xA X (rK (i:=4) ym (rK (i:=6) Y Mt)))))))
end
def zer(O:Ow):(om.map λcs=>EB 2 [.str cs,.str cs] O)=om.map λ_=>R.ok (D.bl qb) O:=by kernel_rfl
def XW{l:j_}(d:∀t∈l,t∈om)(r:l.length<=1000)(O:Ow):EF [.tup (l.map .str),.tup (l.map .str)] O=.ok (.bl qb) O:=by
 let X:Option D:=qp (l.map .str);have f:∀i,(Src.zip (.val (l.map D.str)) (.val (l.map D.str))).get O i=(l.map λt=>D.tup [.str t,.str t])[i]?:=λi=>by
  show(match (l.map D.str)[i]?,(l.map D.str)[i]? with|some x,KF y=>KF (D.tup [x,y])|_,_=>KM)=_;rw[bO,bO];cases l[i]?<;>rfl
 have j:pK qj 2 (DP (b_ m_ (b_ o7 f_))) (.two 2 3) [] [] (o6 2 (EB 2) (b_ qc (b_ qI f_))) [X,X] O=.ok (.lst (l.map λ_=>D.bl qb)) O:=by
  refine(CV (o:=qj) (ext:=2) (g:=.two 2 3) (ts:=[]) (l:=l) (inj:=λt=>D.tup [.str t,.str t]) (p:=λ_=>qb) (e:=λ_=>.bl qb) (τ:=λt=>[X,X,qJ t,qJ t]) (show DP (b_ m_ (b_ o7 f_)) [X,X] O=.ok (.zip (.val (l.map .str)) (.val (l.map .str))) O from rfl) f (by show min (l.map D.str).length (l.map D.str).length=_;rw[ax];lia) 'o' (λ_ _=>rfl) (λ_ _=>rfl) (λt h _=>qv (qT rfl rfl) (de.mp (zer O) t (d t h)))).trans ?_;rw[i5.mpr (λ_ _=>rfl)];rfl
 show fin (EH _ [X,X] O)=_;unfold EH;have c:∀b:Bool,pA rW O (.bl b) (.bl b)=.ok (.bl qj) O:=λb=>by cases b<;>kernel_rfl
 have k:Ab (pV (h_ (pA rW) (uf "tuple" m_) (uf "tuple" o7))) (pV (h_ (pA rW) (uf "list" m_) (uf "list" o7))) [X,X] O=.ok qj O:=J9 (a:=qj) (b:=qj) (tP (pG rfl rfl (c qb))) λ_=>tP (pG rfl rfl (c qj));have m:pV (h_ (pA rW) (pf qB (b_ m_ f_)) (pf qB (b_ o7 f_))) [X,X] O=.ok qj O:=tP (pG (rp (pB rfl) (Hw O _)) (rp (pB rfl) (Hw O _)) ((neI O _ _).trans 'd'));have n:sN (GJ "tuple" "list" o7) [X,X] O=.ok qb O:=rfl;have q:z_ O [.lst (l.map λ_=>D.bl qb)]=.ok (.bl qb) O:=(K1 O l λ_=>qb).trans 'd';refine uN (Ah n ?_);exact vC k (vC m (uE (rp (pB j) q)))
def zdD(O:Ow)(i:Int):EF [.int i,.int i] O=.ok (.bl qb) O:=by show fin (EH _ [qd i,qd i] O)=_;unfold EH;exact uN (vC (O1:=O) (yJ (b:=qj) rfl) (uE ((Kl (a:=qb) (b:=qb) (pG rfl rfl ((Nb O i i).trans 'd')) λ_=>rfl).trans rfl)))
section
variable{σ:Sg}{O O1:Ow}{t u:DE}{tA:DA}{c:Nat}
def Qs(h:t σ O=.exc c O1):b_ t tA σ O=.exc c O1:=by show((t σ O).bnd _)=_;rw[h];rfl
def W3{n:Nat}{F:pD}(h:tA σ O=.exc c O1):o6 n F tA σ O=.exc c O1:=by show((tA σ O).bnd _)=_;rw[h];rfl
def Kh{n a P:Nat}{F:pD}(b:σ[a]?=KF (KF (.tab P)))(h:o6 n F tA σ O=.exc c O1):rJ P a n F tA σ O=.exc c O1:=by unfold rJ;rw[b];dsimp only;rw[qL rfl];exact h
def Yq{f:Ow->D->D->R D}(h:t σ O=.exc c O1):h_ f t u σ O=.exc c O1:=by show((t σ O).bnd _)=_;rw[h];rfl
def zei{f:Ow->List D->R D}(h:tA σ O=.exc c O1):pf f tA σ O=.exc c O1:=by show((tA σ O).bnd _)=_;rw[h];rfl
def Km(h:t σ O=.exc c O1):fin (pL t σ O)=.exc c O1:=by show fin ((t σ O).bnS _)=_;rw[h];rfl
end
def N8:List D:=[.non,.int 0,.tup [],.tup [.int 0],.tup [.int 0,.int 2],.lst [.int 0,.int 1],.tup [.int 0,.bl qb],.str [48,49]]
def zdI(O:Ow):(N8.map λd=>EI [d] O)=N8.map λ_=>R.exc 0 O:=by kernel_rfl
def SE(P2:Nat)(O:Ow){d:D}(h:d∈N8):Bo P2 [d] O=.exc 0 O:=by show fin (C6 P2 [KF d,KF (.tab P2)] O)=_;unfold C6;exact Km (Kh rfl (W3 (Qs ((DZ (pB rfl) rfl).trans (de.mp (zdI O) d h)))))
def zdN(P2:Nat)(O:Ow){d:D}(h:d∈N8):xY P2 [d] O=.exc 0 O:=by show fin (C4 P2 [KF d,KF (.tab P2)] O)=_;unfold C4;exact Km (Yq (Kh rfl ((DZ (pB rfl) rfl).trans (SE P2 O h))))
def zd9(P2:Nat)(O:Ow){d:D}(h:d∈N8):C5 P2 [d] O=.exc 0 O:=by show fin (C3 P2 [KF d,KF (.tab P2)] O)=_;unfold C3;exact Km (zei (Qs (Kh rfl ((DZ (pB rfl) rfl).trans (SE P2 O h)))))
def Ws{t:DE}{σ:Sg}{O O1:Ow}{i j:Nat}{x y:D}(h:t σ O=.ok (.tup [x,y]) O1):Gu (.two i j) t σ O=.nx ((σ.set i (KF x)).set j (KF y)) O1:=by show((t σ O).bnS _)=_;rw[h];rfl
def zdP{Pt P2:Nat}{ns:List Int}{k:Nat}{O:Ow}(K:Pl O){y2 y3 y4 y5 y6:Option D}:
  ∃M P Q R T v,GK Pt P2 [qh (ns.map .int),qd (k:Int),y2,y3,y4,y5,y6,KF (.tab Pt),KF (.tab P2)] O=.nx [qh (ns.map .int),qd (k:Int),M,P,Q,R,T,KF (.tab Pt),KF (.tab P2)] v/\Pl v:=by
 let A:Option D:=qh (ns.map .int);let B:Option D:=qd (k:Int);let U:Option D:=KF (.tab Pt);let V:Option D:=KF (.tab P2);obtain⟨s,b,W,Y⟩:=zdo (ns:=ns) (k:=k) O;have w:Pl (O++[[.int s,.bl b]]):=K.one (NY s b);generalize hm:O.length=m at *;generalize Z:O++[[D.int s,D.bl b]]=O1 at *;obtain⟨n,f,z,i,f1,f2⟩:=z87 w Y;have j:=w.set m z b;generalize FQ:O1.set m [D.int z,D.bl b]=d at *;obtain⟨L,a,c,h,l⟩:=Pd i;obtain⟨x,r,e⟩:∃x r,L=x::r:=by
  cases hq:L with
  |nil=>exact absurd hq h.ne
  |cons x r=>exact⟨x,r,rfl⟩
 have C:=(h.mem x).mp (by rw[e];exact am);have o:∀t∈x,t∈om:=λt ht=>C2 i t (C.2.1.1 t ht);have p:x.length<=1000:=by have:=h.a18;have:=C.2.2.1;lia
 have MH:=ze3 i h e j;have E:=l P2 d j;rw[e] at E;obtain⟨g1,G⟩:=Tc E;rw[<- e] at G;obtain⟨q,H,r1,r2,r3⟩:=Bg f2 (k:=8) 's' 's';have I:q<N8.length:=r1;have u:=j.set m H b;have J:=el I;generalize hO6:d.set m [D.int H,D.bl b]=g at *;let S:Option D:=uq m;let F:Option D:=qp f;let X:Option D:=qp (x.map .str);let N:Option D:=qd (L.length:Nat);refine⟨S,F,X,N,KF N8[q],g,?_,u⟩;unfold GK;refine rK (x:=.own m) (vE (qT rfl rfl) W) (rK (x:=.tup f) (O1:=d) (vE (pB rfl) f1) (xA (σ':=[A,B,S,F,X,N,y6,U,V]) (O1:=d) ((Ws (vE (pB rfl) MH)).trans rfl) ?_));refine vC (O1:=d) (J9 (a:=qj) (b:=qj) (Al (b:=qb) (yJ (vE (qT (xW rfl (pB rfl) g1) rfl) (XW o p d)))) λ_=>Al (b:=qb) (yJ (vE (qT (xW rfl (pB rfl) G) rfl) (zdD d _)))) ?_;refine rK (x:=N8[q]) (O1:=g) (pG (x:=.lst N8) rfl (vE (qT rfl rfl) r2) (zu I)) ?_;refine vC (O1:=g) (tP (pG (x:=.lst [.int 0]) (y:=.lst [.int 0]) (P_ rfl (xW rfl (pB rfl) (zdN P2 g J)) (RH _)) rfl (NM _ 0))) ?_;exact(yF (b:=qj) (O1:=g) (tP (pG (x:=.lst [.int 0]) (y:=.lst [.int 0]) (P_ rfl (xW rfl (pB rfl) (zd9 P2 g J)) (RH _)) rfl (NM _ 0)))).trans rfl
def Vr{a b:D}(e:xK a)(f:xK b):Fn 1 [a,b]:=⟨by decide,by decide,rfl,λd c=>by
 simp only[aq,bG,or_false] at c;rcases c with rfl|rfl<;>assumption⟩
def Rn{n:Nat}{f:List D}(i:Fn n f){S:j_}(j:xP (qF f) (qU n f) S)(k:S.Nodup)(l:∀x:j_,x.Pairwise (· < ·)->xP (qF f) (qU n f) x->x.length<=S.length->x=S)(P2:Nat){O:Ow}(m:Pl O):xY P2 [.tup f] O=.ok (.tup (S.map .str)) O:=by
 obtain⟨L,a,b,c,d⟩:=Pd i;have g:=d P2 O m;cases e:L with
 |nil=>exact absurd e c.ne
 | cons x r=>
  rw[e] at g;have h:=(c.mem x).mp (by rw[e];exact am);have:=c.low S k j;rw[(Tc g).1,l x h.1 h.2.1 'o']
def WJ(P2:Nat){O:Ow}(a:Pl O):xY P2 [.tup [.int 0,.int 0]] O=.ok (.tup []) O:=by
 have b:qF [.int 0,.int 0]=[]:=by decide +kernel
 have c:xP (qF [.int 0,.int 0]) (qU 1 [.int 0,.int 0]) []:=by
  rw[b];exact⟨λ_ h=>(bG h).elim,λ_ h=>(bG h).elim⟩
 exact Rn (Vr (.inl rfl) (.inl rfl)) c f8 (λx _ _ h=>cx.mp (Nat.le_zero.mp h)) P2 a
def Wy(P2:Nat){O:Ow}(d:Pl O):xY P2 [.tup [.non,.int 1]] O=.ok (.tup [.str [45]]) O:=by
 have b:qU 1 [.non,.int 1]=[[45]]:=by decide +kernel
 have c:qF [.non,.int 1]=[1]:=by decide +kernel
 have e:xP (qF [.non,.int 1]) (qU 1 [.non,.int 1]) [[45]]:=by
  rw[b,c];exact⟨λt h=>h,λp f=>⟨[45],by simp,by rw[bV.mp f];decide⟩⟩
 refine Rn (Vr (.inr (.inr rfl)) (.inr (.inl rfl))) e (d7 _ _) (λx m a g=>?_) P2 d;rw[b,c] at a;obtain⟨t,i,_⟩:=a.2 1 'd';cases x with
 |nil=>cases i
 | cons y l=>
  have j:l=[]:=cx.mp (by rw[a7,e9] at g;lia);have k:=bV.mp (a.1 y am);rw[j,k]
def pure_law(Pt P2:Nat)(ns:List Int)(n:ns.length<=63):∃O,F_law Pt P2 [.lst (ns.map .int)] []=.ok (.bl qb) O:=by
 let A:Option D:=qh (ns.map .int);let f:Option D:=KF (.tab Pt);let g:Option D:=KF (.tab P2);let h:Sg:=[A,KM,KM,KM,KM,KM,KM,f,g];obtain⟨m,o,p⟩:=zdA n h 3 's' rfl;obtain⟨q,d,r,e,y2,y3,y4,y5,y6,rfl,j⟩:=DY (i:=1) (body:=GK Pt P2) (zx (pB p) o) (λ_ l d=>∃e y2 y3 y4 y5 y6,l=[A,e,y2,y3,y4,y5,y6,f,g]/\Pl d) (λ_ i l d _ s=>by
   obtain⟨e,y2,y3,y4,y5,y6,rfl,t⟩:=s;obtain⟨z,B,C,E,F,G,u,v⟩:=zdP (Pt:=Pt) (P2:=P2) (ns:=ns) (k:=i) t (y2:=y2) (y3:=y3) (y4:=y4) (y5:=y5) (y6:=y6);exact⟨_,_,u,_,_,_,_,_,_,rfl,v⟩) ⟨KM,KM,KM,KM,KM,KM,rfl,λc w=>by cases w⟩
 refine⟨d,?_⟩;show fin (JK Pt P2 h [])=_;unfold JK;refine uN (xA r (uE ((Kl (a:=qb) (b:=qb) (pG (x:=.tup []) (y:=.tup []) (xW rfl (pB rfl) (WJ P2 j)) rfl rfl) λ_=>?_).trans rfl)));exact pG (x:=.tup [.str [45]]) (y:=.tup [.str [45]]) (xW rfl (pB rfl) (Wy P2 j)) rfl rfl
end K12
open PySem PySem.W PyProof.Rows
set_option maxRecDepth 100000 in
set_option maxHeartbeats 0 in
theorem PySem.Challenge.cw_leastterms_k12_least_forms_holds : PySem.Challenge.rw_leastterms_k12_least_forms.Holds := by
 w_on;refine me K12.ws fun LM=>?_;refine PySem.W.holds_openX (q:=K12.Qv) (loose:=K12.Lv) (N:=6986) (Xt:=K12.Xv) (XP:=PySem.W.XL K12.Qv []) (Yf:=(fun s=>(PySem.W.Hook.obs K12.Hk s,decide (0<s.toks)))) (Ya:=(fun w=>(PySem.W.Hook.val K12.Hk w,true))) K12.lw (fun s e=>PySem.W.xl_of s (i3.mp e).1) PySem.W.XL.keeps (by rfl) (by rfl) (by rfl) (fun s e=>PySem.W.recFacts_of (i3.mp e).2) (by rfl) (by first|assumption|decide +kernel) (by decide +kernel) ⟨rfl,rfl,rfl,rfl,rfl,by decide +kernel⟩ ?hw ?hc;(case hw=>w_witness2)
 delta K12.Hk;k_fill
 refine DL.walk2 (xd := "covers") (l:=PySem.Challenge.rw_leastterms_k12_least_forms) (k:=30) (x := "_law_script") (Cl:=K12.Cl) (F:=K12.F_law) rfl rfl ⟨rfl,by decide,by decide⟩ (PySem.W.Hook.of K12.Hk) (PySem.W.Hook.keeps K12.Hk) (fun w h Y=>PySem.W.km_in_of Y) ?R ?S ?F K12.pure_law
 case R=>first|rfl|kernel_rfl
 case S=>first|rfl|kernel_rfl
 case F=>
  intro w mg fa h KX G Ft
  refine' K12.all_mk KX G Ft ⟨'9','9','9','9','9','9','9','9','9','9','9','9','9','9','9','9','9','9','9','9','9','9','9','9','9','9','9','9','9','9','9','9','9','9','9','9','9','9','9','9','9','9','9',bC KX G ?_,bC KX G ?_,bC KX G ?_,bC KX G ?_,bC KX G ?_,bC KX G ?_,bC KX G ?_,bC KX G ?_,bC KX G ?_,bC KX G ?_,bC KX G ?_,bC KX G ?_,bC KX G ?_,bC KX G ?_,bC KX G ?_,bC KX G ?_,bC KX G ?_,bC KX G ?_,K12.gs_mk KX G ?_,K12.gt_mk KX G ?_ ?_ ?_ ?_,cE KX G ?_,cE KX G ?_,cE KX G ?_,cE KX G ?_,cE KX G ?_,cE KX G ?_,cE KX G ?_,cE KX G ?_,cE KX G ?_,cE KX G ?_,?_,?_,?_,?_,?_,?_,?_,?_,?_,?_,?_,?_,?_,?_,?_,?_,?_,?_,?_,?_,?_,DL.xck_of ?_ ?_ ?_ ?_ ?_ ?_ ?_ ?_ ?_ ?_ ?_ ?_ ?_ ?_⟩ ?Ha ?Hl ?_ ?_ ?Ha2 ?Hl2 ?_ ?_ ?_ ?Gh6 ?Gh7 ?Gh4 ?Gh5 ?_
  (case' Ha|Hl|Ha2|Hl2|Gh4|Gh6=>k_is)
  (case Gh5=>rfl)
  (case Gh7=>rfl)
  all_goals first|k_is|kernel_rfl|rfl|skip
end
