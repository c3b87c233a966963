import PyProof.Rows.All
import Wide.All
import OpenK.AllK
import Wide.FinOn
import Lean
import PyProof.EqAt
import PyProof.EqKinds
import PyProof.TupleCall
import PySem.Challenge.RW_leastterms_k89_whole_smooth_forms
noncomputable section
set_option compiler.extract_closed false
set_option Elab.async false
set_option linter.all false
set_option autoImplicit true
set_option relaxedAutoImplicit true
set_option maxRecDepth 100000
open PySem renaming wpAny_bind->aa,Addr->ab,Value->ae,Shared->ag,wpAny_pure->aq,wpAny->ay,Str->az,model->aC,starEach->aP,Program->aQ,Expr->aS,Heap->aV,World->a8,Around->be,bootBuiltins->bu,mainGlobals->bB,Comprehension->bC,mem_of_lookup->bD,wpAny_holding->bK,foldedSetIterable->bM,wpAny_field->bQ,Paired->bR,compareOp->bX,wpAny_mono->cj,cellsFrom->cr,wpAny_setField_rec->cz,wpAny_call_entry->cB,Scope->cG,wpAny_callSpecial?_slot->cH,wpAny_truthy_bool->cP,NameKind->cT,importedModules->cV,wpAny_seqItems->dh,wpAny_newObj_type->di,wpAny_rule->dF,PyData->dJ,wpAny_standAt->dU,Stmt->dW,binaryOp->dZ,FuncData->d0,rawInt->ee,Keyword->eC,wpAny_passesOwn->eQ,wpAny_pyIter_list->e9,IsPair->fc,swapsWithSole->fB,swappedStores->fC,wpAny_attempt->fD,assignEach->fH,wpAny_with_toks->fJ,wpAny_letGo->fQ,Builtin->fY,codeAny_mono->fZ,wpAny_tryCatch->gd,wpAny_newList->gi,OsState->gk,wpAny_Call_Name_kw->gz,IsPart->gD,IsEnum->gJ,wpAny_assign_Name->gU,Arguments->ip,exec_Assign_Name_used->iq,Params->ir,Model->iw,wpAny_execs_nil->ix,pushCells_keeps->iz,wpAny_updateSeq_pair->iB,wpAny_updateSeq->iD,wpAny_newTuple->iS,concat_meets->i5,wpAny_onRaise->jg,plainId_quiet->jk,IsZip->jt,noFill_tuple_add->jx,PassesOwn->jN,codeAny_builtin->jS,wpAny_isTrue_Compare1->j5,BindsTo->j8,intText?->kh,wpAny_loadName_local->kF,wpAny_call->kG,seq_tuple_add->kQ,wpAny_loadName_cell->kW,nums_intItems->kZ,wpAny_typeOf->li,wpAny_pyIter_tuple->lu,pushCells->lv,sizeLine_eq->l8,seqIndex_of->l9,wpAny_of_eq->ma,GenState->mh
open Option renaming some->Jd,none->Jf
open Bool renaming true->Jg,false->Jh
abbrev Ji:=@if_pos
abbrev Jk:=@if_neg
open PyProof.Rows renaming arrOf->KB,pendingOf->KF
open PySem renaming sizeLine->KM
local macro_rules|`(⇑$e)=>`(by simpa using $e)
local macro_rules|`('1')=>`(by walk_at "s")
local macro_rules|`('2')=>`(by walk_at "e")
local macro_rules|`('3')=>`(by walk_at "le")
local macro_rules|`('4')=>`(by walk_at "z")
local macro_rules|`('5')=>`(by walk_at "u")
local macro_rules|`('6')=>`(by walk_at "a")
set_option hygiene false in
local macro_rules|`('7')=>`(K89.fa_mk KX G ?_ ?_ ?_ ?_)
local macro_rules|`('o')=>`(by lia)
local macro_rules|`('d')=>`(by simp)
local macro_rules|`('s')=>`(by decide)
local macro_rules|`('k')=>`(by kernel_rfl)
open List renaming all_eq_true->af,mem_cons_of_mem->ak,getElem?_eq_some_iff->al,mem_cons_self->am,getElem?_eq_getElem->ao,mem_cons->ar,getD_eq_getElem?_getD->au,mem_map->av,length_append->aw,mem_append_right->ax,length_map->aA,mem_filter->aB,getElem?_append_left->aF,replicate->aH,size_toArray->aJ,mem_append->aK,range->aM,mem_of_getElem?->aN,mem_range->aU,contains_iff_mem->aW,getElem?_eq_none_iff->aY,map_map->aZ,length_filter_le->a7,append_assoc->ba,getElem?_append_right->bb,getElem?_map->bd,length_cons->bg,getElem?_set_ne->bj,nodup_cons->bo,getElem?_set_self->bq,map_cons->br,pairwise_cons->bw,mem_append_left->bA,not_mem_nil->bE,append_nil->bF,any_eq_true->bL,take_append_drop->bO,length_take->bS,pairwise_append->bT,length_drop->cb,mem_flatMap->cf,flatMap_cons->cg,length_set->ck,getElem_mem->cm,mem_of_mem_take->cx,map_append->cA,perm_append_comm->cD,take_sublist->cE,map_inj_left->cF,mem_of_mem_drop->cL,take_of_length_le->cM,drop_eq_getElem_cons->cO,drop_sublist->cQ,filter_cons_of_neg->cX,filter_cons_of_pos->cY,filter_cons->cZ,mem_iff_getElem->c8,map_congr_left->dj,pairwise_iff_getElem->dr,mem_singleton->dE,length_eq_zero_iff->dL,pairwise_map->dM,length_range->dN,nil_append->dP,foldl_cons->dQ,drop_drop->d7,find?_cons->ef,drop_append_of_le_length->eo,getElem?_range->er,lookup_cons->eD,lt_irrefl->eE,drop_of_length_le->eI,length_singleton->eR,all_cons->eV,nodup_append->e8,mem_or_eq_of_mem_set->fj,getElem?_take_of_lt->fo,getElem_map->fw,isEmpty_iff->fx,getElem?_replicate->fy,getElem?_cons_zero->fz,getElem?_cons_succ->fA,length_nil->fK,set_cons_zero->fP,find?_cons_of_neg->fT,filter_eq_nil_iff->fU,take_take->f8,set_append_right->gc,mem_reverse->gf,any_cons->gg,filter_sublist->gn,forIn_cons->gq,length_zip->gw,set_cons_succ->gM,nodup_nil->gQ,flatten_cons->gX,any_eq_false->gY,not_lt->hU,find?_cons_of_pos->hW,lt_trans->ie,zipIdx_cons->ij,ext_getElem->il,length_replicate->io,of_mem_zip->iy,set_set->iH,filterMap_cons->iI,filter_eq_self->iJ,countP_eq_length_filter->iX,map_id->i0,mem_filterMap->i4,getElem?_take->i6,zip_cons_cons->i9,getElem_range->jb,getElem?_take_eq_none->jj,filter_congr->jp,extract_eq_take_drop->ju,getElem_inj->jw,cons_append->jz,take_length->jB,le_antisymm->jC,length_erase_of_mem->jD,map_id'->jE,all_nil->jF,all_flatMap->jH,pairwise_singleton->jL,eraseIdx_cons_succ->jM,length->jX,take_succ->km,drop_zero->kn,cons_lt_cons_iff->kr,countP_mono_left->kA,mem_erase_of_ne->kM,set_append_left->kN,getElem_of_mem->kY,length_pos_iff->k7,flatMap_append->k8,map_eq_nil_iff->k9,map_nil->lj,all_map->lA,getElem?_drop->lD,filter_append->lN,filter_filter->lO,reverse_cons->lS,getElem_take->lZ,getElem_drop->l5,reverse_perm->l7,all_toArray->mq,drop_length->mx,countP_cons->my,flatMap_nil->mz,map_flatMap->mB,zipIdx_nil->mG,count_cons->mJ,forIn_nil->mN,drop_take->mO,drop_left->mP,take_left->mQ,take_zero->mT,take_add->mY
open PySem.W renaming Frag->ah,mg_none_of->bz,fnOf->bV,boot_heap->cq,keepIn->cJ,kla_fn->dG,findIn->ez,codeIn->eB,nsIn->fv,mg_of->fE,cellsFrom_some->g9,InstAt->iM,noTabs->iP,tabIn->jf,methodObj->jm,specialIn->jn,kla_obj->jP,kitOne->kg,mroIn->kP,ofPys->kR,OpenLaw->lp,ofPy->lq,SharedT->lP,holds_law->lQ,kitx_bool->lV,kitx_list->lW,kitx_dict->lX,plainGet->mi,instObj->mD,takesIn->mE,CodeHd->mL,tabObj->mM,isFn->m7
open PySem.Heap renaming get?_push_of_some->ai,get?_push_size->aO,lt_size->aR,size_push->cU,SameBut->dB,get?_update_other->dS,get?_update_self->d6,ExtBut->md
open False renaming elim->aj
open PyProof.Rows renaming wpS_bind->aD,wpS_pure->aL,KeyKind->aX,Keyed->a9,SortSt->bH,slot_tuple_getitem->cu,wpS_forRange->cC,wpS_mono->c9,callWith_type1->dO,envOfC->dR,wpS_modify->fg,wpS_get->gm,AllBare->gN,IntsAre->gP,listUpdate_at->ic,listItems_at->iG,KeysOf->iK,wpS_lift->iU,seqEpoch_at->iZ,assignInOrder_cons->i3,SortedToK->i8,StrsAre->jy,Call_->jJ,KK_mirror_equal->jQ,entry_list_sort->jR,subscriptTail_builtinR->jY,wpS_reverse->j3,slot_list_sort->ku,args_list_sort->kw,entry_tuple_getitem->kX,args_tuple_getitem->lh,plain_sorted->lE,entry_sorted->lG,args_sorted1->lH,kind_sorted->me
open Nat renaming le_refl->aE,le_trans->aG,lt_of_lt_of_le->bi,ne_of_lt->bt,zero_le->bN,add_sub_cancel_left->cI,succ_pos->cK,lt_irrefl->cR,zero_max->dD,le_succ->d9,ne_of_gt->eJ,pow_le_pow_right->fi,le_of_lt->fk,lt_succ_self->fu,min_eq_left->fN,zero_add->f9,le_of_eq->gH,lt_succ_of_lt->gW,le_add_right->ig,reduceLeDiff->im,sub_self->iE,reduceAdd->jl,reduceLT->jG,le_antisymm->jT,le_of_ble_eq_true->kz,add_assoc->kT,lt_of_le_of_lt->lB,succ_mul->lJ,lt_or_ge->lK,succ_le_succ->ml,one_ne_zero->mI
open Array renaming length_toList->aI,toList_append->bJ,size_push->bZ,perm_iff_toList_perm->dg,getElem?_eq_getElem->dk,getElem_toList->fh,size_append->fV,toList_push->fW,getElem?_toList->f6,map->ge,toList_setIfInBounds->jh,getElem?_eq_some_iff->ji,size_setIfInBounds->jA,size_map->ko,mk->kB,toList_extract->kJ,toList_reverse->kK,append_assoc->lc,toList->lf,toList_inj->mr,toList_map->mw,size_zip->mR
open Bool renaming and_eq_true->aT,false_ne_true->bU,false_eq_true->cy,eq_iff_iff->dq,and_eq_true_iff->dI,not_eq_true'->ei,not_true->fF,and_true->gj,false_or->h9,or_eq_true->iA,not_false->iV,false_and->j6,true_and->kU,and_self->mZ
open PySem.PyData renaming eqv->bh,list->eH,eqvAll->eU,tuple->gE,canLay0->iO,depth->lz,canLayAll0->lU,depthAll->mF
open PySem.Obj renaming mapSeq->bG,data_mapFields->lC
open Ne renaming symm->bI
open PySem.Builtin.Str renaming occurrences->bP
open Classical renaming byContradiction->b9
open Option.some renaming inj->ci
open PySem.Builtin.SmallTypes renaming nextOf->cw,ownedTupleIsFree->dH,ownedTupleHandOut->eO
open Sum renaming inr->cN,inl->jv
open PySem.NameKind renaming free->cS,cell->de
open List.Perm renaming refl->d8,append_left->f7,swap->mS
open PySem.Heap.SameBut renaming update->eu
open PySem.Value renaming type->eG,ref->fG,builtin->gh,isInt->g7,none->iu,bool->kE,int->mU,str->mV,isStrOf->mX
open And renaming intro->eN
open PySem.F renaming slot_enumerate_next->eS,slot_tuple_iterator_next->eT,plain_min_loop->fR,args_tuple_add_2->gC,entry_tuple_add->gR,plainAttrs_list->gT,slot_tuple_add->hJ,entry_min_loop->hV,slot_zip_next->iC,args_tuple_iterator_next_1->iQ,entry_tuple_iterator_next->i7,slot_dict_delitem->jq,slot_dict_getitem->js,args_enumerate_next_1->jK,plainAttrs_str->jZ,entry_enumerate_next->j0,slot_list_append->j9,slot_enumerate_iter->ki,slot_list_extend->kl,slot_list_pop->ll,attr_ValueError->lT,args_zip_next_1->lY,entry_zip_next->mn
open List.Pairwise renaming nil->eZ,imp_of_mem->gK
open PySem.Builtin.Slice renaming slicePlaces->fe,sliceAdjust->gp,sliceApplied->jd
open PySem.Builtin.Tuple renaming tupleExact->fq,tupleItemsOf->je
open PySem.Builtin.List renaming listTooLong->ft,listItems->j4
open True renaming intro->fL
open ForInStep renaming yield->fM
open PyProof.Rows.KeyOrd renaming kle_of_klt->fX,kle_trans->ik
open PySem.Calls renaming call_function_entry->gu,Name_function_global->jc,spliced_cons->lg,spliced_nil->lR
open Option renaming isSome_iff_exists->gA,none->iY,map_some->jO,map_eq_some_iff->jW,isSome_some->lr,getD_none->mj,map->mC
open PySem.Str renaming ofString->gZ
open Sum.inr renaming inj->g8
open Array.Perm renaming refl->iF
open Int renaming emod_lt_of_pos->ja,toNat_natCast->jo,emod_nonneg->jV,le_antisymm->mH
open PySem.Builtin.ObjectAttr renaming bindTo->jr
open PySem.Builtin.Range renaming rangeSize->jI
open PySem.PassesOwn renaming never->jU
open PySem.Builtin renaming bitXor->j7
open Prod renaming ext->kC
open PySem.Around renaming frames_deeper->kH
open PySem.Walks renaming list->kI
open PyProof.Rows.SortSt renaming mk'->kL
open PySem.Paired renaming length->kO
open PySem.Code renaming compLoop->kS,compStart->mK
open Nat.succ renaming inj->lI
open PySem.W.WData renaming int->mW
open PySem.SeqAt renaming shaped->m8
open PySem.W.OpenRow renaming toRowW->m9
open Prod.mk renaming inj->ng
open PySem.Heap.IsSliceOf renaming new->nj
namespace K89
open PySem PySem.W
noncomputable def ty(i:Nat):dW:=PySem.Challenge.pw_leastterms_k89_whole_smooth_forms.main.body.getD i (.Pass ⟨0,0,0,0⟩)
def Qv:aQ:={ PySem.Challenge.pw_leastterms_k89_whole_smooth_forms with main:={ PySem.Challenge.pw_leastterms_k89_whole_smooth_forms.main with body:=[ty 1,ty 2,ty 3,ty 4,ty 5,ty 6,ty 8,ty 9,ty 10,ty 11,ty 12,ty 13,ty 15,ty 16,ty 17,ty 18,ty 19,ty 20,ty 22,ty 23,ty 24,ty 25,ty 26,ty 27,ty 28,ty 29,ty 30,ty 31,ty 32,ty 34,ty 35,ty 36,ty 37,ty 38,ty 39,ty 41,ty 42,ty 43,ty 44,ty 45,ty 46,ty 47,ty 48,ty 50,ty 51,ty 52,ty 53,ty 54,ty 55,ty 56,ty 57,ty 58,ty 59,ty 61,ty 62,ty 64,ty 65,ty 66,ty 67,ty 68,ty 69,ty 70,ty 71,ty 73,ty 74,ty 75,ty 76,ty 77,ty 78,ty 79,ty 80] } }
def Lv:List az:=[gZ "SWITCHES_BY_POINTS"]
def Xv:ag → Bool:=λs=>PySem.W.xlAt Qv [] s&&PySem.W.recOk (PySem.W.RowW.records (m9 PySem.Challenge.rw_leastterms_k89_whole_smooth_forms.row)) s
def bY{α β a:Type}{x:Option α}{f:α → β}{g:α → a}{b:β}{c:a}(d:x.map f=Jd b)(e:x.map g=Jd c):x.map (λs=>(f s,g s))=Jd (b,c):=by
  cases x with
  |none=>cases d
  | some s=>
    have h:f s=b:=ci d;have i:g s=c:=ci e;show Jd (f s,g s)=_;rw[h,i]
end K89
section
open PySem PySem.W PyProof.Rows
set_option maxRecDepth 100000 in
def K89.ws:PySem.Challenge.rw_leastterms_k89_whole_smooth_forms.wellSaid=Jg:=by kernel_rfl
local macro_rules|`(tactic| o_head $H)=>`(tactic| skip)
set_option maxRecDepth 100000 in
set_option maxHeartbeats 0 in
def K89.hp:False → PySem.Challenge.rw_leastterms_k89_whole_smooth_forms.Holds:=by
  intro a
  w_on;refine lQ K89.ws λb=>?_;k_head
  all_goals exact a.elim
end

namespace DLT
open PySem PySem.W
noncomputable def om(tb:String → Option fY)(p:aQ)(w:a8)(m:Nat)(an:Option ae):Nat → lP → Thread → Option lP
  |0,_,_=>Jf
  | k+1,a,th=>match through th with
    |true=>Jd a
    | false=>match stepOk m an th with
      |false=>Jf
      | true=>match stepT (denote tb) p w a th with
        |some (b,UB)=>om tb p w m an k b UB
        |none=>Jf
theorem oB{d:String → Option fY}{p:aQ}{w:a8}{m:Nat}{e:Option ae}:∀{k:Nat}{a z:lP}{c:Thread},om d p w m e k a c=Jd z → topRun d p w m e k a.abs c=Jd z.abs
  |0,_,_,_,H=>by cases H
  | k+1,a,z,c,H=>by
    unfold om at H;unfold topRun;cases g:through c with
    |true=>rw[g] at H;cases H;rfl
    | false=>
      rw[g] at H;cases h:stepOk m e c with
      |false=>rw[h] at H;cases H
      | true=>
        rw[h] at H;cases f:stepT (denote d) p w a c with
        |none=>rw[f] at H;cases H
        |some q=>obtain⟨b,i⟩:=q;rw[f] at H;rw[stepT_spec f];exact oB H
def oz:Nat → BT → List Obj → BT
  |_,T,[]=>T
  |i,T,o::os=>oz (i+1) (T.ins i o) os
noncomputable def oj(P:ir):BT:=oz 0 .nil (cq P).objs.toList
def boot_abs:∀P:ir,absHeap (oj P) (cq P).objs.size (cq P).life=cq P:=λP=>by kernel_rfl
noncomputable def IP(P:ir)(os:gk):lP:=⟨oj P,(cq P).objs.size,(cq P).life,kB [],boot_drawn,boot_toks,os⟩
noncomputable def s0(P:ir)(os:gk):ag:=⟨cq P,kB [],boot_drawn,boot_toks,os⟩
def oH(P:ir)(os:gk):(IP P os).abs=s0 P os:=by unfold IP s0 SharedT.abs;rw[boot_abs P]
def oA:∀P:ir,((cq P).isNs bB&&(kB []:Array mh).size==0,(cq P).objs.size,(cq P).nsMap bB "__annotations__")=(Jg,11,Jd (.ref 6)):=λP=>by kernel_rfl
def chk(p:aQ)(h:aV)(s:ag):Bool:=staticsOk (cV p.main.body) h s.heap&&namesBound p s.heap&&gensDone s&&laidKept h s.heap
def ow{p:aQ}{w:a8}{P:ir}{os:gk}{N:Nat}{α:Type}{f:ag → α}{a:α}(h:(om treeTable p w 11 (Jd (.ref 6)) N (IP P os) (topStub p)).map (λs=>(chk p (cq P) s.abs,f s.abs))=Jd (Jg,a)):(topFrom treeTable p w N (s0 P os)).map f=Jd a:=by
  obtain⟨s,e,c⟩:=jW.mp h;have r:=oB e;rw[oH] at r;obtain⟨d,g,i⟩:_ ∧ _ ∧ _:=by simpa only[Prod.mk.injEq] using oA P
  obtain⟨j,k⟩:=ng c;unfold topFrom;show mC f (match (cq P).isNs bB&&(kB []:Array mh).size==0 with
    | true=>(topRun treeTable p w (cq P).objs.size ((cq P).nsMap bB "__annotations__") N (s0 P os) (topStub p)).bind λb=>match chk p (cq P) b with
      |true=>Jd b
      |false=>Jf
    |false=>Jf)=Jd a
  rw[d,g,i,r];show mC f (match chk p (cq P) s.abs with
      |true=>Jd s.abs
      |false=>Jf)=Jd a
  rw[j];exact congrArg Jd k
def oJ{α β a e:Type}{x:Option α}{f:α → β×a}{g:α → e}{b:β}{c:a}{d:e}(h:x.map (λs=>((f s).1,g s))=Jd (b,d))(i:x.map (λs=>(f s).2)=Jd c):x.map (λs=>(f s,g s))=Jd ((b,c),d):=by
  cases x with
  |none=>cases h
  | some s=>
    obtain⟨j,k⟩:=ng (ci h);have l:(f s).2=c:=ci i;exact congrArg Jd (kC (kC j l) k)
noncomputable abbrev R(p:aQ)(N:Nat)(w:a8)(P:ir)(os:gk):Option lP:=om treeTable p w 11 (Jd (.ref 6)) N (IP P os) (topStub p)
def left_of{p q:aQ}{loose:List az}{Xt:ag → Bool}{α:Type}{Yf:ag → α}{Ya:a8 → α}{N:Nat}{b:Bool}(a:String)(e:opening p=plainProg p.main.scope.names)(c:Nat.ble 600 N=Jg)(i:∀s,fenceModules? p s=Jd s)
    (j:∀(v:Bool)(w:a8)(os:gk),(R p N (w.withFollow a v) w.params os).map (λs=>(chk p (cq w.params) s.abs,((openSeen q loose (cV p.main.body) Xt b s.abs).1,Yf s.abs)))=Jd (Jg,(openGood q loose).1,Ya (w.withFollow a v)))
    (l:∀(v:Bool)(w:a8)(os:gk),(R p N (w.withFollow a v) w.params os).map (λs=>(chk p (cq w.params) s.abs,(openSeen q loose (cV p.main.body) Xt b s.abs).2))=Jd (Jg,(openGood q loose).2)):
    LeftO p q loose Xt Yf Ya N b:=LeftO.of_split a λw=>by
  obtain⟨⟨h,m,d,k,os⟩,x,y⟩:=jW.mp (boot_open e c i w);obtain⟨rfl,rfl,rfl,rfl⟩:h=cq w.params ∧ m=kB [] ∧ d=boot_drawn ∧ k=boot_toks:=⇑y
  rw[x];have go (v:Bool):(topFrom treeTable p (w.withFollow a v) N (s0 w.params os)).map (λs=>(openSeen q loose (cV p.main.body) Xt b s,Yf s))=Jd (openGood q loose,Ya (w.withFollow a v)):=
    oJ (f:=λs=>openSeen q loose (cV p.main.body) Xt b s) (g:=Yf) (ow (f:=λs=>((openSeen q loose (cV p.main.body) Xt b s).1,Yf s)) (j v w os)) (ow (f:=λs=>(openSeen q loose (cV p.main.body) Xt b s).2) (l v w os))
  exact congrArg Jd (kC (go Jh) (go Jg))
end DLT

namespace K89
open PySem PySem.W
abbrev As:List ab:=[2,3,15,22,23,24,25,28,35,36,37,40,47,48,49,52,59,60,61,64,71,72,73,76,83,84,85,88,90,91,93,94,95,97,98,100,101,102,104,105,107,108,109,111,112,114,115,116,119,120,121,122,124,125,127,128,129,132,133,134,136,137,139,140,141,143,144,146,147,148,151,152,153,156,157,158,160,161,163,164,165,168,169,170,173,174,175,177,178,180,181,182,185,186,187,189,190,192,193,194,196,197,199,200,201,203,204,206,207,208,211,212,213,216,217,218,221,222,223,226,227,228,230,231,233,234,235,238,239,240,243,244,245,248,249,250,253,254,255,258,259,260,263,264,265,268,269,270,273,274,275,277,278,280,281,282,284,285,287,288,289,290,292,293,295,296,297,300,301,302,305,306,307,310,311,312,314,315,317,318,319,321,322,324,325,326,329,330,331,334,335,336,338,339,341,342,343,345,346,348,349,350,353,354,355,358,359,360,363,364,365,367,368,370,371,372,374,375,377,378,379,382,383,384,387,388,389,391,392,394,395,396,399,400,401,403,404,406,407,408,410,411,413,414,415,417,418,420,421,422,424,425,427,428,429,431,432,434,435,436,439,440,441,444,445,446,449,450]
noncomputable def Hk:PySem.W.Hook:=PySem.W.kmHook K89.hp.heap_1 K89.As (λ_=>by kernel_rfl) [261]
abbrev Pg:aQ:=PySem.Challenge.rw_leastterms_k89_whole_smooth_forms.row.prog
set_option maxRecDepth 100000 in
def la1:∀(w:a8)(os:gk),(DLT.R Pg 6406 (w.withFollow "special-get-raises" Jh) w.params os).map (λs=>(DLT.chk Pg (cq w.params) s.abs,((openSeen Qv Lv (cV Pg.main.body) Xv Jg s.abs).1,(Hk.obs s.abs,decide (0<s.abs.toks)))))=Jd (Jg,((openGood Qv Lv).1,(Hk.val (w.withFollow "special-get-raises" Jh),Jg))):=λw os=>by kernel_rfl
set_option maxRecDepth 100000 in
def IZ:∀(w:a8)(os:gk),(DLT.R Pg 6406 (w.withFollow "special-get-raises" Jh) w.params os).map (λs=>(DLT.chk Pg (cq w.params) s.abs,(openSeen Qv Lv (cV Pg.main.body) Xv Jg s.abs).2))=Jd (Jg,(openGood Qv Lv).2):=λw os=>by kernel_rfl
set_option maxRecDepth 100000 in
def lb1:∀(w:a8)(os:gk),(DLT.R Pg 6406 (w.withFollow "special-get-raises" Jg) w.params os).map (λs=>(DLT.chk Pg (cq w.params) s.abs,((openSeen Qv Lv (cV Pg.main.body) Xv Jg s.abs).1,(Hk.obs s.abs,decide (0<s.abs.toks)))))=Jd (Jg,((openGood Qv Lv).1,(Hk.val (w.withFollow "special-get-raises" Jg),Jg))):=λw os=>by kernel_rfl
set_option maxRecDepth 100000 in
def lb2:∀(w:a8)(os:gk),(DLT.R Pg 6406 (w.withFollow "special-get-raises" Jg) w.params os).map (λs=>(DLT.chk Pg (cq w.params) s.abs,(openSeen Qv Lv (cV Pg.main.body) Xv Jg s.abs).2))=Jd (Jg,(openGood Qv Lv).2):=λw os=>by kernel_rfl
def lw:PySem.W.LeftO Pg Qv Lv Xv (λs=>(Hk.obs s,decide (0<s.toks))) (λw=>(Hk.val w,Jg)) 6406:=DLT.left_of "special-get-raises" rfl rfl (λ_=>rfl) (λv=>match v with|false=>la1|true=>lb1) (λv=>match v with|false=>IZ|true=>lb2)
end K89

abbrev g_:=List Nat
abbrev m_:=List g_
-- NX: your UK module here, as zB last of UA rows
namespace L2
open PySem PySem.Spec PyProof.Rows
abbrev Key:=Sum Int az
def CA:Key->ae->Bool
 |.inl k,v=>g7 k v
 |.inr x,v=>mX x v
noncomputable def We(w:a8):Key->Int
 |.inl k=>hashInt k
 |.inr x=>hashStr w x
def yD:∀{k:Key}{v:ae},CA k v=Jg->(∃i t,k=jv i/\v=mU i t)\/(∃x t,k=cN x/\v=mV x t)
 | .inl i,v,h=>by
  obtain⟨t,e⟩:=Value.isInt_shape (k:=i) (v:=v) h;exact .inl ⟨i,t,rfl,e⟩
 | .inr x,v,h=>by
  obtain⟨t,e⟩:=Value.isStrOf_shape (x:=x) (v:=v) h;exact .inr ⟨x,t,rfl,e⟩
def zbL(i:Int)(t:Tok):CA (.inl i) (.int i t)=Jg:=by simp[CA,g7]
def zcp(x:az)(t:Tok):CA (.inr x) (.str x t)=Jg:=by simp[CA,mX]
def Xl(a b:Int):decide ((jv a:Key)=jv b)=(a==b):=by
 by_cases e:a=b
 ·subst e;simp
 ·have h:¬ (jv a:Key)=jv b:=λq=>e (Sum.inl.inj q);rw[decide_eq_false h];exact(beq_eq_false_iff_ne.mpr e).symm
def X9(a b:az):decide ((cN a:Key)=cN b)=decide (a=b):=by
 by_cases e:a=b
 ·subst e;simp
 ·have h:¬ (cN a:Key)=cN b:=λq=>e (g8 q);rw[decide_eq_false h,decide_eq_false e]
def YZ(a:Int)(b:az):decide ((jv a:Key)=cN b)=Jh:=decide_eq_false (λq=>nomatch q)
def X0(a:az)(b:Int):decide ((cN a:Key)=jv b)=Jh:=decide_eq_false (λq=>nomatch q)
def xp(prog:aQ)(w:a8):PySem.KeyKind prog w Key where
 is:=CA
 hash:=We w
 inj:=λv a b ha hb=>by
  rcases yD ha with⟨i,t,rfl,rfl⟩|⟨x,t,rfl,rfl⟩
  ·rcases yD hb with⟨j,u,rfl,e⟩|⟨y,u,rfl,e⟩
   ·injection e with e1 _;rw[e1]
   ·exact nomatch e
  ·rcases yD hb with⟨j,u,rfl,e⟩|⟨y,u,rfl,e⟩
   ·exact nomatch e
   ·injection e with e1 _;rw[e1]
 byValue:=λk v h=>by
  rcases yD h with⟨i,t,rfl,rfl⟩|⟨x,t,rfl,rfl⟩<;>rfl
 pyHash:=λhv h=>by
  rcases yD hv with⟨i,t,rfl,rfl⟩|⟨x,t,rfl,rfl⟩
  ·exact wpAny_pyHash_int h
  ·exact wpAny_pyHash_str h
 eqBool:=λhu hv h=>by
  rcases yD hu with⟨i,t,rfl,rfl⟩|⟨x,t,rfl,rfl⟩
  ·rcases yD hv with⟨j,u,rfl,rfl⟩|⟨y,u,rfl,rfl⟩
   ·rw[Xl] at h;exact wpAny_eqBool_int h
   ·rw[YZ] at h;exact SeqAt.EqAt.int_str i t y u _ _ _ _ h
  ·rcases yD hv with⟨j,u,rfl,rfl⟩|⟨y,u,rfl,rfl⟩
   ·rw[X0] at h;exact SeqAt.EqAt.str_int x t j u _ _ _ _ h
   ·rw[X9] at h;exact wpAny_eqBool_str h
 «strs»:=λk x t v h=>by
  rcases yD h with⟨i,u,rfl,e⟩|⟨y,u,rfl,e⟩
  ·exact nomatch e
  ·injection e with e1 _;subst e1;cases v<;>rfl
def z9c(prog:aQ)(w:a8)(i:Int)(t:Tok):(xp prog w).is (.inl i) (.int i t)=Jg:=zbL i t
def z8J(prog:aQ)(w:a8)(x:az)(t:Tok):(xp prog w).is (.inr x) (.str x t)=Jg:=zcp x t
inductive V where
 |non|bl (b:Bool)|int (i:Int)|str (x:az)|byt (b:Array UInt8)|flt (b:UInt64)|ref (a:ab)|ty (n:String)
 deriving DecidableEq
def RelV:V->ae->Prop
 |.non,u=>u=iu
 |.bl b,u=>u=kE b
 |.int i,u=>∃t,u=mU i t
 |.str x,u=>∃t,u=mV x t
 |.byt b,u=>∃t,u=Value.bytes b t
 |.flt b,u=>∃t,u=Value.float b t
 |.ref a,u=>u=fG a
 |.ty n,u=>u=eG n
abbrev nu:List V->List ae->Prop:=bR RelV
def nu.length{xs:List V}{a:List ae}(r:nu xs a):xs.length=a.length:=kO r
theorem nu.get:∀{xs:List V}{a:List ae}{i:Nat}{x:V},nu xs a->xs[i]?=Jd x->∃u,a[i]?=Jd u/\RelV x u
 |_,_,_,_,.nil,e=>by simp at e
 |_,_,0,_,.cons r _,e=>by simp at e;subst e;exact⟨_,rfl,r⟩
 | _,_,i+1,x,.cons _ t,e=>by
  obtain⟨u,b,c⟩:=nu.get (i:=i) (x:=x) t ⇑e;exact⟨u,by simpa using b,c⟩
theorem nu.set{x:V}{u:ae}(r:RelV x u):∀{xs:List V}{a:List ae}(i:Nat),nu xs a->nu (xs.set i x) (a.set i u)
 |_,_,_,.nil=>.nil
 |_,_,0,.cons _ t=>.cons r t
 |_,_,i+1,.cons q t=>.cons q (nu.set r i t)
theorem nu.append:∀{xs a:List V}{b c:List ae},nu xs b->nu a c->nu (xs++a) (b++c)
 |_,_,_,_,.nil,s=>s
 |_,_,_,_,.cons r t,s=>.cons r (nu.append t s)
theorem nu.take:∀{xs:List V}{a:List ae}(n:Nat),nu xs a->nu (xs.take n) (a.take n)
 |_,_,0,_=>.nil
 |_,_,_+1,.nil=>.nil
 |_,_,n+1,.cons r t=>.cons r (nu.take n t)
theorem nu.drop:∀{xs:List V}{a:List ae}(n:Nat),nu xs a->nu (xs.drop n) (a.drop n)
 |_,_,0,r=>r
 |_,_,_+1,.nil=>.nil
 |_,_,n+1,.cons _ t=>nu.drop n t
def n6:Option V->Option ae->Prop
 |some v,Jd u=>RelV v u
 |none,Jf=>True
 |_,_=>False
def KV{κ:Type}:List (κ×V)->List (κ×ae)->Prop:=bR λ(p:κ×V)(q:κ×ae)=>p.1=q.1/\RelV p.2 q.2
def kV:Key->V
 |.inl i=>.int i
 |.inr x=>.str x
inductive HO where
 |lst (xs:List V)
 |tup (xs:List V)
 |dK (l_:List (Key×V))|dT (l_:List (List Key×V))
 |set (S:Int->Bool) (n:Nat)
 |ins (C dx:ab) (fs:List (az×V))
 |own (x:ab)
 |xd (fs:List (az×V))
 |met (f x:ab)
 |rng (lo hi:Int)
 |frz (o:Obj) (u:HO)
 |tbl (ps:Array ae)
 |ext (φ:aV->Prop)
abbrev Hp:=ab->Option HO
noncomputable def upd(H:Hp)(a:ab)(o:HO):Hp:=λb=>if b=a then Jd o else H b
def qP{H:Hp}{a:ab}{o:HO}:upd H a o a=Jd o:=by unfold upd;rw[Ji rfl]
def o9{H:Hp}{a b:ab}{o:HO}(h:b≠a):upd H a o b=H b:=by unfold upd;rw[Jk h]
def Wv{H:Hp}{a b:ab}{o u:HO}(h:H a=Jd o)(h':H b=Jd u)(d:o≠u):a≠b:=by intro e;subst e;rw[h] at h';exact d (ci h')
def rf{H:Hp}{a b:ab}{o:HO}(h:H a=Jd o)(h':H b=Jf):a≠b:=by intro e;subst e;rw[h] at h';cases h'
def nT(h:aV)(a:ab)(items:Array ae):Prop:=∃o,h.get? a=Jd o/\o.cls=.type "tuple"/\(∃n,o.data=.seq items n)/\o.dict=Jf
def nT.tup{h:aV}{a:ab}{items:Array ae}(x:nT h a items):IsTup h a items:=let ⟨o,e,c,d,_⟩:=x;⟨o,e,c,d⟩
def nT.new(h:aV)(items:Array ae):nT (h.push { cls:=.type "tuple",data:=.seq items }) h.objs.size items:=⟨_,aO _ rfl,rfl,⟨_,rfl⟩,rfl⟩
section
variable(P:aQ)(w:a8)
def nJ(H:Hp)(h:aV)(a:ab):HO->Prop
 |.lst xs=>xs.length<=KM/\∃(d_:List ae)(n:Nat),nu xs d_/\h.get? a=Jd { cls:=.type "list",data:=.seq d_.toArray n }
 |.tup xs=>xs.length<=KM/\∃d_:List ae,nu xs d_/\nT h a d_.toArray
 |.dK l_=>l_.length<=KM/\(a==sysModules)=Jh/\∃vs,KV l_ vs/\h.DictOf (xp P w) a vs
 | .dT l_=>l_.length<=KM/\(a==sysModules)=Jh/\∃xs:List (List Key×ab×ae),
   bR (λ(p:List Key×V)(q:List Key×ab×ae)=>p.1=q.1/\H q.2.1=Jd (.tup (p.1.map kV))/\RelV p.2 q.2.2) l_ xs/\
   ∃o es ep,h.get? a=Jd o/\o.ExactDict/\o.data=.dict es ep/\es.toList=xs.map (entryOfKey (tupleKind (xp P w)))/\(xs.map (·.1)).Nodup
 |.set S n=>h.SetOf (intKind P w) a S n
 | .ins C dx fs=>H dx=Jd (.own a)/\fs.length<=1000/\dx≠a/\h.get? a=Jd (mD C dx)/\
   ∃mA,h.Ns1 dx mA/\(∀f,n6 (fs.lookup f) (mA f))/\PySem.Within mA (fs.map (·.1))
 |.own _=>∃o,h.get? a=Jd o
 |.xd fs=>∃mA,h.Ns1 a mA/\∀f,n6 (fs.lookup f) (mA f)
 |.rng lo hi=>∃t u v,h.get? a=Jd { cls:=.type "range",data:=.fields #[.int lo t,.int hi u,.int 1 v] }
 |.frz o u=>h.get? a=Jd o/\nJ H h a u
 |.tbl ps=>h.get? a=Jd { cls:=.none,data:=.fields ps }
 |.met f x=>h.get? a=Jd (jm (.ref f) (.ref x))
 |.ext φ=>φ h/\(∃o,h.get? a=Jd o)/\∀h1 h2:aV,φ h1->(∀o,h1.get? a=Jd o->h2.get? a=Jd o)->φ h2
def HOk(H:Hp)(h:aV):Prop:=∀a o,H a=Jd o->nJ P w H h a o
end
section
variable{P:aQ}{w:a8}{H H':Hp}{h h':aV}{a:ab}{o:HO}
def nJ.lt(x:nJ P w H h a o):a<h.objs.size:=by
 cases o with
 |lst xs=>obtain⟨_,_,_,_,e⟩:=x;exact aR e
 |tup xs=>obtain⟨_,_,_,p⟩:=x;exact(nT.tup p).lt
 |dK l_=>obtain⟨_,_,_,_,o,_,_,e,_⟩:=x;exact aR e
 |dT l_=>obtain⟨_,_,_,_,o,_,_,e,_⟩:=x;exact aR e
 |set S n=>obtain⟨o,_,_,_,e,_⟩:=x;exact aR e
 |ins C dx fs=>obtain⟨_,_,_,e,_⟩:=x;exact aR e
 |own y=>obtain⟨_,e⟩:=x;exact aR e
 |xd fs=>obtain⟨_,⟨_,_,_,e,_⟩,_⟩:=x;exact aR e
 |rng lo hi=>obtain⟨_,_,_,e⟩:=x;exact aR e
 |frz ob u=>obtain⟨e,_⟩:=x;exact aR e
 |tbl ps=>exact aR (show h.get? a=Jd _ from x)
 |met f y=>exact aR (show h.get? a=Jd _ from x)
 |ext φ=>obtain⟨_,⟨_,e⟩,_⟩:=x;exact aR e
theorem Paired.mapP{α β:Type}{F G:α->β->Prop}:∀{c:List α}{d:List β},bR F c d->(∀a b,F a b->G a b)->bR G c d
 |_,_,.nil,_=>.nil
 |_,_,.cons r t,f=>.cons (f _ _ r) (Paired.mapP t f)
def nJ.stay(x:nJ P w H h a o)(k:∀b u,(b=a\/H b=Jd (.own a))->h.get? b=Jd u->h'.get? b=Jd u)
  (B:∀b,H b=Jd (.own a)->H' b=Jd (.own a)) (D:∀b xs,H b=Jd (.tup xs)->H' b=Jd (.tup xs)):nJ P w H' h' a o:=by
 induction o with
 |lst xs=>obtain⟨z,l,n,r,e⟩:=x;exact⟨z,l,n,r,k _ _ (.inl rfl) e⟩
 |tup xs=>obtain⟨z,l,r,g,e,c⟩:=x;exact⟨z,l,r,g,k _ _ (.inl rfl) e,c⟩
 |dK l_=>obtain⟨z,y,E,r,g,i,j,e,c⟩:=x;exact⟨z,y,E,r,g,i,j,k _ _ (.inl rfl) e,c⟩
 | dT l_=>
  obtain⟨z,y,xs,r,g,i,j,e,c⟩:=x;exact⟨z,y,xs,Paired.mapP r λp q z=>⟨z.1,D _ _ z.2.1,z.2.2⟩,g,i,j,k _ _ (.inl rfl) e,c⟩
 |set S n=>obtain⟨g,i,j,t,e,c⟩:=x;exact⟨g,i,j,t,k _ _ (.inl rfl) e,c⟩
 | ins C dx fs=>
  obtain⟨d,z,F,e,m,⟨s,i,j,G,c⟩,r⟩:=x;exact⟨B _ d,z,F,k _ _ (.inl rfl) e,m,⟨s,i,j,k _ _ (.inr d) G,c⟩,r⟩
 |own y=>obtain⟨g,e⟩:=x;exact⟨g,k _ _ (.inl rfl) e⟩
 |xd fs=>obtain⟨m,⟨s,i,j,e,c⟩,r⟩:=x;exact⟨m,⟨s,i,j,k _ _ (.inl rfl) e,c⟩,r⟩
 |rng lo hi=>obtain⟨t,u,v,e⟩:=x;exact⟨t,u,v,k _ _ (.inl rfl) e⟩
 |frz g u ih=>obtain⟨e,q⟩:=x;exact⟨k _ _ (.inl rfl) e,ih q⟩
 | tbl ps=>
  have e:h.get? a=Jd { cls:=.none,data:=.fields ps }:=x;show h'.get? a=Jd { cls:=.none,data:=.fields ps };exact k a _ (.inl rfl) e
 | met f y=>
  have e:h.get? a=Jd (jm (.ref f) (.ref y)):=x;show h'.get? a=Jd (jm (.ref f) (.ref y));exact k a _ (.inl rfl) e
 |ext φ=>obtain⟨p,⟨o,e⟩,A⟩:=x;exact⟨A _ _ p λo q=>k _ _ (.inl rfl) q,⟨o,k _ _ (.inl rfl) e⟩,A⟩
def HOk.lt(x:HOk P w H h)(e:H a=Jd o):a<h.objs.size:=(x a o e).lt
def HOk.fresh(x:HOk P w H h)(e:h.objs.size<=a):H a=Jf:=by
 cases q:H a with
 |none=>rfl
 |some u=>exact absurd (bi (x.lt q) e) (cR _)
def HOk.kept(x:HOk P w H h)(k:∀b u,h.get? b=Jd u->h'.get? b=Jd u):HOk P w H h':=λa o e=>
 (x a o e).stay (λb u _ q=>k b u q) (λ_ q=>q) λ_ _ q=>q
def HOk.laid(x:HOk P w H h)(k:∀b u,h.get? b=Jd u->h'.get? b=Jd u)(i:h.objs.size<=a)(d:nJ P w (upd H a o) h' a o):HOk P w (upd H a o) h':=λb u e=>by
 have f:=x.fresh i;by_cases g:b=a
 ·subst g;rw[qP] at e;cases e;exact d
 ·rw[o9 g] at e;exact(x b u e).stay (λc v _ q=>k c v q) (λc q=>by rw[o9 (rf q f)];exact q) λc j q=>by rw[o9 (rf q f)];exact q
end
def Rd(H:Hp)(a:ab)(u:HO):Prop:=H a=Jd u \/ ∃o,H a=Jd (.frz o u)
def Rd.of(h:H a=Jd u):Rd H a u:=.inl h
def Rd.ok(r:Rd H a u)(x:HOk P w H h):nJ P w H h a u:=by
 rcases r with r|⟨o,r⟩
 ·exact x a u r
 ·obtain⟨_,q⟩:=x a _ r;exact q
def Gi:Option HO->Prop
 |some (.lst _)=>True
 |some (.dK _)=>True
 |some (.dT _)=>True
 |some (.set _ _)=>True
 |some (.ins _ _ _)=>True
 |some (.ext _)=>True
 |_=>False
section
variable{P:aQ}{w:a8}{H:Hp}{h h':aV}{x e:ab}{o':HO}
def HOk.write(ok:HOk P w H h)(a:Gi (H x))(j:e=x\/H e=Jd (.own x))(k:∀b u,b≠e->h.get? b=Jd u->h'.get? b=Jd u)(n:∃u,h'.get? e=Jd u)
  (i:nJ P w (upd H x o') h' x o'):HOk P w (upd H x o') h':=λb u q=>by
 have l:∀c y,H c=Jd (.own y)->c≠x:=λc y r z=>by subst z;rw[r] at a;exact a
 have o:∀c d,H c=Jd (.tup d)->c≠x:=λc d r z=>by subst z;rw[r] at a;exact a
 by_cases f:b=x
 ·subst f;rw[qP] at q;cases q;exact i
 ·rw[o9 f] at q;by_cases g:b=e
  ·have m:H b=Jd (.own x):=by
    rcases j with z|z
    ·exact absurd (g.trans z) f
    ·rw[g];exact z
   rw[q] at m;cases m;obtain⟨v,p⟩:=n;exact⟨v,by rw[g];exact p⟩
  ·refine(ok b u q).stay (λc v hc r=>k c v ?_ r) (λc r=>by rw[o9 (l c b r)];exact r) λc d r=>by rw[o9 (o c d r)];exact r
   rcases hc with rfl|hc
   ·exact g
   ·rintro rfl;rcases j with z|z
    ·exact l c b hc z
    ·rw[hc] at z;cases z;exact f rfl
end
structure Un(fs ex:List ab)(H H':Hp)(h h':aV):Prop where
 keep:∀b o,h.get? b=Jd o->H b=Jf->b∉fs->b∉ex->h'.get? b=Jd o
 slot:∀b o,h.get? b=Jd o->H b=Jf->b∈fs->b∉ex->∃sl,h'.get? b=Jd { o with slots:=sl }
 free:∀b o,h.get? b=Jd o->H b=Jf->b∉ex->H' b=Jf
 there:∀b o,h.get? b=Jd o->b∉ex->∃o',h'.get? b=Jd o'
 tups:∀b xs,H b=Jd (.tup xs)->H' b=Jd (.tup xs)
 frzs:∀b o u,H b=Jd (.frz o u)->H' b=Jd (.frz o u)
 tbls:∀b ps,H b=Jd (.tbl ps)->∃more,H' b=Jd (.tbl (ps++more))
section
variable{fs Vs ex Vz:List ab}{H H1 H2:Hp}{h h1 h2 h':aV}{a x e:ab}{o:HO}
def Un.any(u:Un fs ex H H1 h h1){b:ab}{c:Obj}(q:h.get? b=Jd c)(n:H b=Jf)(d:b∉ex):∃g,h1.get? b=Jd { c with slots:=g }:=by
 by_cases f:b∈fs
 ·exact u.slot b c q n f d
 ·exact⟨c.slots,u.keep b c q n f d⟩
def Un.trans(a:Un fs ex H H1 h h1)(b:Un fs ex H1 H2 h1 h2):Un fs ex H H2 h h2 where
 keep:=λc d q n i f=>b.keep c d (a.keep c d q n i f) (a.free c d q n f) i f
 slot:=λc d q n i f=>by
  obtain⟨t,g⟩:=a.slot c d q n i f;obtain⟨m,k⟩:=b.slot c _ g (a.free c d q n f) i f;exact⟨m,k⟩
 free:=λc d q n f=>by
  obtain⟨l,g⟩:=a.there c d q f;exact b.free c l g (a.free c d q n f) f
 there:=λc d q f=>by
  obtain⟨l,g⟩:=a.there c d q f;exact b.there c l g f
 tups:=λc j q=>b.tups c j (a.tups c j q)
 frzs:=λc d j q=>b.frzs c d j (a.frzs c d j q)
 tbls:=λc p q=>by
  obtain⟨r,g⟩:=a.tbls c p q;obtain⟨s,k⟩:=b.tbls c _ g;exact⟨r++s,by rw[k,lc]⟩
def Un.kept(k:∀b u,h.get? b=Jd u->h'.get? b=Jd u):Un fs ex H H h h':=
 ⟨λb c q _ _ _=>k b c q,λb c q _ _ _=>⟨c.slots,k b c q⟩,λ_ _ _ n _=>n,λb c q _=>⟨c,k b c q⟩,λ_ _ q=>q,λ_ _ _ q=>q,λ_ d q=>⟨#[],by rw[q];simp⟩⟩
def Un.refl:Un fs ex H H h h:=Un.kept λ_ _ q=>q
def Un.laid(k:∀b u,h.get? b=Jd u->h'.get? b=Jd u)(d:h.objs.size<=a)(c:H a=Jf):Un fs ex H (upd H a o) h h' where
 keep:=λb u q _ _ _=>k b u q
 slot:=λb u q _ _ _=>⟨u.slots,k b u q⟩
 free:=λb u q n _=>by rw[o9 (bt (bi (aR q) d))];exact n
 there:=λb u q _=>⟨u,k b u q⟩
 tups:=λb f q=>by rw[o9 (rf q c)];exact q
 frzs:=λb u f q=>by rw[o9 (rf q c)];exact q
 tbls:=λb g q=>⟨#[],by rw[o9 (rf q c),q];simp⟩
def Un.write(c:Gi (H x))(j:e=x\/H e=Jd (.own x))(k:∀b u,b≠e->h.get? b=Jd u->h'.get? b=Jd u)(l:∃u,h'.get? e=Jd u):Un fs ex H (upd H x o) h h':=by
 have f:∀b,H b=Jf->b≠x:=λb n z=>by subst z;rw[n] at c;exact c
 have g:∀b,H b=Jf->b≠e:=λb n z=>by
  subst z;rcases j with r|r
  ·exact f b n r
  ·rw[n] at r;cases r
 have d:∀b u,H b=Jd u->¬ Gi (Jd u)->b≠x:=λb u q m z=>by subst z;rw[q] at c;exact m c
 refine⟨λb u q n _ _=>k b u (g b n) q,λb u q n _ _=>⟨u.slots,k b u (g b n) q⟩,λb u q n _=>by rw[o9 (f b n)];exact n,λb u q _=>?_,
  λb p q=>by rw[o9 (d b _ q λz=>z)];exact q,λb u p q=>by rw[o9 (d b _ q λz=>z)];exact q,λb s q=>⟨#[],by rw[o9 (d b _ q λz=>z),q];simp⟩⟩
 by_cases i:b=e
 ·subst i;exact l
 ·exact⟨u,k b u i q⟩
def Un.mono(u:Un fs ex H H1 h h1)(g:∀b∈fs,b∈Vs)(f:∀b∈ex,b∈Vz):Un Vs Vz H H1 h h1:=
 ⟨λb d q n i c=>u.keep b d q n (λz=>i (g b z)) λz=>c (f b z),λ_ _ q n _ c=>u.any q n λz=>c (f _ z),λb d q n c=>u.free b d q n λz=>c (f b z),λb d q c=>u.there b d q λz=>c (f b z),u.tups,u.frzs,u.tbls⟩
end
def IF(h:aV)(H:Hp):List ab:=(aM h.objs.size).filter λa=>(H a).isSome
def yd(h:aV)(H:Hp):aV:=PySem.W.hideAll h (IF h H)
def zeu(h:aV)(H:Hp):(yd h H).objs.size=h.objs.size:=PySem.W.hideAll_size _ _
def zgK(e:h.get? b=Jd o)(n:H b=Jf):(yd h H).get? b=Jd o:=
 PySem.W.hideAll_get _ e λa=>by
  have q:(H b).isSome=Jg:=(aB.mp a).2;rw[n] at q;simp at q
def Zb(e:(yd h H).get? b=Jd o):h.get? b=Jd o/\H b=Jf:=by
 have a:h.get? b=Jd o:=PySem.W.of_hideAll (IF h H) e;refine⟨a,?_⟩;cases q:H b with
 |none=>rfl
 | some x=>
  have c:b∈IF h H:=aB.mpr ⟨aU.mpr (aR a),by simp[q]⟩;have z:(yd h H).get? b=Jf:=PySem.W.hideAll_none (IF h H) c;rw[z] at e;cases e
noncomputable def ZA(g h:aV)(L:ab):List (ab×Obj):=(aM h.objs.size).filterMap λa=>if a=L\/(g.get? a).isSome=Jg then Jf else (h.get? a).map λo=>(a,o)
def rest(g h:aV)(L d:ab):List (ab×Obj):=(ZA g h L).filter λp=>decide (p.1≠d)
structure Mod(K:ah)(mg:az->Option ae)(base:aV):Prop where
 kin:K.In base
 glob:base.Ns bB mg
 blt:∃mb,base.Ns builtinsNs mb/\∀x:az,x ≠ "__name__"->mb x=bu x
 nolimit:base.NoLimit
structure Cx where
 prog:aQ
 w:a8
 K:ah
 mg:az->Option ae
 base:aV
 A:be
 N:List az
 s₀:ag
 H₀:Hp
 env:Env
 outer:List Env
 stack:List Env
 ex:List ab
 fn:az->Bool
 calm:Bool
 pn:List (ab×Obj)
 xe:ae->ag->Prop
noncomputable def t8(l:List Env):List ab:=l.filterMap (·.frame)
abbrev Cx.fs(X:Cx):List ab:=t8 X.outer
def uA(sc:cG)(x:az):Prop:=sc.names.lookup x=Jd .local\/sc.names.lookup x=Jd .cell\/sc.names.lookup x=Jd .free
def Loc(sc:cG)(x:az):Prop:=sc.names.lookup x=Jd .local\/sc.names.lookup x=Jd .cell
def V9(env:Env)(h:aV)(m:az->Option ae)(x:az)(u:ae):Prop:=
 (env.kindOf x=Jd .local/\m x=Jd u)\/((env.kindOf x=Jd .cell\/env.kindOf x=Jd .free)/\∃c,env.cells.lookup x=Jd c/\h.IsCell c (Jd u))
structure Cx.Ok(X:Cx):Prop where
 mod:Mod X.K X.mg X.base
 kind:X.env.scope.kind=.function
 glob:X.env.globals=bB
 blt:X.env.builtins=builtinsNs
 above:X.s₀.heap.objs.size<=X.env.locals
 inj:∀x y c,X.env.cells.lookup x=Jd c->X.env.cells.lookup y=Jd c->x=y
 has:∀x,(X.env.kindOf x=Jd .cell\/X.env.kindOf x=Jd .free)->∃c,X.env.cells.lookup x=Jd c
 cab:∀x c,X.fn x=Jg->X.env.cells.lookup x=Jd c->X.s₀.heap.objs.size<=c
 hd:X.calm=Jg->X.A.handled=Jf
 frames:X.A.frames=Jd X.stack
 stk:X.stack=X.outer\/(X.stack=X.env::X.outer/\X.env.frame=Jd X.env.locals)
 exf:∀b∈X.ex,b≠X.env.locals/\∀x c,X.env.cells.lookup x=Jd c->c≠b
 bs:∀b o,X.base.get? b=Jd o->X.s₀.heap.get? b=Jd o/\X.H₀ b=Jf
 bsz:X.base.objs.size<=X.s₀.heap.objs.size
 noex:∀b o,X.base.get? b=Jd o->b∉X.ex
 exfs:∀b∈X.ex,b∉X.fs
 funs:X.s₀.heap.FunFrames X.base X.outer
 frf:∀b∈X.fs,X.H₀ b=Jf
structure Inv(X:Cx)(Y1:List (ab×Obj))(σ:List (Option V))(H:Hp)(s:ag):Prop where
 ok:X.Ok
 os:s.os=X.s₀.os
 bare:gN s.gens
 base:Un X.fs X.ex X.H₀ H X.s₀.heap s.heap
 loc:∃m,s.heap.Ns X.env.locals m/\∀(i:Nat)(x:az)(v:V),X.N[i]?=Jd x->σ[i]?=Jd (Jd v)->uA X.env.scope x->∃u,RelV v u/\V9 X.env s.heap m x u
 cell:∀x c,X.env.cells.lookup x=Jd c->∃v,s.heap.IsCell c v
 free:H X.env.locals=Jf
 freeC:∀x c,X.env.cells.lookup x=Jd c->H c=Jf
 pin:∀p∈X.pn++Y1,s.heap.get? p.1=Jd p.2/\H p.1=Jf/\p.1≠X.env.locals/\p.1∉X.fs/\∀v,p.2.data ≠ .cell v
 hok:HOk X.prog X.w H s.heap
 len:σ.length=X.N.length
 tk:0<s.toks
section
variable{X:Cx}{Y1:List (ab×Obj)}{σ:List (Option V)}{H H':Hp}{s:ag}{h':aV}
def Cx.Ok.nofr(ok:X.Ok)(e:X.base.get? b=Jd o):b∉X.fs:=λa=>by
 have:=(ok.funs.mem a).1;rw[e] at this;cases this
def Inv.bs(I:Inv X Y1 σ H s):∀b o,X.base.get? b=Jd o->s.heap.get? b=Jd o/\H b=Jf:=λb o e=>
 ⟨I.base.keep b o (I.ok.bs b o e).1 (I.ok.bs b o e).2 (I.ok.nofr e) (I.ok.noex b o e),I.base.free b o (I.ok.bs b o e).1 (I.ok.bs b o e).2 (I.ok.noex b o e)⟩
def Inv.bk(I:Inv X Y1 σ H s):∀b o,X.base.get? b=Jd o->s.heap.get? b=Jd o:=λb o e=>(I.bs b o e).1
def Inv.mod(I:Inv X Y1 σ H s):Mod X.K X.mg X.base:=I.ok.mod
def Inv.kIn(I:Inv X Y1 σ H s):X.K.In s.heap:=I.ok.mod.kin.keeps I.bk
def Inv.lt(I:Inv X Y1 σ H s):X.env.locals<s.heap.objs.size:=let ⟨_,hn,_⟩:=I.loc;hn.lt
def Inv.sz(I:Inv X Y1 σ H s):X.s₀.heap.objs.size<=s.heap.objs.size:=aG I.ok.above (fk I.lt)
def Inv.nofs(I:Inv X Y1 σ H s)(h:s.heap.objs.size<=a):a∉X.fs:=λb=>by
 obtain⟨_,o,c,_⟩:=I.ok.funs.mem b;exact absurd (bi (aR c) (aG I.sz h)) (cR _)
def Inv.cne(I:Inv X Y1 σ H s):∀x c,X.env.cells.lookup x=Jd c->c≠X.env.locals:=λx c e z=>by
 obtain⟨v,o,a,b⟩:=I.cell x c e;obtain⟨m,⟨g,h,i,d,f,_⟩,_⟩:=I.loc;rw[z,d] at a;cases a;rw[f] at b;cases b
def Inv.funs(I:Inv X Y1 σ H s):s.heap.FunFrames X.base X.outer:=by
 have a:∀(l:List Env),(∀b∈t8 l,b∈X.fs)->X.s₀.heap.FunFrames X.base l->s.heap.FunFrames X.base l:=by
  intro l
  induction l with
  |nil=>intro _ _;trivial
  | cons env r ih=>
   intro g h;obtain⟨i,⟨L,o,c,j,k,m⟩,n⟩:=h;have d:L∈X.fs:=g L (by unfold t8;rw[iI,c];exact am);obtain⟨p,e⟩:=I.base.slot L o k (I.ok.frf L d) d λz=>I.ok.exfs L z d;exact⟨i,⟨L,_,c,j,e,m⟩,ih (λb f=>g b (by unfold t8;rw[iI,c];exact ak _ f)) n⟩
 exact a X.outer (λ_ f=>f) I.ok.funs
def Inv.stack(I:Inv X Y1 σ H s):s.heap.FunFrames X.base X.stack:=by
 rcases I.ok.stk with e|⟨e,a⟩
 ·rw[e];exact I.funs
 ·rw[e];obtain⟨m,b,_⟩:=I.loc;refine .cons (by rw[I.ok.kind];decide) a b ?_ I.funs;exact Heap.get?_none_of_le (aG I.ok.bsz I.ok.above)
def Inv.stkSub(I:Inv X Y1 σ H s):∀b∈t8 X.stack,b∈X.env.locals::X.fs:=λb a=>by
 rcases I.ok.stk with e|⟨e,c⟩
 ·rw[e] at a;exact ak _ a
 ·rw[e] at a;unfold t8 at a;rw[iI,c] at a;exact a
def Inv.stkFree(I:Inv X Y1 σ H s):∀b∈t8 X.stack,H b=Jf:=λb hb=>by
 rcases ar.mp (I.stkSub b hb) with e|hb
 ·rw[e];exact I.free
 ·obtain⟨_,o,a,_⟩:=I.ok.funs.mem hb;exact I.base.free b o a (I.ok.frf b hb) λz=>I.ok.exfs b z hb
def Inv.step{g':Array mh}{t':Nat}{d':Drawn}{ch:List ab}(I:Inv X Y1 σ H s)
  (C:∀b∈ch,(b∈X.ex\/X.s₀.heap.objs.size<=b)/\b≠X.env.locals/\(∀x c,X.env.cells.lookup x=Jd c->c≠b)/\∀p∈X.pn++Y1,p.1≠b)
  (g:∀b o,b≠X.env.locals->b∉X.fs->b∉ch->s.heap.get? b=Jd o->H b=Jf->h'.get? b=Jd o)
  (t:∀b o,b≠X.env.locals->b∈X.fs->b∉ch->s.heap.get? b=Jd o->H b=Jf->∃O,h'.get? b=Jd { o with slots:=O }) (f:∀b o,b∉ch->s.heap.get? b=Jd o->H b=Jf->H' b=Jf)
  (y:∀b o,b∉ch->s.heap.get? b=Jd o->∃D,h'.get? b=Jd D)
  (E:∀b xs,H b=Jd (.tup xs)->H' b=Jd (.tup xs)) (F:∀b o u,H b=Jd (.frz o u)->H' b=Jd (.frz o u)) (G:∀b M,H b=Jd (.tbl M)->∃J,H' b=Jd (.tbl (M++J)))
  (ns:∀m,s.heap.Ns X.env.locals m->h'.Ns X.env.locals m) (P:HOk X.prog X.w H' h') (Y:gN g') (Z:0<t'):
  Inv X Y1 σ H' { s with heap:=h',gens:=g',drawn:=d',toks:=t' }:=by
 have R:∀b o,X.s₀.heap.get? b=Jd o->b≠X.env.locals:=λb o e=>bt (bi (aR e) I.ok.above);have N:∀b o,X.s₀.heap.get? b=Jd o->b∉X.ex->b∉ch:=λb o e a A=>by
  rcases (C b A).1 with z|z
  ·exact a z
  ·exact absurd (bi (aR e) z) (cR _)
 have h:∀x c,X.env.cells.lookup x=Jd c->∀v,s.heap.IsCell c v->h'.IsCell c v:=λx c e v ⟨o,B,Q⟩=>by
  have K:c∉ch:=λz=>(C c z).2.2.1 x c e rfl;by_cases S:c∈X.fs
  ·obtain⟨O,q⟩:=t c o (I.cne x c e) S K B (I.freeC x c e);exact⟨_,q,Q⟩
  ·exact⟨o,g c o (I.cne x c e) S K B (I.freeC x c e),Q⟩
 refine⟨I.ok,I.os,Y,⟨λb o e n A a=>?_,λb o e n A a=>?_,λb o e n a=>?_,λb o e a=>?_,λb xs e=>E b xs (I.base.tups b xs e),λb o xs e=>F b o xs (I.base.frzs b o xs e),λb M e=>?_⟩,?_,λx c e=>?_,?_,λx c e=>?_,λp T=>?_,P,I.len,Z⟩
 ·exact g b o (R b o e) A (N b o e a) (I.base.keep b o e n A a) (I.base.free b o e n a)
 ·obtain⟨O,j⟩:=I.base.slot b o e n A a;obtain⟨BC,L⟩:=t b _ (R b o e) A (N b o e a) j (I.base.free b o e n a);exact⟨BC,L⟩
 ·obtain⟨D,j⟩:=I.base.there b o e a;exact f b D (N b o e a) j (I.base.free b o e n a)
 ·obtain⟨D,j⟩:=I.base.there b o e a;exact y b D (N b o e a) j
 ·obtain⟨m1,j⟩:=I.base.tbls b M e;obtain⟨m2,L⟩:=G b _ j;exact⟨m1++m2,by rw[L,lc]⟩
 ·obtain⟨m,hn,hl⟩:=I.loc;refine⟨m,ns m hn,λi x v j L e3=>?_⟩;obtain⟨u,r,l⟩:=hl i x v j L e3;refine⟨u,r,?_⟩;rcases l with l|⟨k,c,e,z⟩
  ·exact .inl l
  ·exact .inr ⟨k,c,e,h x c e _ z⟩
 ·obtain⟨v,z⟩:=I.cell x c e;exact⟨v,h x c e v z⟩
 ·obtain⟨m,⟨o,_,_,B,_⟩,_⟩:=I.loc;exact f _ o (λz=>(C _ z).2.1 rfl) B I.free
 ·obtain⟨v,o,B,Q⟩:=I.cell x c e;exact f c o (λz=>(C c z).2.2.1 x c e rfl) B (I.freeC x c e)
 ·obtain⟨e,n,U,W,d⟩:=I.pin p T;have K:p.1∉ch:=λz=>(C p.1 z).2.2.2 p T rfl;exact⟨g p.1 p.2 U W K e n,f p.1 p.2 K e n,U,W,d⟩
def Inv.un{t':Nat}(I:Inv X Y1 σ H s)(u:Un X.fs [] H H' s.heap h')(a:HOk X.prog X.w H' h')(g:0<t':=by first|exact cK _|exact Inv.tk ‹_›|assumption|lia):Inv X Y1 σ H' { s with heap:=h',toks:=t' }:=by
 obtain⟨m,⟨o,p,q,d,r⟩,_⟩:=id I.loc;obtain⟨t,h⟩:=u.any d I.free 'd';exact I.step (g':=s.gens) (d':=s.drawn) (ch:=[]) (λ_ z=>nomatch z) (λb o _ c _ e n=>u.keep b o e n c 'd') (λb o _ c _ e n=>u.slot b o e n c 'd') (λb o _ e n=>u.free b o e n 'd') (λb o _ e=>u.there b o e 'd') u.tups u.frzs u.tbls (λv i=>by
  obtain⟨x,j,k,f,l⟩:=i;rw[d] at f;cases f;exact⟨_,j,k,h,l⟩) a I.bare g
def Inv.call{g':Array mh}{t':Nat}{d':Drawn}{ch:List ab}(I:Inv X Y1 σ H s)(u:Un (t8 X.stack) ch H H' s.heap h')(d:HOk X.prog X.w H' h')(j:gN g')
  (g:∀b∈ch,(b∈X.ex\/X.s₀.heap.objs.size<=b)/\b≠X.env.locals/\(∀x c,X.env.cells.lookup x=Jd c->c≠b)/\∀p∈X.pn++Y1,p.1≠b) (k:0<t':=by first|exact cK _|exact Inv.tk ‹_›|assumption|lia):
  Inv X Y1 σ H' { s with heap:=h',gens:=g',drawn:=d',toks:=t' }:=by
 obtain⟨m,⟨o,A,B,h,r⟩,_⟩:=id I.loc;obtain⟨C,f⟩:=u.any h I.free λz=>(g _ z).2.1 rfl;exact I.step (ch:=ch) g (λb o f l a e n=>u.keep b o e n (λz=>(ar.mp (I.stkSub b z)).elim f l) a) (λb o _ _ a e n=>u.any e n a) (λb o a e n=>u.free b o e n a) (λb o a e=>u.there b o e a) u.tups u.frzs u.tbls (λD q=>by
  obtain⟨E,t,v,i,y⟩:=q;rw[h] at i;cases i;exact⟨_,t,v,f,y⟩) d j k
def Inv.turned{t':Nat}{it:ab}(I:Inv X Y1 σ H s)(k:∀b o,b≠it->s.heap.get? b=Jd o->h'.get? b=Jd o)(g:H it=Jf)(d:it≠X.env.locals)
  (h:it∈X.ex\/X.s₀.heap.objs.size<=it) (i:∀x c,X.env.cells.lookup x=Jd c->c≠it) (j:∀p∈X.pn++Y1,p.1≠it) (l:0<t':=by first|exact cK _|exact Inv.tk ‹_›|assumption|lia):Inv X Y1 σ H { s with heap:=h',toks:=t' }:=by
 have f:∀b u,H b=Jd u->b≠it:=λb u e z=>by rw[z,g] at e;cases e
 refine I.step (g':=s.gens) (d':=s.drawn) (ch:=[it]) (λb t=>?_) (λb o _ _ a e _=>k b o (λz=>a (by simp[z])) e) (λb o _ _ a e _=>⟨o.slots,k b o (λz=>a (by simp[z])) e⟩) (λ_ _ _ _ n=>n)
  (λb o a e=>⟨o,k b o (λz=>a (by simp[z])) e⟩) (λ_ _ e=>e) (λ_ _ _ e=>e) (λb C e=>⟨#[],by rw[e];simp⟩) (λm w=>?_) (λb u e=>?_) I.bare l
 ·have e:b=it:=⇑t
  subst e;exact⟨h,d,i,j⟩
 ·obtain⟨o,y,A,B,r⟩:=w;exact⟨o,y,A,k _ o (bI d) B,r⟩
 ·refine(I.hok b u e).stay (λc v a q=>k c v ?_ q) (λ_ q=>q) λ_ _ q=>q;rcases a with z|z
  ·rw[z];exact f b u e
  ·exact f c _ z
def Inv.tok(I:Inv X Y1 σ H s)(t:Nat)(a:0<t:=by first|exact cK _|exact Inv.tk ‹_›|assumption|lia):Inv X Y1 σ H { s with toks:=t }:=I.un (h':=s.heap) (t':=t) Un.refl I.hok
def Inv.kept(I:Inv X Y1 σ H s)(k:∀b u,s.heap.get? b=Jd u->h'.get? b=Jd u)(a:0<t':=by first|exact cK _|exact Inv.tk ‹_›|assumption|lia):Inv X Y1 σ H { s with heap:=h',toks:=t' }:=I.un (Un.kept k) (I.hok.kept k)
def Inv.laid{a:ab}{o:HO}{t':Nat}(I:Inv X Y1 σ H s)(k:∀b u,s.heap.get? b=Jd u->h'.get? b=Jd u)(c:s.heap.objs.size<=a)(d:nJ X.prog X.w (upd H a o) h' a o)(e:0<t':=by first|exact cK _|exact Inv.tk ‹_›|assumption|lia):
  Inv X Y1 σ (upd H a o) { s with heap:=h',toks:=t' }:=I.un (Un.laid k c (I.hok.fresh c)) (I.hok.laid k c d)
def Inv.write(I:Inv X Y1 σ H s)(c:Gi (H x))(d:e=x\/H e=Jd (.own x))(k:∀b u,b≠e->s.heap.get? b=Jd u->h'.get? b=Jd u)(f:∃u,h'.get? e=Jd u)
  (a:nJ X.prog X.w (upd H x o) h' x o) (g:0<t':=by first|exact cK _|exact Inv.tk ‹_›|assumption|lia):Inv X Y1 σ (upd H x o) { s with heap:=h',toks:=t' }:=I.un (Un.write c d k f) (I.hok.write c d k f a)
def Inv.pins_of(I:Inv X Y1 σ H s)(h:∀p∈E9,s.heap.get? p.1=Jd p.2/\H p.1=Jf/\p.1≠X.env.locals/\p.1∉X.fs/\∀v,p.2.data ≠ .cell v):Inv X E9 σ H s:=
 ⟨I.ok,I.os,I.bare,I.base,I.loc,I.cell,I.free,I.freeC,λp a=>(aK.mp a).elim (λz=>I.pin p (bA _ z)) (h p),I.hok,I.len,I.tk⟩
def RP{N:List az}(c:N.Nodup){i j:Nat}{x:az}(a:N[i]?=Jd x)(b:N[j]?=Jd x):i=j:=by obtain⟨f,d⟩:=al.mp a;obtain⟨g,e⟩:=al.mp b;exact(jw c).mp (d.trans e.symm)
def HL{M:iw}{A:be}{E:ae->ag->Prop}{i:Nat}{x:az}{v:V}{u:ae}{Q:Unit->ag->Prop}(I:Inv X Y1 σ H s)(hN:X.N.Nodup)(G:X.N[i]?=Jd x)(t:Loc X.env.scope x)(r:RelV v u)
  (h:∀O,Inv X Y1 (σ.set i (Jd v)) H O->(∃a,dB a s.heap O.heap/\(a=X.env.locals\/X.env.cells.lookup x=Jd a))->Q () O) (hf:X.fn x=Jg\/X.env.scope.names.lookup x=Jd .local:=by first|exact .inl rfl|exact .inr rfl|assumption):ay M A (storeName X.env x u) Q E s:=by
 obtain⟨m,P,hl⟩:=id I.loc;have B4:(X.env.scope.kind == .class||(X.env.scope.kind == .module&&X.env.locals !=X.env.globals))=Jh:=by rw[I.ok.kind];rfl
 have FY:i<σ.length:=by rw[I.len];exact(al.mp G).1
 have C:=I.cne;have g:∀{a:ab}{h':aV},(∃o,s.heap.get? a=Jd o/\H a=Jf)->dB a s.heap h'->HOk X.prog X.w H h':=λ{a h'}ha f b ob e=>by
  obtain⟨_,_,p9⟩:=ha;refine(I.hok b ob e).stay (λc J hc q=>(f.2 c ?_).trans q) (λ_ q=>q) λ_ _ q=>q;rintro rfl;rcases hc with rfl|hc
  ·rw[p9] at e;cases e
  ·rw[p9] at hc;cases hc
 rcases t with hk|hk
 ·refine wpAny_storeName_local hk P (λh' Na f=>?_) B4;obtain⟨oL,_,_,FP,_⟩:=id P;refine h _ ⟨I.ok,I.os,I.bare,⟨λb o e n D t=>?_,λb o e n D t=>?_,I.base.free,λb o e t=>?_,I.base.tups,I.base.frzs,I.base.tbls⟩,⟨_,Na,λj y R l B S=>?_⟩,λy c e=>?_,I.free,I.freeC,λp T=>?_,g ⟨oL,FP,I.free⟩ f,by simpa using I.len,cK _⟩ ⟨_,f,.inl rfl⟩
  ·exact(f.2 b (bt (bi (aR e) I.ok.above))).trans (I.base.keep b o e n D t)
  ·obtain⟨U,l⟩:=I.base.slot b o e n D t;exact⟨U,(f.2 b (bt (bi (aR e) I.ok.above))).trans l⟩
  ·obtain⟨W,l⟩:=I.base.there b o e t;exact⟨W,(f.2 b (bt (bi (aR e) I.ok.above))).trans l⟩
  ·by_cases F:j=i
   ·subst F;rw[G] at l;cases l;rw[bq FY] at B;cases B;exact⟨u,r,.inl ⟨hk,by simp⟩⟩
   ·rw[bj (bI F)] at B;obtain⟨Y,Z,q⟩:=hl j y R l B S;refine⟨Y,Z,?_⟩;rcases q with⟨k,e⟩|⟨k,c,e,z⟩
    ·refine .inl ⟨k,?_⟩;have:y≠x:=λe=>F (RP hN l (e▸G));simp[this,e]
    ·exact .inr ⟨k,c,e,z.sameBut f (C y c e)⟩
  ·obtain⟨J,z⟩:=I.cell y c e;exact⟨J,z.sameBut f (C y c e)⟩
  ·obtain⟨e,n,K,nf,d⟩:=I.pin p T;exact⟨(f.2 p.1 K).trans e,n,K,nf,d⟩
 ·have Dv:X.fn x=Jg:=by
   rcases hf with z|z
   ·exact z
   ·rw[z] at hk;cases hk
  obtain⟨c,hc⟩:=I.ok.has x (.inl hk);obtain⟨J,z⟩:=I.cell x c hc;refine wpAny_storeName_cell I.ok.kind hk hc z (λh' zR f=>?_);obtain⟨oc,Ds,M8⟩:=id z;refine h { s with heap:=h' } ⟨I.ok,I.os,I.bare,⟨λb o e n D t=>?_,λb o e n D t=>?_,I.base.free,λb o e t=>?_,I.base.tups,I.base.frzs,I.base.tbls⟩,⟨m,P.sameBut f (bI (C x c hc)),λj y R l B S=>?_⟩,λy L e=>?_,I.free,I.freeC,λp T=>?_,g ⟨oc,Ds,I.freeC x c hc⟩ f,by simpa using I.len,I.tk⟩ ⟨c,f,.inr hc⟩
  ·exact(f.2 b (bt (bi (aR e) (I.ok.cab x c Dv hc)))).trans (I.base.keep b o e n D t)
  ·obtain⟨U,l⟩:=I.base.slot b o e n D t;exact⟨U,(f.2 b (bt (bi (aR e) (I.ok.cab x c Dv hc)))).trans l⟩
  ·obtain⟨W,l⟩:=I.base.there b o e t;exact⟨W,(f.2 b (bt (bi (aR e) (I.ok.cab x c Dv hc)))).trans l⟩
  ·by_cases F:j=i
   ·subst F;rw[G] at l;cases l;rw[bq FY] at B;cases B;exact⟨u,r,.inr ⟨.inl hk,c,hc,zR⟩⟩
   ·rw[bj (bI F)] at B;obtain⟨Y,Z,q⟩:=hl j y R l B S;refine⟨Y,Z,?_⟩;rcases q with q|⟨k,L,e,z'⟩
    ·exact .inl q
    ·refine .inr ⟨k,L,e,z'.sameBut f ?_⟩;rintro rfl;exact F (RP hN l (I.ok.inj _ _ _ e hc▸G))
  ·by_cases t6:L=c
   ·subst t6;exact⟨_,zR⟩
   ·obtain⟨w2,z2⟩:=I.cell y L e;exact⟨w2,z2.sameBut f t6⟩
  ·obtain⟨e,n,K,nf,d⟩:=I.pin p T;refine⟨(f.2 p.1 ?_).trans e,n,K,nf,d⟩;intro q;rw[q,Ds] at e;have q':oc=p.2:=ci e;exact d J (by rw[<- q'];exact M8)
def Ew(I:Inv X Y1 σ H s)(b:X.N.Nodup)(c:X.N[i]?=Jd x)(d:Loc X.env.scope x)(r:RelV v u)
  (h:∀a,Inv X Y1 (σ.set i (Jd v)) H a->Q () a) (e:X.fn x=Jg\/X.env.scope.names.lookup x=Jd .local:=by first|exact .inl rfl|exact .inr rfl|assumption):ay M A (storeName X.env x u) Q E s:=
 HL I b c d r (λa f _=>h a f) e
def Inv.call'(I:Inv X Y1 σ H s)(d:s'.os=s.os)(u:Un (t8 X.stack) ch H H' s.heap s'.heap)(a:HOk X.prog X.w H' s'.heap)(f:gN s'.gens)
  (g:∀b∈ch,(b∈X.ex\/X.s₀.heap.objs.size<=b)/\b≠X.env.locals/\(∀x c,X.env.cells.lookup x=Jd c->c≠b)/\∀p∈X.pn++Y1,p.1≠b) (i:0<s'.toks:=by first|exact cK _|exact Inv.tk ‹_›|assumption|lia):Inv X Y1 σ H' s':=by obtain⟨h',g',d',t',h⟩:=s';have e:h=s.os:=d;subst e;exact I.call (g':=g') (t':=t') (d':=d') u a f g
end
abbrev XK:=ae->Option ab->Hp->Prop
abbrev St:=List (Option V)
abbrev VK:=V->Hp->Prop
abbrev TE:=St->Hp->VK->Prop
abbrev TT:=St->Hp->(Bool->Hp->Prop)->Prop
abbrev TA:=St->Hp->(List V->Hp->Prop)->Prop
structure ye where
 nx:St->Hp->Prop
 rt:VK
 bk:St->Hp->Prop:=λ_ _=>False
 ct:St->Hp->Prop:=λ_ _=>False
abbrev TS:=ye->St->Hp->Prop
def EP(X:Cx)(Y1:List (ab×Obj))(σ:St)(Q:VK)(u:ae)(s':ag):Prop:=∃v H',Inv X Y1 σ H' s'/\RelV v u/\Q v H'
def TP(X:Cx)(Y1:List (ab×Obj))(σ:St)(Q:Bool->Hp->Prop)(b:Bool)(s':ag):Prop:=∃H',Inv X Y1 σ H' s'/\Q b H'
def AP(X:Cx)(Y1:List (ab×Obj))(σ:St)(Q:List V->Hp->Prop)(us:List ae)(s':ag):Prop:=∃vs H',Inv X Y1 σ H' s'/\nu vs us/\Q vs H'
def SP(X:Cx)(Y1:List (ab×Obj))(D:ye)(f:Flow)(s':ag):Prop:=
 match f with
 |.next=>∃σ' H',Inv X Y1 σ' H' s'/\D.nx σ' H'
 |.brk=>∃σ' H',Inv X Y1 σ' H' s'/\D.bk σ' H'
 |.cont=>∃σ' H',Inv X Y1 σ' H' s'/\D.ct σ' H'
 |.ret u=>∃v σ' H',Inv X Y1 σ' H' s'/\RelV v u/\D.rt v H'
def PE(X:Cx)(e:aS)(t:TE):Prop:=
 ∀(Y1:List (ab×Obj))(s:ag)(σ:St)(H:Hp)(Q:VK),Inv X Y1 σ H s->t σ H Q->ay (aC X.prog X.w) X.A (eval e X.env) (EP X Y1 σ Q) X.xe s
def PT(X:Cx)(e:aS)(t:TT):Prop:=
 ∀(Y1:List (ab×Obj))(s:ag)(σ:St)(H:Hp)(Q:Bool->Hp->Prop),Inv X Y1 σ H s->t σ H Q->ay (aC X.prog X.w) X.A (isTrue e X.env (eval e X.env)) (TP X Y1 σ Q) X.xe s
def PW(X:Cx)(e:aS)(t:TT):Prop:=
 ∀(nX:Sem ae)(Y1:List (ab×Obj))(s:ag)(σ:St)(H:Hp)(Q:Bool->Hp->Prop),Inv X Y1 σ H s->t σ H Q->ay (aC X.prog X.w) X.A (isTrue e X.env nX) (TP X Y1 σ Q) X.xe s
def PW.pt(h:PW X e t):PT X e t:=h _
def PA(X:Cx)(es:List aS)(t:TA):Prop:=
 ∀(pos:Pos)(Y1:List (ab×Obj))(s:ag)(σ:St)(H:Hp)(Q:List V->Hp->Prop),Inv X Y1 σ H s->t σ H Q->ay (aC X.prog X.w) X.A (spliced (backTo pos (aP es X.env))) (AP X Y1 σ Q) X.xe s
def PS(X:Cx)(st:dW)(t:TS):Prop:=
 ∀(Y1:List (ab×Obj))(s:ag)(σ:St)(H:Hp)(D:ye),Inv X Y1 σ H s->t D σ H->ay (aC X.prog X.w) X.A (exec st X.env) (SP X Y1 D) X.xe s
def rZ(X:Cx)(st:List dW)(t:TS):Prop:=
 ∀(Y1:List (ab×Obj))(s:ag)(σ:St)(H:Hp)(D:ye),Inv X Y1 σ H s->t D σ H->ay (aC X.prog X.w) X.A (execs st X.env) (SP X Y1 D) X.xe s
def o7{α:Type}{t:Sem α}{Q b:α->ag->Prop}{M:iw}{A:be}{E:ae->ag->Prop}{s:ag}(h:ay M A t Q E s)(c:∀a s,Q a s->b a s):ay M A t b E s:=cj h c λ_ _ x=>x
section
variable{X:Cx}
def bin{a b:aS}{i j:TE}(k:PE X a i)(l:PE X b j){c:List (ab×Obj)}{s:ag}{σ:St}{H:Hp}{R:V->V->Hp->Prop}(I:Inv X c σ H s)(h:i σ H λx g=>j σ g λy d=>R x y d)
  {α:Type} {Q:α->ag->Prop} {f:ae->ae->Sem α}
  (m:∀v u e x y d,Inv X c σ d e->RelV x v->RelV y u->R x y d->ay (aC X.prog X.w) X.A (f v u) Q X.xe e):
  ay (aC X.prog X.w) X.A (eval a X.env) (λv n=>ay (aC X.prog X.w) X.A (eval b X.env) (λu o=>ay (aC X.prog X.w) X.A (f v u) Q X.xe o) X.xe n) X.xe s:=by refine o7 (k c s σ H _ I h) λv p ⟨x,g,q,r,t⟩=>?_;refine o7 (l c p σ g _ q t) λu e ⟨y,d,z,B,C⟩=>?_;exact m v u e x y d z r B C
def JC(i:Nat):TE:=λσ H Q=>∃v,σ[i]?=Jd (Jd v)/\Q v H
def tC(v:V):TE:=λ_ H Q=>Q v H
abbrev rG(x:az):Prop:=(x==("__debug__":az))=Jh
def J_(j:X.N[i]?=Jd x)(k:uA X.env.scope x)(d:rG x:=by decide)(n:(x==("__classdict__":az))=Jh:=by decide):PE X (.Name x pos) (JC i):=by
 intro b s o H Q I h;obtain⟨v,e,h⟩:=h;obtain⟨m,p,q⟩:=I.loc;obtain⟨u,r,l⟩:=q i x v j e k;have a:EP X b o Q u s:=⟨v,H,I,r,h⟩;rcases l with⟨hk,t⟩|⟨hk,c,f,g⟩
 ·exact wpAny_Name (kF I.ok.kind hk p t a) d
 ·rcases hk with hk|hk
  ·exact wpAny_Name (kW I.ok.kind hk f g a) d
  ·exact wpAny_Name (wpAny_loadName_free I.ok.kind hk f g a n) d
def Y0:PE X (.Constant (.int i) j pos) (tC (.int i)):=λ_ _ _ H _ I h=>wpAny_Constant_int ⟨.int i,H,I.tok _,⟨_,rfl⟩,h⟩
def Ws:PE X (.Constant (.bool b) j pos) (tC (.bl b)):=λ_ _ _ H _ I h=>Constant_bool ⟨.bl b,H,I,rfl,h⟩
def Yy:PE X (.Constant .none j pos) (tC .non):=λ_ _ _ H _ I h=>Constant_none ⟨.non,H,I,rfl,h⟩
def XR:PE X (.Constant (.str x) j pos) (tC (.str x)):=λ_ _ _ H _ I h=>Calls.Constant_str ⟨.str x,H,I.tok _,⟨_,rfl⟩,h⟩
def Gl(X:Cx)(x:az):Prop:=X.env.kindOf x=Jd .globalImplicit
def Qc(I:Inv X Y1 σ H s)(a:Gl X x)(b:X.mg x=Jd u)(h:Q u s)
  (c:rG x:=by decide):ay (aC X.prog X.w) X.A (eval (.Name x pos) X.env) Q E s:=
 jc I.ok.kind a (Calls.loadGlobal_global (by rw[I.ok.glob];exact I.mod.glob.keeps I.bk) b h) c
def Ai(I:Inv X Y1 σ H s)(a:Gl X x)(b:X.mg x=Jf)(c:bu x=Jd u)(h:Q u s)
  (d:x ≠ "__name__":=by decide) (e:rG x:=by decide):ay (aC X.prog X.w) X.A (eval (.Name x pos) X.env) Q E s:=by obtain⟨i,f,g⟩:=I.mod.blt;exact jc I.ok.kind a (Calls.loadGlobal_builtin (by rw[I.ok.glob];exact I.mod.glob.keeps I.bk) b (by rw[I.ok.blt];exact f.keeps I.bk) ((g x d).trans c) h) e
def Ei(a:Gl X x)(b:X.mg x=Jd u)(r:RelV v u)(c:rG x:=by decide):PE X (.Name x pos) (tC v):=
 λ_ _ _ H _ I h=>Qc I a b ⟨v,H,I,r,h⟩ c
def Zz(a:Gl X x)(b:X.mg x=Jf)(c:bu x=Jd u)(r:RelV v u)(d:x ≠ "__name__":=by decide)(e:rG x:=by decide):PE X (.Name x pos) (tC v):=
 λ_ _ _ H _ I h=>Ai I a b c ⟨v,H,I,r,h⟩ d e
variable{a b:aS}{ta tb:TE}{pos:Pos}
def PC(X:Cx)(op:CmpOp)(a b:aS)(t:TE):Prop:=
 ∀(Y1:List (ab×Obj))(s:ag)(σ:St)(H:Hp)(Q:VK),Inv X Y1 σ H s->t σ H Q->
  ay (aC X.prog X.w) X.A (eval a X.env) (λv oK=>ay (aC X.prog X.w) X.A (eval b X.env) (λu rL=>ay (aC X.prog X.w) X.A (bX op v u) (EP X Y1 σ Q) X.xe rL) X.xe oK) X.xe s
def RO(b:aS)(h:op ≠ .In)(c:op ≠ .NotIn):behindInMarks op b=Jh:=by
 have d:(op==CmpOp.In)=Jh:=by cases op<;>first|rfl|exact absurd rfl h
 have e:(op==CmpOp.NotIn)=Jh:=by cases op<;>first|rfl|exact absurd rfl c
 cases b<;>simp[behindInMarks,d,e]
def tB(t:TE):TT:=λσ H Q=>t σ H λx H1=>∃c,x=.bl c/\Q c H1
def YF(h:PC X op a b t)(d:behindInMarks op b=Jh:=by first|exact RO _ 's' 's'|rfl):PE X (.Compare a [op] [b] pos) t:=λc s e H Q I f=>wpAny_Compare1 (h c s e H Q I f) d
def XY{f:CmpOp}{t:TE}(h:PC X f a b t)(g:behindInMarks f b=Jh:=by first|exact RO _ 's' 's'|rfl):PT X (.Compare a [f] [b] pos) (tB t):=by intro e s i H Q I j;refine j5 (o7 (h e s i H _ I j) λv p g=>o7 g λu r k=>o7 k λc w ⟨x,l,m,n,o⟩=>?_) g;obtain⟨d,rfl,q⟩:=o;cases n;exact cP ⟨l,m,q⟩
variable{tA II:TT}{rest:List aS}
def Wi(t u:TT):TT:=λσ H Q=>t σ H λc H1=>if c=Jg then u σ H1 Q else Q Jh H1
def tOr(t u:TT):TT:=λσ H Q=>t σ H λc H1=>if c=Jg then Q Jg H1 else u σ H1 Q
def V7(t:TT):TT:=λσ H Q=>t σ H λc H1=>Q (!c) H1
def ziU(f:PT X a tA):PW X (.BoolOp .And [a] pos) tA:=by
 intro i d s g H Q I h;refine isTrue_and (o7 (f d s g H Q I h) λc j e=>?_);cases c with
 |true=>exact isTrue_and_nil e
 |false=>exact e
def Xr(f:PT X a tA):PW X (.BoolOp .Or [a] pos) tA:=by
 intro i d s g H Q I h;refine isTrue_or (o7 (f d s g H Q I h) λc j e=>?_);cases c with
 |false=>exact isTrue_or_nil e
 |true=>exact e
def Yl(j:PT X a tA)(k:PW X (.BoolOp .And (b::rest) pos) II):PW X (.BoolOp .And (a::b::rest) pos) (Wi tA II):=by
 intro l d s e H Q I h;refine isTrue_and (o7 (j d s e H _ I h) λc m ⟨f,g,i⟩=>?_);cases c with
 |true=>exact k l d m e f Q g i
 |false=>exact⟨f,g,i⟩
def W1(j:PT X a tA)(k:PW X (.BoolOp .Or (b::rest) pos) II):PW X (.BoolOp .Or (a::b::rest) pos) (tOr tA II):=by
 intro l d s e H Q I h;refine isTrue_or (o7 (j d s e H _ I h) λc m ⟨f,g,i⟩=>?_);cases c with
 |true=>exact⟨f,g,i⟩
 |false=>exact k l d m e f Q g i
def Yj(e:PT X a tA):PT X (.UnaryOp .Not a pos) (V7 tA):=by intro d s f H Q I h;exact isTrue_not (e d s f H (λc g=>Q (!c) g) I h)
def WX(ta tb:TE):TE:=λσ H Q=>ta σ H λx H1=>∃c,x=.bl c/\if c=Jg then tb σ H1 Q else Q (.bl Jh) H1
def Wm(ta tb:TE):TE:=λσ H Q=>ta σ H λx H1=>∃c,x=.bl c/\if c=Jg then Q (.bl Jg) H1 else tb σ H1 Q
def WB(ta:TE):TE:=λσ H Q=>ta σ H λx H1=>∃c,x=.bl c/\Q (.bl (!c)) H1
def XG(h:PE X a t):PE X (.BoolOp op [a] pos) t:=λc s d H Q I e=>BoolOp_one (h c s d H Q I e)
def XM(j:PE X a ta)(k:PE X (.BoolOp .And (b::rest) pos) tb):PE X (.BoolOp .And (a::b::rest) pos) (WX ta tb):=by
 intro d s f H Q I h;refine BoolOp_and (o7 (j d s f H _ I h) λv l ⟨x,g,i,m,e⟩=>?_);obtain⟨c,rfl,e⟩:=e;cases m;refine cP ?_;cases c with
 |true=>exact k d l f g Q i e
 |false=>exact⟨.bl Jh,g,i,rfl,e⟩
def WQ(j:PE X a ta)(k:PE X (.BoolOp .Or (b::rest) pos) tb):PE X (.BoolOp .Or (a::b::rest) pos) (Wm ta tb):=by
 intro d s f H Q I h;refine BoolOp_or (o7 (j d s f H _ I h) λv l ⟨x,g,i,m,e⟩=>?_);obtain⟨c,rfl,e⟩:=e;cases m;refine cP ?_;cases c with
 |false=>exact k d l f g Q i e
 |true=>exact⟨.bl Jg,g,i,rfl,e⟩
def X8(f:PE X a ta):PE X (.UnaryOp .Not a pos) (WB ta):=by intro d s g H Q I h;refine UnaryOp_ (o7 (f d s g H _ I h) λv l ⟨x,i,j,k,e⟩=>?_);obtain⟨c,rfl,e⟩:=e;cases k;exact not_of (cP ⟨.bl (!c),i,j,rfl,e⟩)
def tIf(t:TT)(ta tb:TE):TE:=λσ H Q=>t σ H λc H1=>if c=Jg then ta σ H1 Q else tb σ H1 Q
def zf3{c:aS}(l:PT X c tA)(m:PE X a ta)(n:PE X b tb):PE X (.IfExp c a b pos) (tIf tA ta tb):=by
 intro e s f H Q I h;refine wpAny_IfExp (o7 (l e s f H _ I h) λd g ⟨i,j,k⟩=>?_);cases d with
 |true=>exact m e g f i Q j k
 |false=>exact n e g f i Q j k
end
def qg(K:ah)(H:Hp)(a:ab)(xs:List V):Prop:=
 Rd H a (.lst xs) \/
  ∃(o:Obj)(d_:Array ae)(n:Nat),K.lookup a=Jd o/\o.cls=.type "list"/\o.dict=Jf/\o.data=.seq d_ n/\d_.size<=KM/\nu xs d_.toList
def qX(K:ah)(H:Hp)(a:ab)(xs:List V):Prop:=
 Rd H a (.tup xs) \/
  ∃(o:Obj)(d_:Array ae)(n:Nat),K.lookup a=Jd o/\o.cls=.type "tuple"/\o.data=.seq d_ n/\d_.size<=KM/\nu xs d_.toList
def VU:ae->Option V
 |.none=>Jd .non
 |.bool b=>Jd (.bl b)
 |.int i _=>Jd (.int i)
 |.str x _=>Jd (.str x)
 |.bytes b _=>Jd (.byt b)
 |.float b _=>Jd (.flt b)
 |.ref a=>Jd (.ref a)
 |.type n=>Jd (.ty n)
 |_=>Jf
def RelV.abs(r:RelV x u):VU u=Jd x:=by
 cases x with
 |non=>cases r;rfl
 |bl _=>cases r;rfl
 |int _=>obtain⟨t,rfl⟩:=r;rfl
 |str _=>obtain⟨t,rfl⟩:=r;rfl
 |byt _=>obtain⟨t,rfl⟩:=r;rfl
 |flt _=>obtain⟨t,rfl⟩:=r;rfl
 |ref _=>cases r;rfl
 |ty _=>cases r;rfl
def RelV.inj(r:RelV x u)(q:RelV y u):x=y:=ci (r.abs.symm.trans q.abs)
theorem nu.inj:∀{xs a:List V}{b:List ae},nu xs b->nu a b->xs=a
 |_,_,_,.nil,.nil=>rfl
 |_,_,_,.cons r t,.cons r' t'=>by rw[r.inj r',nu.inj t t']
section
variable{X:Cx}{Y1:List (ab×Obj)}{σ:St}{H:Hp}{s:ag}{a:ab}{xs ys:List V}
def qg.of{K:ah}(h:H a=Jd (.lst xs)):qg K H a xs:=.inl (.inl h)
def qX.of{K:ah}(h:H a=Jd (.tup xs)):qX K H a xs:=.inl (.inl h)
def Inv.list(I:Inv X Y1 σ H s)(h:qg X.K H a xs):∃b:List ae,nu xs b/\PlainL s.heap a b.toArray/\xs.length<=KM:=by
 rcases h with h|⟨o,b,n,c,d,f,g,i,r⟩
 ·obtain⟨z,b,n,r,e⟩:=h.ok I.hok;exact⟨b,r,⟨_,n,e,rfl,rfl,rfl⟩,z⟩
 ·refine⟨b.toList,r,⟨o,n,I.kIn a o c,d,f,by simpa using g⟩,?_⟩;have e:=r.length;simp only[aI] at e;lia
def Inv.tuple(I:Inv X Y1 σ H s)(h:qX X.K H a xs):∃b:List ae,nu xs b/\IsTup s.heap a b.toArray/\xs.length<=KM:=by
 rcases h with h|⟨o,b,n,c,d,f,g,r⟩
 ·obtain⟨z,b,r,p⟩:=h.ok I.hok;exact⟨b,r,p.tup,z⟩
 ·refine⟨b.toList,r,⟨o,I.kIn a o c,d,n,by simpa using f⟩,?_⟩;have e:=r.length;simp only[aI] at e;lia
def Inv.list_inj(I:Inv X Y1 σ H s)(h:qg X.K H a xs)(h':qg X.K H a ys):xs=ys:=by
 obtain⟨g,r,⟨o,n,e,_,_,d⟩,_⟩:=I.list h;obtain⟨b,i,⟨j,k,c,_,_,f⟩,_⟩:=I.list h';rw[e] at c;cases c;rw[d] at f;injection f with d1 _;have:g=b:=by simpa using congrArg lf d1
 subst this;exact r.inj i
def Inv.tuple_inj(I:Inv X Y1 σ H s)(h:qX X.K H a xs)(h':qX X.K H a ys):xs=ys:=by
 obtain⟨g,r,⟨o,e,_,n,d⟩,_⟩:=I.tuple h;obtain⟨b,i,⟨j,c,_,k,f⟩,_⟩:=I.tuple h';rw[e] at c;cases c;rw[d] at f;injection f with d1 _;have:g=b:=by simpa using congrArg lf d1
 subst this;exact r.inj i
end
abbrev Cx.wish(X:Cx)(E:ae->ag->Prop):Cx:={ X with xe:=E }
abbrev Cx.nox(X:Cx):Cx:=X.wish λ_ _=>False
def Cx.Ok.wish{X:Cx}(ok:X.Ok)(E:ae->ag->Prop):(X.wish E).Ok:=
 ⟨ok.mod,ok.kind,ok.glob,ok.blt,ok.above,ok.inj,ok.has,ok.cab,ok.hd,ok.frames,ok.stk,ok.exf,ok.bs,ok.bsz,ok.noex,ok.exfs,ok.funs,ok.frf⟩
def Cx.Ok.unwish{X:Cx}{E:ae->ag->Prop}(ok:(X.wish E).Ok):X.Ok:=
 ⟨ok.mod,ok.kind,ok.glob,ok.blt,ok.above,ok.inj,ok.has,ok.cab,ok.hd,ok.frames,ok.stk,ok.exf,ok.bs,ok.bsz,ok.noex,ok.exfs,ok.funs,ok.frf⟩
section
variable{X:Cx}{Y1:List (ab×Obj)}{σ:St}{H:Hp}{s:ag}{E:ae->ag->Prop}
def Inv.wish(I:Inv X Y1 σ H s)(E:ae->ag->Prop):Inv (X.wish E) Y1 σ H s:=⟨I.ok.wish E,I.os,I.bare,I.base,I.loc,I.cell,I.free,I.freeC,I.pin,I.hok,I.len,I.tk⟩
def Inv.unwish(I:Inv (X.wish E) Y1 σ H s):Inv X Y1 σ H s:=⟨I.ok.unwish,I.os,I.bare,I.base,I.loc,I.cell,I.free,I.freeC,I.pin,I.hok,I.len,I.tk⟩
def SP.unwish{D:ye}{f:Flow}{c:ag}(h:SP (X.wish E) Y1 D f c):SP X Y1 D f c:=by
 cases f with
 |next=>obtain⟨a,b,I,q⟩:=h;exact⟨a,b,I.unwish,q⟩
 |brk=>obtain⟨a,b,I,q⟩:=h;exact⟨a,b,I.unwish,q⟩
 |cont=>obtain⟨a,b,I,q⟩:=h;exact⟨a,b,I.unwish,q⟩
 |ret u=>obtain⟨v,a,b,I,r,q⟩:=h;exact⟨v,a,b,I.unwish,r,q⟩
def PE.nox(h:PE X.nox e t):PE X e t:=λY1 s σ H Q I a=>
 cj (h Y1 s σ H Q (I.wish _) a) (λ_ _ ⟨v,b,c,r,q⟩=>⟨v,b,c.unwish,r,q⟩) λ_ _ z=>aj z
def PT.nox(h:PT X.nox e t):PT X e t:=λY1 s σ H Q I a=>
 cj (h Y1 s σ H Q (I.wish _) a) (λ_ _ ⟨b,c,q⟩=>⟨b,c.unwish,q⟩) λ_ _ z=>aj z
def rZ.nox{a:List dW}{t:TS}(h:rZ X.nox a t):rZ X a t:=λY1 s σ H D I b=>
 cj (h Y1 s σ H D (I.wish _) b) (λ_ _ q=>q.unwish) λ_ _ z=>aj z
end
section
variable{X:Cx}{st:dW}{rest:List dW}{t u:TS}{e:aS}{te:TE}{pos:Pos}
def OG:TS:=λD σ H=>D.nx σ H
def Wo(t u:TS):TS:=λD σ H=>t { D with nx:=u D } σ H
def Z0:rZ X [] OG:=λ_ _ a H _ I h=>ix ⟨a,H,I,h⟩
def EC(c:PS X st t)(d:rZ X rest u):rZ X (st::rest) (Wo t u):=by
 intro a s g H D I h;refine wpAny_execs_cons (o7 (c a s g H { D with nx:=u D } I h) λf i q=>?_);cases f with
 | next=>
  obtain⟨b,j,k,q⟩:=q;exact d a i b j D k q
 |ret v=>exact q
 |brk=>exact q
 |cont=>exact q
def Qr(b:PS X st t):rZ X [st] t:=by
 intro a s c H D I h;refine wpAny_execs_cons (o7 (b a s c H D I h) λf d q=>?_);cases f with
 |next=>exact ix q
 |ret v=>exact q
 |brk=>exact q
 |cont=>exact q
def zib:PS X (.Pass pos) OG:=λ_ _ a H _ I h=>wpAny_Pass ⟨a,H,I,h⟩
def Inv.quiet{a:List (ab×Obj)}{σ:St}{H:Hp}{s:ag}(I:Inv X a σ H s):interactive X.env=Jh:=by simp[interactive,I.ok.kind]
def V0(te:TE):TS:=λD σ H=>te σ H λ_ H1=>D.nx σ H1
def QJ(c:PE X e te)(d:swapsWith e Jf pos.line X.env=pure Jh:=by rfl):PS X (.Expr e pos) (V0 te):=by intro a s b H D I h;exact wpAny_Expr_any (o7 (c a s b H _ I h) λv j ⟨x,f,g,k,i⟩=>⟨b,f,g,i⟩) I.quiet d
def V2(te:TE):TS:=λD σ H=>te σ H D.rt
def Xw(c:PE X e te):PS X (.Return (Jd e) pos) (V2 te):=by intro a s b H D I h;exact wpAny_Return_some (o7 (c a s b H _ I h) λv j ⟨x,d,f,g,i⟩=>⟨x,b,d,f,g,i⟩)
def V3(c:TT)(t u:TS):TS:=λD σ H=>c σ H λb H1=>if b=Jg then t D σ H1 else u D σ H1
def WU{c:aS}{a b:List dW}{i:TT}(n:PT X c i)(o:rZ X a t)(p:rZ X b u):PS X (.If c a b pos) (V3 i t u):=by
 intro f s g H D I h;refine wpAny_If (o7 (n f s g H _ I h) λd j ⟨k,l,m⟩=>?_);cases d with
 |true=>exact o f j g k D l m
 |false=>exact p f j g k D l m
def Xz:TS:=λ_ _ _=>False
def zcS:rZ X sts Xz:=λ_ _ _ _ _ _ h=>h.elim
end
abbrev TG:=V->St->Hp->(St->Hp->Prop)->Prop
abbrev DC:=List V->St->Hp->(St->Hp->Prop)->Prop
def PG(X:Cx)(target:aS)(t:TG):Prop:=
 ∀(Y1:List (ab×Obj))(s:ag)(σ:St)(H:Hp)(v:V)(u:ae)(Q:St->Hp->Prop),Inv X Y1 σ H s->RelV v u->t v σ H Q->
  ay (aC X.prog X.w) X.A (assign target X.env u) (λ_ s'=>∃σ' H',Inv X Y1 σ' H' s'/\Q σ' H') X.xe s
def Js(X:Cx)(ts:List aS)(t:DC):Prop:=
 ∀(Y1:List (ab×Obj))(s:ag)(σ:St)(H:Hp)(vs:List V)(us:List ae)(Q:St->Hp->Prop),Inv X Y1 σ H s->nu vs us->t vs σ H Q->
  ay (aC X.prog X.w) X.A (assignInOrder ((fH ts X.env).map (·.2)) us) (λ_ s'=>∃σ' H',Inv X Y1 σ' H' s'/\Q σ' H') X.xe s
abbrev JF:=V->V->V->Hp->(Hp->Prop)->Prop
def N3(X:Cx)(t:JF):Prop:=
 ∀(Y1:List (ab×Obj))(s:ag)(σ:St)(H:Hp)(o i v:V)(ov iv u:ae)(Q:Hp->Prop),Inv X Y1 σ H s->RelV o ov->RelV i iv->RelV v u->t o i v H Q->
  ay (aC X.prog X.w) X.A (setItem ov iv u) (λ_ s'=>∃H',Inv X Y1 σ H' s'/\Q H') X.xe s
abbrev Jr:=V->V->Hp->VK->Prop
def VG(X:Cx)(op:Operator)(t:Jr):Prop:=
 ∀(Y1:List (ab×Obj))(s:ag)(σ:St)(H:Hp)(x y:V)(v u:ae)(Q:VK),Inv X Y1 σ H s->RelV x v->RelV y u->t x y H Q->
  ay (aC X.prog X.w) X.A (inplaceOp op v u) (EP X Y1 σ Q) X.xe s
section
variable{X:Cx}{pos:Pos}
def uQ(i:Nat):TG:=λv σ H Q=>Q (σ.set i (Jd v)) H
def CY(b:X.N.Nodup)(c:X.N[i]?=Jd x)(d:Loc X.env.scope x)(e:X.fn x=Jg\/X.env.scope.names.lookup x=Jd .local:=by first|exact .inl rfl|exact .inr rfl|assumption):PG X (.Name x pos) (uQ i):=by intro a s g H v u Q I r h;exact gU (Ew I b c d r (λj f=>⟨_,H,f,h⟩) e)
def Gz:DC:=λvs σ H Q=>vs=[]/\Q σ H
def y_(t:TG)(u:DC):DC:=λvs σ H Q=>∃v r,vs=v::r/\t v σ H λσ' H'=>u r σ' H' Q
def QQ:Js X [] Gz:=by intro a s b H c d Q I r h;obtain⟨e,h⟩:=h;subst e;cases r;exact assignInOrder_nil ⟨b,H,I,h⟩
def EK{e:aS}{b:List aS}{t:TG}{u:DC}(c:PG X e t)(d:Js X b u)
  (f:(fH (e::b) X.env).map (·.2)=assign e X.env::(fH b X.env).map (·.2):=by rfl):Js X (e::b) (y_ t u):=by
 intro a s g H o p Q I r h;obtain⟨v,q,i,h⟩:=h;subst i;cases r with
 | cons r rr=>
  rw[f];refine i3 (o7 (c a s g H _ _ _ I r h) λ_ j ⟨k,l,m,n⟩=>?_);exact d a j k l _ _ Q m rr n
noncomputable def DQ(K:ah)(n:Nat)(t:DC):TG:=λv σ H Q=>∃a xs,v=.ref a/\qX K H a xs/\xs.length=n/\t xs σ H Q
def O_(i:X.calm=Jg)(h:Js X es t)
  (j:(fH es X.env).length=n:=by rfl) (l:(fH es X.env).findIdx? (·.1)=Jf:=by rfl):PG X (.Tuple es k pos) (DQ X.K n t):=by intro c s f H v u Q I r d;obtain⟨a,m,p,q,w,d⟩:=d;subst p;cases r;obtain⟨B,g,x,C⟩:=I.tuple q;refine assign_Tuple_tuple (I.ok.hd i) x (by simp[j,<- w,g.length]) l λy z=>?_;have A:Inv X c f H { s with heap:=y }:=I.kept (t':=s.toks) λb o e=>z b o (bt (aR e)) e;exact h c _ f H m _ Q A ⇑g d
def u9(to ti:TE)(t:JF):TG:=λv σ H Q=>to σ H λo H1=>ti σ H1 λi H2=>t o i v H2 λH3=>Q σ H3
def YK{o i:aS}{e f:TE}{t:JF}(g:PE X o e)(j:PE X i f)(k:N3 X t)
  (l:∀v,assign (.Subscript o i pos) X.env v=(do
   let b <- holding [v] (eval o X.env);let c <- holding [v,b] (eval i X.env)
   standAt pos
   holding [v,b,c] (setItem b c v)
   release [v,b,c] []):=by intro _;rfl):PG X (.Subscript o i pos) (u9 e f t):=by intro a s d H v u Q I r h;rw[l];refine aa (bK (o7 (g a s d H _ I h) λb m ⟨x,n,p,q,w⟩=>?_));refine aa (bK (o7 (j a m d n _ p w) λc z ⟨y,A,B,C,D⟩=>?_));refine aa (dU (aa (bK (o7 (k a z d A x y v b c u _ B q C r D) λ_ J ⟨E,F,G⟩=>?_))));exact wpAny_release ⟨d,E,F,G⟩
def Cu(te:TE)(g:TG):TS:=λD σ H=>te σ H λx H1=>g x σ H1 D.nx
def Kj{b e:aS}{te:TE}{g:TG}(d:PE X e te)(f:PG X b g)(i:fB [b] e pos.line X.env=pure Jh:=by rfl)(j:fC [b] e X.env=pure Jf:=by rfl)
  (k:(fH [b] X.env).map (·.2)=[assign b X.env]:=by rfl):PS X (.Assign [b] e pos) (Cu te g):=by intro a s c H D I h;refine wpAny_Assign_stores (o7 (d a s c H _ I h) λv l ⟨x,m,n,o,p⟩=>?_) i j;rw[k];exact o7 (f a l c m x v _ n o p) λ_ r q=>q
def PJ{i:Nat}{x:az}{e:aS}{te:TE}{a:Pos}(c:X.N.Nodup)(d:X.N[i]?=Jd x)(f:Loc X.env.scope x)(g:PE X e te)(j:swapsWith e (Jd (.Name x a)) pos.line X.env=pure Jh:=by rfl)(k:X.fn x=Jg\/X.env.scope.names.lookup x=Jd .local:=by first|exact .inl rfl|exact .inr rfl|assumption):
  PS X (.Assign [.Name x a] e pos) (Cu te (uQ i)):=by intro b s l H D I h;refine wpAny_Assign_Name (o7 (g b s l H _ I h) λv r ⟨y,m,n,o,p⟩=>?_) j;exact Ew n c d f o (λt q=>⟨_,m,q,p⟩) k
def V4(i j:Nat)(ta:TA):TS:=λD σ H=>ta σ H λvs H1=>∃v w,vs=[v,w]/\D.nx ((σ.set i (Jd v)).set j (Jd w)) H1
def Yb{i j:Nat}{x y:az}{a b:aS}{r:TA}{k l m:Pos}{kt k2 BF}(F:X.calm=Jg)(t:X.N.Nodup)(G:X.N[i]?=Jd x)(J:X.N[j]?=Jd y)(K:i≠j)
  (u:X.env.scope.names.lookup x=Jd .local) (z:X.env.scope.names.lookup y=Jd .local) (L:PA X [a,b] r)
  (M:fC [.Tuple [.Name x k,.Name y l] kt m] (.Tuple [a,b] k2 BF) X.env=pure (Jd [x,y]))
  (O:fB [.Tuple [.Name x k,.Name y l] kt m] (.Tuple [a,b] k2 BF) pos.line X.env=pure Jh:=by rfl):
  PS X (.Assign [.Tuple [.Name x k,.Name y l] kt m] (.Tuple [a,b] k2 BF) pos) (V4 i j r):=by
 intro c s B H D I h;rw[exec_Assign_arm];refine aa (dU ?_);rw[O];refine aa (aq ?_);rw[Jk 's'];refine aa (Tuple_ (o7 (L _ c s B H _ I h) λP d ⟨vs,C,Q,R,n⟩=>?_));obtain⟨v,w,S,n⟩:=n;subst S;obtain⟨f,g,rfl,T,U⟩:∃f g,P=[f,g]/\RelV v f/\RelV w g:=by
  cases R with
  | cons p q=>
   cases q with
   | cons p' q'=>
    cases q';exact⟨_,_,rfl,p,p'⟩
 refine di ?_ (by show 2<=KM;decide);have V:Inv X c B C { d with heap:=d.heap.push { cls:=.type "tuple",data:=.seq [f,g].toArray } }:=Q.kept (t':=d.toks) λb o e=>ai _ e;rw[M];refine aa (aq ?_);show ay (aC X.prog X.w) X.A (do rule "assign.swapped-stores";let items <- unpackItems (.ref d.heap.objs.size) 2 Jf;assignInOrder [λv=>bindName X.env y v,λv=>bindName X.env x v] items.reverse;pure Flow.next) _ _ _;refine aa (dF (aa (unpackItems_tuple (items:=#[f,g]) (I.ok.hd F) (IsTup.new d.heap _) λh' W=>?_)));have Y:=V.kept (h':=h') (t':=d.toks) λb o e=>W b o (bt (aR e)) e;show ay _ _ (assignInOrder [λv=>bindName X.env y v,λv=>bindName X.env x v] [g,f] >>= λ_=>pure Flow.next) _ _ _;refine aa (i3 (wpAny_bindName (Ew Y t J (.inl z) U (λs2 Z=>?_) (.inr z))));refine i3 (wpAny_bindName (Ew Z t G (.inl u) T (λs3 E=>assignInOrder_nil (aq ?_)) (.inr u)));rw[List.set_comm _ _ (bI K)] at E;exact⟨_,C,E,n⟩
def Wd(i:Nat)(te:TE)(ti:Jr):TS:=λD σ H=>∃x,σ[i]?=Jd (Jd x)/\te σ H λy H1=>ti x y H1 λz H2=>D.nx (σ.set i (Jd z)) H2
def XS{i:Nat}{x:az}{e:aS}{te:TE}{d:Operator}{j:Jr}{b:Pos}(q:X.N.Nodup)(n:X.N[i]?=Jd x)(f:Loc X.env.scope x)(t:PE X e te)(B:VG X d j)(C:X.fn x=Jg\/X.env.scope.names.lookup x=Jd .local:=by first|exact .inl rfl|exact .inr rfl|assumption):
  PS X (.AugAssign (.Name x b) d e pos) (Wd i te j):=by
 intro a s o H D I h;obtain⟨v,E,h⟩:=h;obtain⟨m,F,G⟩:=I.loc;have g:uA X.env.scope x:=by rcases f with k|k;exact .inl k;exact .inr (.inl k)
 obtain⟨u,r,l⟩:=G i x v n E g;refine wpAny_AugAssign_Name ?_;have p:ay (aC X.prog X.w) X.A (eval e X.env) (λw J=>ay (aC X.prog X.w) X.A (inplaceOp d u w) (λr K=>ay (aC X.prog X.w) X.A (storeName X.env x r) (λ_=>SP X a D .next) X.xe K) X.xe J) X.xe s:=by
  refine o7 (t a s o H _ I h) λw L ⟨y,M,O,P,Q⟩=>?_;refine o7 (B a L o M v y u w _ O r P Q) λz s2 ⟨zv,R,S,T,U⟩=>?_;exact Ew S q n f T (λs3 V=>⟨_,R,V,U⟩) C
 rcases l with⟨hk,W⟩|⟨hk,c,Y,Z⟩
 ·exact kF I.ok.kind hk F W p
 ·rcases hk with hk|hk
  ·exact kW I.ok.kind hk Y Z p
  ·rcases f with k|k
   ·have:X.env.scope.names.lookup x=Jd .free:=hk;rw[k] at this;cases this
   ·have:X.env.scope.names.lookup x=Jd .free:=hk;rw[k] at this;cases this
def ipI(f:Int->Int->Int):Jr:=λx y H Q=>∃i j,x=.int i/\y=.int j/\Q (.int (f i j)) H
def YO:VG X .Add (ipI λi j=>i+j):=by intro a s f H x y v u Q I b c h;obtain⟨i,j,d,e,q⟩:=h;subst d;subst e;obtain⟨t,rfl⟩:=b;obtain⟨g,rfl⟩:=c;exact iadd_int ⟨.int _,H,I.tok _,⟨_,rfl⟩,q⟩
end
section
variable{X:Cx}{pos:Pos}
noncomputable def YV(c:TT)(tb:TS):TS:=λD σ H=>∃W:Nat->St->Hp->Prop,(∃m,W m σ H)/\∀m σ H,W m σ H->
 c σ H λb H1=>if b=Jg then ∃N:St->Hp->Prop,(∀σ' H',N σ' H'->∃m',m'<m/\W m' σ' H')/\tb { D with nx:=N,ct:=N,bk:=D.nx } σ H1 else D.nx σ H1
def zfd{c:aS}{body:List dW}{t:TT}{u:TS}(x:jN (aC X.prog X.w) X.A X.env X.xe)(F:PT X c t)(G:rZ X body u):PS X (.While c body [] pos) (YV t u):=by
 intro a s J H D I h;obtain⟨W,⟨K,L⟩,d⟩:=h;refine wpAny_While (codeAny_whileLoop (λn M=>∃e y,Inv X a e y M/\W n e y) ?_ K ⟨J,H,I,L⟩);rintro n O ⟨j,z,P,Q⟩;refine eQ x (o7 (F a O j z _ P (d n j z Q)) λb R ⟨B,C,k⟩=>?_);cases b with
 | true=>
  obtain⟨N,E,k⟩:=k;rw[Ji rfl];refine eQ x (o7 (G a R j B _ C k) λf S l=>?_);cases f with
  | next=>
   obtain⟨g,i,m,o⟩:=l;obtain⟨p,q,r⟩:=E g i o;exact⟨p,q,g,i,m,r⟩
  | cont=>
   obtain⟨g,i,m,o⟩:=l;obtain⟨p,q,r⟩:=E g i o;exact⟨p,q,g,i,m,r⟩
  |brk=>exact l
  |ret v=>exact l
 | false=>
  rw[Jk bU];exact ix ⟨j,B,C,k⟩
end
structure It where
 go:Nat->Hp->Prop
 yld:Nat->Hp->V->Hp->Prop
 stop:Nat->Hp->Prop
def rC(X:Cx)(Y1:List (ab×Obj))(H:Hp)(b:ab):Prop:=
 H b=Jf/\b≠X.env.locals/\b∉X.fs/\(b∈X.ex\/X.s₀.heap.objs.size<=b)/\(∀x c,X.env.cells.lookup x=Jd c->c≠b)/\∀p∈X.pn++Y1,p.1≠b
def Inv.fpOk(I:Inv X Y1 σ H s)(a:s.heap.objs.size<=b)(d:H' b=Jf):rC X Y1 H' b:=by
 refine⟨d,eJ (bi I.lt a),I.nofs a,.inr (aG I.sz a),λx c e z=>?_,λp f z=>?_⟩
 ·obtain⟨v,q⟩:=I.cell x c e;exact absurd (bi q.lt (by rw[z];exact a)) (cR _)
 ·exact absurd (bi (aR (I.pin p f).1) (by rw[z];exact a)) (cR _)
structure v9(P:aQ)(w:a8)(K:ah)(tg:aS)(J:It)(fp:List ab)(it:ab)(tn:Nat->aV->Prop):Prop where
 mem:it∈fp
 obj:∀i h,tn i h->∀b∈fp,∃o,h.get? b=Jd o/\∀v,o.data ≠ .cell v
 keep:∀i h h',tn i h->(∀b∈fp,∀o,h.get? b=Jd o->h'.get? b=Jd o)->tn i h'
 item:∀(X:Cx),X.prog=P->X.w=w->X.K=K->X.calm=Jg->∀(i:Nat)(Y1:List (ab×Obj))(s:ag)(σ:St)(H:Hp)(E:ae->ag->Prop),Inv X Y1 σ H s->(∀b∈fp,rC X Y1 H b)->tn i s.heap->J.go i H->
  ay (aC P w) X.A (pyNext (.ref it)) (λr s1=>∃u,r=Jd u/\
   ay (aC P w) X.A (letOwnedTupleGo tg (.ref it) u) (λ_ s2=>∃x H',Inv X Y1 σ H' s2/\RelV x u/\J.yld i H x H'/\tn (i+1) s2.heap/\∀b∈fp,H' b=Jf) E s1) E s
 done:∀(X:Cx),X.prog=P->X.w=w->X.K=K->X.calm=Jg->∀(i:Nat)(Y1:List (ab×Obj))(s:ag)(σ:St)(H:Hp)(E:ae->ag->Prop),Inv X Y1 σ H s->(∀b∈fp,rC X Y1 H b)->tn i s.heap->J.stop i H->
  ay (aC P w) X.A (pyNext (.ref it)) (λr s1=>r=Jf/\Inv X Y1 σ H s1) E s
 self:∀(A:be)(i:Nat)(s:ag)(Q:ae->ag->Prop)(E:ae->ag->Prop),tn i s.heap->Q (.ref it) s->ay (aC P w) A (pyIter (.ref it)) Q E s
abbrev TI:=St->Hp->(It->Hp->Prop)->Prop
def VH(X:Cx)(Y1:List (ab×Obj))(σ:St)(tg:aS)(R:It->Hp->Prop)(Fz:ae)(s2:ag):Prop:=
 ∃(it:ab)(fp:List ab)(tn:Nat->aV->Prop)(J:It)(H':Hp),Fz=.ref it/\Inv X Y1 σ H' s2/\v9 X.prog X.w X.K tg J fp it tn/\tn 0 s2.heap/\(∀b∈fp,rC X Y1 H' b)/\R J H'
def PI(X:Cx)(tg iter:aS)(wi:TI):Prop:=
 ∀(Y1:List (ab×Obj))(s:ag)(σ:St)(H:Hp)(R:It->Hp->Prop),Inv X Y1 σ H s->wi σ H R->
  ay (aC X.prog X.w) X.A (eval iter X.env) (λv s1=>ay (aC X.prog X.w) X.A (pyIter v) (VH X Y1 σ tg R) X.xe s1) X.xe s
def DY(b:s.heap.get? it=Jd o)(c:o.cls=.type n)(d:o.data=.fields vs)
  (e:["enumerate", "zip", "dict_itemiterator", "dict_reverseitemiterator", "odict_iterator", "itertools.zip_longest", "itertools.pairwise"].contains n=Jh) (a:Q () s):ay M A (letOwnedTupleGo tg (.ref it) u) Q E s:=by
 unfold letOwnedTupleGo;cases tg<;>first
  |exact aq a
  | (cases u<;>first
    |exact aq a
    | (refine aa (wpAny_load b ?_)
       rw[c,d];show ay M A (if (["enumerate", "zip", "dict_itemiterator", "dict_reverseitemiterator", "odict_iterator", "itertools.zip_longest", "itertools.pairwise"].contains n&&vs[0]?==Jd (ee _))=Jg then _ else _) Q E s;rw[Jk (by intro h;rw[e,j6] at h;cases h)];exact aq a))
noncomputable def NU(K:ah)(a:ab):It:=
 ⟨λi H=>∃xs x,qg K H a xs/\xs[i]?=Jd x,λi H x H'=>H'=H/\∀xs,qg K H a xs->xs[i]?=Jd x,λi H=>∃xs,qg K H a xs/\xs.length<=i⟩
noncomputable def NS(K:ah)(a:ab):It:=
 ⟨λi H=>∃xs x,qX K H a xs/\xs[i]?=Jd x,λi H x H'=>H'=H/\∀xs,qX K H a xs->xs[i]?=Jd x,λi H=>∃xs,qX K H a xs/\xs.length<=i⟩
noncomputable def Jw(lo:Int)(n:Nat):It:=⟨λi _=>i<n,λi H x H'=>H'=H/\x=.int (lo+i),λi _=>n<=i⟩
def Tn{P:aQ}{w:a8}{K:ah}{O:aS}(a it:ab):v9 P w K O (NU K a) [it] it (λi h=>h.IsListIter it a i) where
 mem:=by simp
 obj:=λi h f b j=>by
  have e:b=it:=⇑j
  subst e;obtain⟨o,e,c,d⟩:=f;exact⟨o,e,λv z=>by rw[d] at z;cases z⟩
 keep:=λi h l f k=>f.at λo e=>k it 'd' o e
 item:=by
  intro X q r t L i g s M H E I m f y;subst q r t;obtain⟨Q,x,n,A⟩:=y;obtain⟨R,B,p,S⟩:=I.list n;obtain⟨u,T,U⟩:=B.get A;obtain⟨C,D,V,F,G,J⟩:=m it 'd';refine wpAny_pyNext_list_item f p.isList (x:=u) ⇑T λl N W=>?_;have Y:Inv X g M H { s with heap:=l }:=I.turned (t':=s.toks) (λb o j e=>(W.2 b j).trans e) C D F G J;obtain⟨o,e,c,d⟩:=id N;exact⟨u,rfl,DY (s:={ s with heap:=l }) e c d 's' ⟨x,H,Y,U,⟨rfl,λys Z=>by rw[I.list_inj Z n];exact A⟩,N,λb j=>(m b j).1⟩⟩
 done:=by
  intro X q r t L i g s M H E I m f y;subst q r t;obtain⟨Q,n,A⟩:=y;obtain⟨R,B,p,S⟩:=I.list n;obtain⟨C,D,V,F,G,J⟩:=m it 'd';have hl:=B.length;exact wpAny_pyNext_list_end (I.ok.hd L) f p.isList (by simp;lia) λl eb=>⟨rfl,I.turned (t':=s.toks) (λb o j e=>eb b o j e) C D F G J⟩
 self:=λ_ _ _ _ _ f h=>wpAny_pyIter_listiter f h
def zbB{P:aQ}{w:a8}{K:ah}{Q:aS}(a it:ab):v9 P w K Q (NS K a) [it] it (λi h=>h.IsTupleIter it a i) where
 mem:=by simp
 obj:=λi h f b j=>by
  have e:b=it:=⇑j
  subst e;obtain⟨o,e,c,d⟩:=f;exact⟨o,e,λv z=>by rw[d] at z;cases z⟩
 keep:=λi h l f k=>f.at λo e=>k it 'd' o e
 item:=by
  intro X q r t M i g s N H E I m f y;subst q r t;obtain⟨R,x,n,A⟩:=y;obtain⟨B,C,p,S⟩:=I.tuple n;obtain⟨u,T,U⟩:=C.get A;obtain⟨D,F,V,G,J,L⟩:=m it 'd';refine wpAny_pyNext_tuple_item f (show s.heap.IsTuple a B.toArray from p) (x:=u) ⇑T λl O W=>?_;have Y:Inv X g N H { s with heap:=l }:=I.turned (t':=s.toks) (λb o j e=>(W.2 b j).trans e) D F G J L;obtain⟨o,e,c,d⟩:=id O;exact⟨u,rfl,DY (s:={ s with heap:=l }) e c d 's' ⟨x,H,Y,U,⟨rfl,λys Z=>by rw[I.tuple_inj Z n];exact A⟩,O,λb j=>(m b j).1⟩⟩
 done:=by
  intro X q r t M i g s N H E I m f y;subst q r t;obtain⟨R,n,A⟩:=y;obtain⟨B,C,p,S⟩:=I.tuple n;obtain⟨D,F,V,G,J,L⟩:=m it 'd';have hl:=C.length;exact wpAny_pyNext_tuple_end (I.ok.hd M) f (show s.heap.IsTuple a B.toArray from p) (by simp;lia) λl eb=>⟨rfl,I.turned (t':=s.toks) (λb o j e=>eb b o j e) D F G J L⟩
 self:=λ_ _ _ _ _ f h=>wpAny_pyIter_tupleiter f h
def zbm{P:aQ}{w:a8}{K:ah}{G:aS}(it:ab)(lo:Int)(n:Nat):v9 P w K G (Jw lo n) [it] it (λi h=>IsRangeIter h it (lo+(i:Nat)*1) ((n:Int)-(i:Nat)) 1) where
 mem:=by simp
 obj:=λi h a b d=>by
  have e:b=it:=⇑d
  subst e;exact⟨_,a,λv z=>by
   have J:Data.fields _=Data.cell v:=z;cases J⟩
 keep:=λi h f a k=>k it 'd' _ a
 item:=by
  intro X j l m p i c s C H E I g a q;subst j l m;obtain⟨r,u,L,x,y,A⟩:=g it 'd';have W:=Walks.range (prog:=X.prog) (w:=X.w) (I.ok.hd p) it lo 1 n;refine fJ I.tk (W.item i s _ _ q a λv f B M D N F=>?_);have F:0<B:=F;obtain⟨t,rfl⟩:=M;have O:Inv X c C H { s with heap:=f,toks:=B }:=I.turned (λb o d e=>N b o ⇑d e) r u x y A;refine⟨_,rfl,DY (s:={ s with heap:=f,toks:=B }) (n := "range_iterator") D rfl rfl 's' ⟨.int (lo+i),H,O,⟨t,?_⟩,⟨rfl,rfl⟩,D,λb d=>(g b d).1⟩⟩;rw[Int.mul_one]
 done:=by
  intro X j l m p i c s C H E I g a q;subst j l m;obtain⟨r,u,L,x,y,A⟩:=g it 'd';exact wpAny_pyNext_range_end (I.ok.hd p) a (by have:n<=i:=q;lia) λf Q=>⟨rfl,I.turned (t':=s.toks) (λb o d e=>Q b o d e) r u x y A⟩
 self:=λ_ _ _ _ _ a h=>wpAny_pyIter_rangeiter a h
section
variable{X:Cx}{tg:aS}
def zgF{c:List (ab×Obj)}{σ:St}{H:Hp}{s:ag}{R:It->Hp->Prop}{E:ae->ag->Prop}{lo a:Int}{t u v:Tok}{tk:Nat}(I:Inv X c σ H s)(f:-(2 ^ 62)<=lo)(g:lo<2 ^ 62)(h:-(2 ^ 62)<=a)(i:a<2 ^ 62)
  (q:R (Jw lo (a-lo).toNat) H) (m:0<tk):ay (aC X.prog X.w) X.A (pyIter (.ref s.heap.objs.size)) (VH X c σ tg R) E { s with heap:=s.heap.push { cls:=.type "range",data:=.fields #[.int lo t,.int a u,.int 1 v] },toks:=tk }:=by
 refine wpAny_pyIter_range (IsRange.new ..) (small_one f g h i) ?_;have d:Inv X c σ H { s with heap:=s.heap.push { cls:=.type "range",data:=.fields #[.int lo t,.int a u,.int 1 v] },toks:=tk }:=I.kept λb o e=>ai _ e;refine⟨(s.heap.push { cls:=.type "range",data:=.fields #[.int lo t,.int a u,.int 1 v] }).objs.size,[(s.heap.push { cls:=.type "range",data:=.fields #[.int lo t,.int a u,.int 1 v] }).objs.size],_,_,H,rfl,
  d.kept (t':=tk) λb o e=>ai _ e,zbm _ lo (a-lo).toNat,?_,λb j=>?_,q⟩
 ·have k:lo+((0:Nat):Int)*1=lo:=by simp
  have l:(((a-lo).toNat:Nat):Int)-((0:Nat):Int)=jI lo a 1:=by rw[rangeSize_one];split<;>lia
  show IsRangeIter _ _ (lo+((0:Nat):Int)*1) ((((a-lo).toNat:Nat):Int)-((0:Nat):Int)) 1;rw[k,l];exact aO _ rfl
 ·have e:b=(s.heap.push { cls:=.type "range",data:=.fields #[.int lo t,.int a u,.int 1 v] }).objs.size:=⇑j
  subst e;exact d.fpOk (aE _) (d.hok.fresh (aE _))
def WW(ta:TA):TI:=λσ H R=>ta σ H λvs H1=>∃j:Int,vs=[.int j]/\-(2 ^ 62)<=j/\j<2 ^ 62/\R (Jw 0 j.toNat) H1
def zdX{a:aS}{f:TA}{p b:Pos}(i:Gl X "range")(k:X.mg "range" = Jf)(l:PA X [a] f)(m:aP [a] X.env=[(Jh,eval a X.env)]:=by rfl):PI X tg (.Call (.Name "range" p) [a] [] b) (WW f):=by
 intro c s n H R I h;refine jJ (Ai I i k boot_range (dO (o7 (l b c s n H _ I h) λv w ⟨x,y,g,o,d⟩=>?_) m rfl));obtain⟨j,e,d,u,q⟩:=d;subst e;cases o with
 | cons r rr=>
  cases rr;obtain⟨t,rfl⟩:=r;exact call_range_1 (zgF g 'o' 'o' d u ⇑q (by first|exact cK _|exact g.tk))
noncomputable def V5(wi:TI)(g:TG)(tb:TS):TS:=λD σ H=>wi σ H λJ H1=>∃W:Nat->Nat->St->Hp->Prop,(∃m,W 0 m σ H1)/\∀i m σ H,W i m σ H->
 (J.stop i H/\D.nx σ H)\/(J.go i H/\∃N:St->Hp->Prop,(∀σ' H',N σ' H'->∃m',m'<m/\W (i+1) m' σ' H')/\∀x H',J.yld i H x H'->g x σ H' λrR H2=>tb { D with nx:=N,ct:=N,bk:=D.nx } rR H2)
def D6(fp:List ab)(h:aV):List (ab×Obj):=fp.filterMap λb=>(h.get? b).map λo=>(b,o)
def HS(a:b∈fp)(e:h.get? b=Jd o):(b,o)∈D6 fp h:=i4.mpr ⟨b,a,by rw[e];rfl⟩
def zdF(a:p∈D6 fp h):p.1∈fp/\h.get? p.1=Jd p.2:=by
 obtain⟨b,c,e⟩:=i4.mp a;cases q:h.get? b with
 |none=>rw[q] at e;cases e
 | some o=>
  rw[q] at e;have d:(b,o)=p:=ci e;subst d;exact⟨c,q⟩
def Inv.pinned(I:Inv X Y1 σ H s)(f:∀b∈fp,rC X Y1 H b)(g:∀b∈fp,∃o,s.heap.get? b=Jd o/\∀v,o.data ≠ .cell v):Inv X (Y1++D6 fp s.heap) σ H s:=
 I.pins_of λp h=>(aK.mp h).elim (λz=>I.pin p (ax _ z)) λz=>by
  obtain⟨a,e⟩:=zdF z;obtain⟨i,j,k,_⟩:=f p.1 a;obtain⟨o,c,d⟩:=g p.1 a;rw[e] at c;cases c;exact⟨e,i,j,k,d⟩
def Inv.unpinned(I:Inv X (Y1++pl) σ H s):Inv X Y1 σ H s:=I.pins_of λp a=>I.pin p (ax _ (bA _ a))
def O8(z:jN (aC X.prog X.w) X.A X.env X.xe)(U:X.calm=Jg)(hi:PI X tg iter wi)(hg:PG X tg g)(c:rZ X body tb)
  (hs:∀x,bM iter X.env x=pure x:=by intro _;rfl):PS X (.For tg iter body [] pos) (V5 wi g tb):=by
 intro a s V H D I h;refine wpAny_For (o7 (hi a s V H _ I h) λv s1 h1=>o7 h1 λFz s2 h2=>?_) hs;obtain⟨it,B,Y,J,H2,e,I2,T,pJ,Z,W,⟨m0,w0⟩,C⟩:=h2;subst e
 -- what stays Jg of zB BK objects through zB loop
 have M:∀{t:Hp},(∀b∈B,t b=Jf)->∀b∈B,rC X a t b:=λhn b c=>⟨hn b c,(Z b c).2⟩;refine codeAny_forLoop_any (λn s'=>∃i j t,Inv X a j t s'/\Y i s'.heap/\(∀b∈B,t b=Jf)/\W i n j t) ?_ m0 ⟨0,V,H2,I2,pJ,λb c=>(Z b c).1,w0⟩;rintro n s3 ⟨i,E,L,I3,pk,Jn,w3⟩;rcases C i n E L w3 with⟨F,qn⟩|⟨go,N,hN,G⟩
 ·refine eQ z (o7 (T.done X rfl rfl rfl U i a s3 E L X.xe I3 (M Jn) pk F) λr s4 ⟨O,I4⟩=>?_);subst O;exact ix ⟨E,L,I4,qn⟩
 ·refine eQ z (o7 (T.item X rfl rfl rfl U i a s3 E L X.xe I3 (M Jn) pk go) λr s4 ⟨u,O,h4⟩=>?_);subst O;refine eQ z (o7 h4 λ_ s5 ⟨x,H5,I5,r5,y5,P,Q⟩=>?_);have R:=I5.pinned (M Q) (T.obj _ _ P);refine eQ z (o7 (hg _ s5 E H5 x u _ R r5 (G x H5 y5)) λ_ s6 ⟨VR,H6,I6,q6⟩=>?_);refine eQ z (o7 (c _ s6 VR H6 _ I6 q6) λf S y=>?_);have k:∀{l:St}{p:Hp},Inv X (a++D6 B s5.heap) l p S->N l p->∃m,m<n/\∃i j t,Inv X a j t S/\Y i S.heap/\(∀b∈B,t b=Jf)/\W i m j t:=λ{l p}q K=>by
   obtain⟨m',hm,w7⟩:=hN l p K;refine⟨m',hm,i+1,l,p,q.unpinned,T.keep _ _ _ P λb c o e=>(q.pin (b,o) (ax _ (ax _ (HS c e)))).1,λb c=>?_,w7⟩;obtain⟨o,e,d⟩:=T.obj _ _ P b c;exact(q.pin (b,o) (ax _ (ax _ (HS c e)))).2.1
  cases f with
  |next=>obtain⟨l,p,q,K⟩:=y;exact k q K
  |cont=>obtain⟨l,p,q,K⟩:=y;exact k q K
  |brk=>obtain⟨l,p,q,y⟩:=y;exact⟨l,p,q.unpinned,y⟩
  |ret v=>obtain⟨x7,l,p,q,r7,y⟩:=y;exact⟨x7,l,p,q.unpinned,r7,y⟩
end
abbrev R2:=V->V->Hp->VK->Prop
def pZ(X:Cx)(f:ae->ae->Sem ae)(r:R2):Prop:=
 ∀(Y1:List (ab×Obj))(s:ag)(σ:St)(H:Hp)(x y:V)(v u:ae)(Q:VK),Inv X Y1 σ H s->RelV x v->RelV y u->r x y H Q->
  ay (aC X.prog X.w) X.A (f v u) (EP X Y1 σ Q) X.xe s
def nF(X:Cx)(f:ae)(r:List V->Hp->VK->Prop):Prop:=
 ∀(Y1:List (ab×Obj))(s:ag)(σ:St)(H:Hp)(xs:List V)(us:List ae)(Q:VK),Inv X Y1 σ H s->nu xs us->r xs H Q->
  ay (aC X.prog X.w) X.A (call f us) (EP X Y1 σ Q) X.xe s
def Wf(X:Cx)(r:V->Hp->(Bool->Hp->Prop)->Prop):Prop:=
 ∀(Y1:List (ab×Obj))(s:ag)(σ:St)(H:Hp)(x:V)(v:ae)(Q:Bool->Hp->Prop),Inv X Y1 σ H s->RelV x v->r x H Q->
  ay (aC X.prog X.w) X.A (truthy v) (TP X Y1 σ Q) X.xe s
def E6(r:R2)(ta tb:TE):TE:=λσ H Q=>ta σ H λx H1=>tb σ H1 λy H2=>r x y H2 Q
def rI(C:Int->Int->Prop)(g:Int->Int->V):R2:=λx y H Q=>∃i j,x=.int i/\y=.int j/\C i j/\Q (g i j) H
def uD(g:Int->Int->V):R2:=λx y H Q=>∃i j,x=.int i/\y=.int j/\Q (g i j) H
section
variable{X:Cx}{a b:aS}{ta tb:TE}{pos:Pos}
def JP(i:PE X a ta)(j:PE X b tb){c:List (ab×Obj)}{s:ag}{σ:St}{H:Hp}{R:V->V->Hp->Prop}(I:Inv X c σ H s)
  (h:ta σ H λx g=>tb σ g λy d=>R x y d) {Q:ae->ag->Prop} {f:ae->ae->Sem ae}
  (k:∀v u e x y d,Inv X c σ d e->RelV x v->RelV y u->R x y d->ay (aC X.prog X.w) X.A (f v u) Q X.xe e):
  ay (aC X.prog X.w) X.A (eval a X.env) (λv l=>ay (aC X.prog X.w) X.A (eval b X.env) (λu m=>ay (aC X.prog X.w) X.A (f v u) Q X.xe m) X.xe l) X.xe s:=by refine o7 (i c s σ H _ I h) λv n ⟨x,g,o,p,q⟩=>?_;refine o7 (j c n σ g _ o q) λu e ⟨y,d,r,t,z⟩=>?_;exact k v u e x y d r p t z
def Wz{d:Operator}{r:R2}(e:pZ X (dZ d) r)(f:PE X a ta)(g:PE X b tb):PE X (.BinOp a d b pos) (E6 r ta tb):=by intro c s i H Q I h;exact wpAny_BinOp (JP f g I h λv u j x y k l m n q=>e c j i k x y v u Q l m n q)
def E_{f:ae->ae->Sem ae}{C:Int->Int->Prop}{g:Int->Int->Int}
  (c:∀(i j:Int)(t u:Tok)(s:ag)(Q:ae->ag->Prop)(E:ae->ag->Prop),C i j->Q (.int (g i j) s.toks) { s with toks:=s.toks+1 }->ay (aC X.prog X.w) X.A (f (.int i t) (.int j u)) Q E s):
  pZ X f (rI C λi j=>.int (g i j)):=by intro d s n H x y v u Q I e k h;obtain⟨i,j,rfl,rfl,l,q⟩:=h;obtain⟨t,rfl⟩:=e;obtain⟨m,rfl⟩:=k;exact c i j t m s _ _ l ⟨.int (g i j),H,I.tok _,⟨_,rfl⟩,q⟩
def JH{f:ae->ae->Sem ae}{g:Int->Int->Int}
  (c:∀(i j:Int)(t u:Tok)(s:ag)(Q:ae->ag->Prop)(E:ae->ag->Prop),Q (.int (g i j) s.toks) { s with toks:=s.toks+1 }->ay (aC X.prog X.w) X.A (f (.int i t) (.int j u)) Q E s):
  pZ X f (uD λi j=>.int (g i j)):=by intro d s m H x y v u Q I e k h;obtain⟨i,j,rfl,rfl,q⟩:=h;obtain⟨t,rfl⟩:=e;obtain⟨l,rfl⟩:=k;exact c i j t l s _ _ ⟨.int (g i j),H,I.tok _,⟨_,rfl⟩,q⟩
def JM{f:ae->ae->Sem ae}{g:Int->Int->Bool}
  (c:∀(i j:Int)(t u:Tok)(s:ag)(Q:ae->ag->Prop)(E:ae->ag->Prop),Q (.bool (g i j)) s->ay (aC X.prog X.w) X.A (f (.int i t) (.int j u)) Q E s):
  pZ X f (uD λi j=>.bl (g i j)):=by intro d s m H x y v u Q I e k h;obtain⟨i,j,rfl,rfl,q⟩:=h;obtain⟨t,rfl⟩:=e;obtain⟨l,rfl⟩:=k;exact c i j t l s _ _ ⟨.bl (g i j),H,I,rfl,q⟩
def Oh(i j:Int):Prop:=0<j/\j<1073741824
def GF(i j:Int):Prop:=0<=j/\j<=1000000/\i.natAbs<2 ^ 64
def oy(i j:Int):Prop:=(-(2 ^ 64)<i/\i<2 ^ 64)\/(-(2 ^ 64)<j/\j<2 ^ 64)
def oy.ok(h:oy i j):IntMulOk i j:=by
 rcases h with⟨c,d⟩|⟨c,d⟩
 ·exact .of_left (intBits_le_64 c d)
 ·exact .of_right (intBits_le_64 c d)
def XB:pZ X (dZ .Add) (uD λi j=>.int (i+j)):=JH λ_ _ _ _ _ _ _ q=>add_int q
def Xd:pZ X (dZ .Sub) (uD λi j=>.int (i-j)):=JH λ_ _ _ _ _ _ _ q=>sub_int q
def Xm:pZ X (dZ .Mult) (rI oy λi j=>.int (i*j)):=E_ λ_ _ _ _ _ _ _ c q=>mul_int q c.ok
def zhK:pZ X (dZ .FloorDiv) (rI Oh λi j=>.int (i/j)):=E_ λi j _ _ _ _ _ c q=>by
 have d:(0:Int)<j:=c.1;have e:j<1073741824:=c.2;exact floordiv_int 'o' (by rw[Int.fdiv_eq_ediv_of_nonneg i 'o'];exact q) (.inl (PyProof.noPylong_small 'o'))
def Yi:pZ X (dZ .Mod) (rI (λ_ j=>0<j) λi j=>.int (i%j)):=E_ λi j _ _ _ _ _ c q=>by
 have d:(0:Int)<j:=c;exact mod_int' 'o' (by rw[Int.fmod_eq_emod_of_nonneg i 'o'];exact q)
def Xs:pZ X (dZ .Pow) (rI GF λi j=>.int (i ^ j.toNat)):=E_ λ_ _ _ _ _ _ _ c q=>pow_int_small c.1 c.2.1 c.2.2 q
def Yw:pZ X (dZ .LShift) (rI GF λi j=>.int (i*2 ^ j.toNat)):=E_ λ_ _ _ _ _ _ _ c q=>lshift_int_small c.1 c.2.1 c.2.2 q
def Yz:pZ X (dZ .BitXor) (uD λi j=>.int (j7 i j)):=JH λ_ _ _ _ _ _ _ q=>xor_int q
end
section
variable{X:Cx}{a b c:aS}{ta tb tc:TE}{pos:Pos}
def Hc(I:Inv X Y1 σ H s)(q:Q (.bl k) H)(e:k=k'):EP X Y1 σ Q (.bool k') s:=by subst e;exact⟨.bl k,H,I,rfl,q⟩
def JZ:pZ X (bX .Lt) (uD λi j=>.bl (decide (i<j))):=JM λ_ _ _ _ _ _ _ q=>lt_int q
def OI:pZ X (bX .LtE) (uD λi j=>.bl (decide (i<=j))):=JM λ_ _ _ _ _ _ _ q=>le_int q
def OS:pZ X (bX .GtE) (uD λi j=>.bl (decide (j<=i))):=JM λ_ _ _ _ _ _ _ q=>ge_int q
def zed:pZ X (bX .Lt) (λx y H Q=>∃i j,x=.str i/\y=.str j/\Q (.bl (decide (i.cps.toList<j.cps.toList))) H):=by intro d s g H x y v u Q I e f h;obtain⟨i,j,rfl,rfl,q⟩:=h;obtain⟨t,rfl⟩:=e;obtain⟨k,rfl⟩:=f;exact lt_str (Hc I q rfl)
def zcC:pZ X (bX .In) (λx y H Q=>∃i j,x=.str i/\y=.str j/\Q (.bl (!(bP j i 0 j.length 1).isEmpty)) H):=by intro d s g H x y v u Q I e f h;obtain⟨i,j,rfl,rfl,q⟩:=h;obtain⟨t,rfl⟩:=e;obtain⟨k,rfl⟩:=f;exact in_str (Hc I q rfl)
def PM:pZ X (bX .Is) (λx y H Q=>y=.non/\Q (.bl (decide (x=.non))) H):=by
 intro d s g H x y v u Q I e f h;obtain⟨rfl,q⟩:=h;cases f;refine is_none_gen (Hc I q ?_);cases x<;>first
  |(cases e;rfl)
  |(obtain⟨t,rfl⟩:=e;rfl)
def z7L:pZ X (bX .NotIn) (λx y H Q=>∃i j,x=.str i/\y=.str j/\Q (.bl (!(!(bP j i 0 j.length 1).isEmpty))) H):=by intro d s g H x y v u Q I e f h;obtain⟨i,j,rfl,rfl,q⟩:=h;obtain⟨t,rfl⟩:=e;obtain⟨k,rfl⟩:=f;exact notIn_str (Hc I q rfl)
def pZ.or(h:pZ X f r)(h':pZ X f r'):pZ X f (λx y H Q=>r x y H Q\/r' x y H Q):=by
 intro d s e H x y v u Q I g i q;rcases q with q|q
 ·exact h d s e H x y v u Q I g i q
 ·exact h' d s e H x y v u Q I g i q
def Ah(b:aS)(h:op ≠ .In:=by decide)(d:op ≠ .NotIn:=by decide):behindInMarks op b=Jh:=by
 have e:(op==CmpOp.In)=Jh:=by cases op<;>first|rfl|exact absurd rfl h
 have f:(op==CmpOp.NotIn)=Jh:=by cases op<;>first|rfl|exact absurd rfl d
 cases b<;>simp[behindInMarks,e,f]
def ziW{e:CmpOp}{r:R2}(f:pZ X (bX e) r)(g:PE X a ta)(i:PE X b tb)(j:behindInMarks e b=Jh):PE X (.Compare a [e] [b] pos) (E6 r ta tb):=by intro d s k H Q I h;exact wpAny_Compare1 (JP g i I h λv u l x y m n o p q=>f d l k m x y v u Q n o p q) j
def OK(t:TE):TT:=λσ H Q=>t σ H λx H'=>∃k,x=.bl k/\Q k H'
def zhJ(g:pZ X (bX op) r)(i:PE X a ta)(j:PE X b tb)(l:behindInMarks op b=Jh):PT X (.Compare a [op] [b] pos) (OK (E6 r ta tb)):=by
 intro d s f H Q I h;refine j5 (o7 (i d s f H _ I h) λv m ⟨x,n,o,p,q⟩=>o7 (j d m f n _ o q) λu t ⟨y,w,A,B,C⟩=>
  o7 (g d t f w x y v u _ A p B C) λc J ⟨z,D,E,F,k,e,G⟩=>?_) l
 subst e;cases F;exact cP ⟨D,E,G⟩
noncomputable def YN(r r':R2)(ta tb tc:TE):TE:=λσ H Q=>ta σ H λx H1=>tb σ H1 λy H2=>r x y H2 λz H3=>∃k,z=.bl k/\
 (if k=Jg then tc σ H3 λw' H4=>r' y w' H4 Q else Q (.bl Jh) H3)
def zgA(n:pZ X (bX op) r)(o:pZ X (bX Df) r')(p:PE X a ta)(q:PE X b tb)(t:PE X c tc)
  (w:lastMarks [op,Df] [b,c]=Jh:=by with_unfolding_all rfl):PE X (.Compare a [op,Df] [b,c] pos) (YN r r' ta tb tc):=by
 intro f s g H Q I h;refine Compare_chain (o7 (p f s g H _ I h) λv A ⟨x,B,C,D,E⟩=>chain_link (o7 (q f A g B _ C E) λu F ⟨y,G,J,i,K⟩=>
  o7 (n f F g G x y v u _ J D i K) λd L ⟨z,j,l,M,k,e,m⟩=>?_)) w
 subst e;cases M;refine cP ?_;cases k with
 |false=>exact ite_ff ⟨.bl Jh,j,l,rfl,m⟩
 |true=>exact ite_tt (chain_last (o7 (t f L g j _ l m) λN O ⟨P,R,S,T,U⟩=>o f O g R y P u N Q S i T U))
def N0(K:ah)(x:V)(H:Hp)(k:Bool):Prop:=
 match x with
 |.non=>k=Jh
 |.bl b=>k=b
 |.int i=>k=(i !=0)
 |.str y=>y.length<=KM/\k=((y.length:Int) !=0)
 |.byt y=>y.size<=KM/\k=((y.size:Int) !=0)
 |.ref p=>(∃xs,qg K H p xs/\k = !xs.isEmpty)\/(∃xs,qX K H p xs/\k = !xs.isEmpty) \/ ∃l_,H p=Jd (.dK l_)/\k = !l_.isEmpty
 |_=>False
def zbb{κ:Type}{d:List (κ×V)}{vs:List (κ×ae)}(r:KV d vs):(!vs.isEmpty) = !d.isEmpty:=by cases r<;>rfl
def TC{xs:List V}{d:List ae}(r:nu xs d):(!d.toArray.isEmpty) = !xs.isEmpty:=by cases r<;>simp
def CO:(KM:Nat)<2 ^ 63:=by rw[l8];decide
def Yr:Wf X (λx H Q=>∃k,N0 X.K x H k/\Q k H):=by
 intro z s E H x v Q I j h;obtain⟨k,e,q⟩:=h;have F:=CO;have G:KM=16777216:=l8;cases x with
 | non=>
  cases j;have d:k=Jh:=e;subst d;exact truthy_none ⟨H,I,q⟩
 | bl b=>
  cases j;have d:k=b:=e;subst d;exact cP ⟨H,I,q⟩
 | int i=>
  obtain⟨t,rfl⟩:=j;have d:k=(i !=0):=e;subst d;exact PySem.P.truthy_int ⟨H,I,q⟩
 | str y=>
  obtain⟨t,rfl⟩:=j;obtain⟨B,d⟩:y.length<=KM/\k=((y.length:Int) !=0):=e;subst d;exact PySem.P.truthy_str 'o' ⟨H,I.tok _,q⟩
 | byt y=>
  obtain⟨t,rfl⟩:=j;obtain⟨B,d⟩:y.size<=KM/\k=((y.size:Int) !=0):=e;subst d;exact PySem.W.truthy_bytes 'o' ⟨H,I.tok _,q⟩
 | ref p=>
  cases j;have d:(∃g,qg X.K H p g/\k = !g.isEmpty)\/(∃g,qX X.K H p g/\k = !g.isEmpty) \/ ∃l,H p=Jd (.dK l)/\k = !l.isEmpty:=e;rcases d with⟨g,n,d⟩|⟨g,n,d⟩|⟨l,n,d⟩
  ·subst d;obtain⟨C,r,u,A⟩:=I.list n;have f:=r.length;exact wpAny_truthy_list u.isList (by simp only[aJ];lia) ⟨H,I.tok _,by rw[TC r];exact q⟩
  ·subst d;obtain⟨C,r,u,A⟩:=I.tuple n;have f:=r.length;exact truthy_tuple u (by simp only[aJ];lia) ⟨H,I.tok _,by rw[TC r];exact q⟩
  ·subst d;obtain⟨A,D,o,r,m⟩:l.length<=KM/\(p==sysModules)=Jh/\∃o,KV l o/\s.heap.DictOf (xp X.prog X.w) p o:=I.hok p _ n;have f:l.length=o.length:=kO r;exact wpAny_truthy_dict D m 'o' ⟨H,I.tok _,by rw[zbb r];exact q⟩
 |_=>exact(show False from e).elim
def zfl(f:PE X a ta)(g:∀e,isTrue a X.env e=(do let v <- e;standAt a.pos;holding [v] (truthy v))):
  PT X a (λσ H Q=>ta σ H λx H'=>∃k,N0 X.K x H' k/\Q k H'):=by intro d s σ H Q I h;exact isTrue_plain (o7 (f d s σ H _ I h) λv i ⟨x,j,l,m,n⟩=>Yr d i σ j x v Q l m n) (g _)
def zbC:pZ X (dZ .Add) (λx y H Q=>∃i j,x=.str i/\y=.str j/\i.length+j.length<=KM/\Q (.str (i++j)) H):=by intro d s m H x y v u Q I e f h;obtain⟨i,j,rfl,rfl,g,q⟩:=h;obtain⟨t,rfl⟩:=e;obtain⟨k,rfl⟩:=f;exact fJ I.tk (add_str (λk n l=>⟨.str (i++j),H,I.tok _ l,⟨_,rfl⟩,q⟩) g)
def tu(r:nu [x] us):∃u,us=[u]/\RelV x u:=by
 cases r with
 |cons r1 r2=>cases r2;exact⟨_,rfl,r1⟩
def GO(r:nu [x,y] us):∃u d,us=[u,d]/\RelV x u/\RelV y d:=by
 cases r with
 | cons r1 r2=>
  cases r2 with
  |cons r3 r4=>cases r4;exact⟨_,_,rfl,r1,r3⟩
def zcq(f:X.calm=Jg):nF X (.builtin "max") (λxs H Q=>∃i j,xs=[.int i,.int j]/\Q (.int (if j>i then j else i)) H):=by
 intro e s l H xs m Q I r h;obtain⟨i,j,rfl,q⟩:=h;obtain⟨u,n,rfl,⟨t,rfl⟩,⟨o,rfl⟩⟩:=GO r;refine fJ I.tk (max_two_ints (I.ok.hd f) λp v k g=>⟨_,H,I.kept k g,?_,q⟩);by_cases d:j>i
 ·rw[Ji d,Ji d];exact⟨_,rfl⟩
 ·rw[Jk d,Jk d];exact⟨_,rfl⟩
def zdh(f:X.calm=Jg):nF X (.builtin "min") (λxs H Q=>∃i j,xs=[.int i,.int j]/\Q (.int (if j<i then j else i)) H):=by
 intro e s l H xs m Q I r h;obtain⟨i,j,rfl,q⟩:=h;obtain⟨u,n,rfl,⟨t,rfl⟩,⟨o,rfl⟩⟩:=GO r;refine fJ I.tk (min_two_ints (I.ok.hd f) λp v k g=>⟨_,H,I.kept k g,?_,q⟩);by_cases d:j<i
 ·rw[Ji d,Ji d];exact⟨_,rfl⟩
 ·rw[Jk d,Jk d];exact⟨_,rfl⟩
def zdo:nF X (.type "int") (λxs H Q=>(∃i,xs=[.int i]/\Q (.int i) H) \/ ∃k,xs=[.bl k]/\Q (.int (if k then 1 else 0)) H):=by
 intro d s f H xs g Q I r h;rcases h with⟨i,rfl,q⟩|⟨k,rfl,q⟩
 ·obtain⟨u,rfl,t,rfl⟩:=tu r;exact call_int_int ⟨.int i,H,I,⟨_,rfl⟩,q⟩
 ·obtain⟨u,rfl,e⟩:=tu r;cases e;exact call_int_bool ⟨.int (if k then 1 else 0),H,I.tok _,⟨_,rfl⟩,q⟩
def N7(K:ah)(x:V)(H:Hp)(n:Nat):Prop:=
 match x with
 |.str y=>y.length<=KM/\n=y.length
 |.byt y=>y.size<=KM/\n=y.size
 |.ref p=>(∃xs,qg K H p xs/\n=xs.length) \/ ∃xs,qX K H p xs/\n=xs.length
 |_=>False
def zf9:nF X (.builtin "len") (λxs H Q=>∃x n,xs=[x]/\N7 X.K x H n/\Q (.int n) H):=by
 intro l s w H xs z Q I r h;obtain⟨x,n,rfl,e,q⟩:=h;obtain⟨u,rfl,g⟩:=tu r;have A:=CO;have B:KM=16777216:=l8;cases x with
 | str y=>
  obtain⟨t,rfl⟩:=g;obtain⟨m,f⟩:y.length<=KM/\n=y.length:=e;subst f;exact len_str 'o' ⟨.int _,H,I.tok _,⟨_,rfl⟩,q⟩
 | byt y=>
  obtain⟨t,rfl⟩:=g;obtain⟨m,f⟩:y.size<=KM/\n=y.size:=e;subst f;exact PySem.W.len_bytes 'o' ⟨.int _,H,I.tok _,⟨_,rfl⟩,q⟩
 | ref p=>
  cases g;have f:(∃xs,qg X.K H p xs/\n=xs.length) \/ ∃xs,qX X.K H p xs/\n=xs.length:=e;rcases f with⟨xs,i,f⟩|⟨xs,i,f⟩
  ·subst f;obtain⟨o,j,k,v⟩:=I.list i;have d:=j.length;exact Calls.call_len_list k.isList (by simp only[aJ];lia) ⟨.int xs.length,H,I.tok _,⟨_,by simp only[aJ];rw[d]⟩,q⟩
  ·subst f;obtain⟨o,j,k,v⟩:=I.tuple i;have d:=j.length;exact len_tuple k (by simp only[aJ];lia) ⟨.int xs.length,H,I.tok _,⟨_,by simp only[aJ];rw[d]⟩,q⟩
 |_=>exact(show False from e).elim
end
structure zp9(h:aV)(x dx C:ab)(mA:az->Option ae):Prop where
 obj:h.get? x=Jd (mD C dx)
 ns:h.Ns1 dx mA
 ne:dx≠x
section
end
def n6.some_of(r:n6 (Jd v) o):∃u,o=Jd u/\RelV v u:=by
 cases o with
 |none=>exact(show False from r).elim
 |some u=>exact⟨u,rfl,r⟩
structure NV(K:ah)(C:ab):Prop where
 pg:mi K C Str.empty=Jg
 hd:PySem.W.hasDictIn K C=Jg
 po:PySem.W.plainOver K C=Jg
 sa:ez K (.ref C) "__setattr__" = Jd (Jd (.builtin "object.__setattr__"))
def NV.get{K:ah}{C:ab}(c:NV K C)(f:az):mi K C f=Jg:=c.pg
structure Con(K:ah)(C:ab)(f:az)(v:V)(u:ae):Prop where
 at_:ez K (.ref C) f=Jd (Jd u)
 rel:RelV v u
 get:jn K u "__get__" = Jd Jf
 cp:PySem.W.copiedNames.contains f=Jh
structure zpb(K:ah)(C:ab)(m:az)(f:ab):Prop where
 at_:ez K (.ref C) m=Jd (Jd (.ref f))
 fn:m7 K (.ref f)=Jg
 kp:cJ K (.ref f)=Jg
section
end
section
variable{H:Hp}
inductive xF(K:ah)(H:Hp):V->ae->Prop where
 |non:xF K H .non (.type "NoneType")
 |bl (x:Bool):xF K H (.bl x) (.type "bool")
 |int (i:Int):xF K H (.int i) (.type "int")
 |str (x:az):xF K H (.str x) (.type "str")
 |flt (x:UInt64):xF K H (.flt x) (.type "float")
 |lst {a:ab} {xs:List V} (e:H a=Jd (.lst xs)):xF K H (.ref a) (.type "list")
 |frz {a:ab} {o:Obj} {xs:List V} (e:H a=Jd (.frz o (.lst xs))):xF K H (.ref a) (.type "list")
 |tup {a:ab} {xs:List V} (e:H a=Jd (.tup xs)):xF K H (.ref a) (.type "tuple")
 |dK {a:ab} {l_:List (Key×V)} (e:H a=Jd (.dK l_)):xF K H (.ref a) (.type "dict")
 |dT {a:ab} {l_:List (List Key×V)} (e:H a=Jd (.dT l_)):xF K H (.ref a) (.type "dict")
 | ins {a C dx:ab} {fs:List (az×V)} (e:H a=Jd (.ins C dx fs)) (cl:NV K C) (ha:ez K (.ref C) "__class__" = Jd (Jd (.builtin "object.__class__")))
   (hn:jn K (.builtin "object.__class__") "__get__" = Jd (Jd (.builtin "getset_descriptor.__get__"))) (qf:mE K (.builtin "object.__class__")=Jd Jg)
   (hm:kP K C (.type "object")=Jd Jg):xF K H (.ref a) (.ref C)
end
structure nD(k:Nat)(A:be):Prop where
 hd:A.handled=Jf
 dp:A.depth+3*k+5<recursionLimit
 un:A.units+16*k+200<cLine
def nD.mono(r:nD k A)(h:j<=k):nD j A:=⟨r.hd,by have:=r.dp;lia,by have:=r.un;lia⟩
def nD.deeper(r:nD (k+1) A)(a:Env):nD k (A.deeper a):=
 ⟨r.hd,by have:=r.dp;show A.depth+1+3*k+5<_;lia,by have:=r.un;show A.units+3+16*k+200<_;lia⟩
def nD.in1(r:nD (k+1) A):nD k A.in1:=
 ⟨r.hd,by have:=r.dp;show A.depth+3*k+5<_;lia,by have:=r.un;show A.units+1+16*k+200<_;lia⟩
def nD.depth(r:nD k A):A.depth<recursionLimit:=by have:=r.dp;lia
def nD.units(r:nD k A):A.units+64<cLine:=by have:=r.un;lia
def N5:TA:=λ_ H Q=>Q [] H
def Oy(ta:TE)(tr:TA):TA:=λσ H Q=>ta σ H λx H1=>tr σ H1 λxs H2=>Q (x::xs) H2
section
variable{X:Cx}{e:aS}{es:List aS}{te:TE}{t:TA}{pos:Pos}
def G6:PA X [] N5:=λ_ _ _ _ H Q I h=>lR ⟨[],H,I,.nil,h⟩
def Ej(c:PE X e te)(d:PA X es t)(f:aP (e::es) X.env=(Jh,eval e X.env)::aP es X.env:=by rfl):PA X (e::es) (Oy te t):=by intro pos a s b H Q I h;rw[f];show ay _ _ (spliced ((Jh,eval e X.env)::backTo pos (aP es X.env))) _ _ s;refine lg (o7 (c a s b H _ I h) λu g ⟨x,i,j,k,l⟩=>?_);exact o7 (d pos a g b i _ j l) λr v ⟨m,n,o,p,q⟩=>⟨x::m,n,o,.cons k p,q⟩
def V6(t:TA):TE:=λσ H Q=>t σ H λxs H1=>xs.length<=KM/\∀p,H1 p=Jf->Q (.ref p) (upd H1 p (.tup xs))
def Wl(t:TA):TE:=λσ H Q=>t σ H λxs H1=>xs.length<=KM/\∀p,H1 p=Jf->Q (.ref p) (upd H1 p (.lst xs))
def YS(h:PA X es t):PE X (.Tuple es x1 pos) (V6 t):=by intro a s g H Q I i;refine wpAny_Tuple_spliced (o7 (h pos a s g H _ I i) λj c ⟨k,d,f,r,z,q⟩=>⟨by rw[<- r.length];exact z,?_⟩);have l:d c.heap.objs.size=Jf:=f.hok.fresh (aE _);refine⟨.ref c.heap.objs.size,upd d c.heap.objs.size (.tup k),f.laid (t':=c.toks) (λb u e=>ai _ e) (aE _) ?_,rfl,q _ l⟩;exact⟨z,j,r,nT.new _ _⟩
def PF(h:PA X es t):PE X (.List es pos) (Wl t):=by intro a s g H Q I i;refine wpAny_List_spliced (o7 (h pos a s g H _ I i) λj c ⟨k,d,f,r,z,q⟩=>⟨by rw[<- r.length];exact z,?_⟩);have l:d c.heap.objs.size=Jf:=f.hok.fresh (aE _);refine⟨.ref c.heap.objs.size,upd d c.heap.objs.size (.lst k),f.laid (t':=c.toks) (λb u e=>ai _ e) (aE _) ?_,rfl,q _ l⟩;exact⟨z,j,0,r,aO _ rfl⟩
end
abbrev Sp:=List V->Hp->VK->XK->Prop
abbrev vZ:=List Env->Hp->ag->XK->ae->ag->Prop
structure n8(P:aQ)(w:a8)(K:ah)(mg:az->Option ae)(base:aV)(A:be)(outer:List Env)(s:ag)(H:Hp):Prop where
 frames:A.frames=Jd outer
 mod:Mod K mg base
 bs:∀b o,base.get? b=Jd o->s.heap.get? b=Jd o/\H b=Jf
 bsz:base.objs.size<=s.heap.objs.size
 funs:s.heap.FunFrames base outer
 frf:∀b∈t8 outer,H b=Jf
 hok:HOk P w H s.heap
 bare:gN s.gens
 tk:0<s.toks
def CE(outer:List Env)(P:aQ)(w:a8)(H:Hp)(s:ag)(Q:VK)(u:ae)(s':ag):Prop:=
 (∃v H',s'.os=s.os/\gN s'.gens/\Un (t8 outer) [] H H' s.heap s'.heap/\HOk P w H' s'.heap/\RelV v u/\Q v H')/\0<s'.toks
def CR(CX:vZ)(outer:List Env)(P:aQ)(w:a8)(H:Hp)(s:ag)(Q:VK)(E:XK)(r:Result)(s':ag):Prop:=
 match r with
 |.ok (.ret u)=>CE outer P w H s Q u s'
 |.ok _=>False
 |.error e=>CX outer H s E e s'
structure nK(P:aQ)(w:a8)(K:ah)(mg:az->Option ae)(base:aV)(CX:vZ)(k:Nat)(f:ab)(fd:d0)(ps:List az)(sp:Sp):Prop where
 len:∀vs H Q E,sp vs H Q E->vs.length=ps.length
 run:∀(A:be)(outer:List Env)(s:ag)(H:Hp)(args:Args)(us:List ae)(vs:List V)(Q:VK)(E:XK),nD k A->n8 P w K mg base A outer s H->j8 s fd args (ps.zip us)->nu vs us->sp vs H Q E->
  codeAny (aC P w) A (.call (.ref f) args) (CR CX outer P w H s Q E) s
def nK.mono{P:aQ}{w:a8}{K:ah}{c:az->Option ae}{base:aV}{d:vZ}{j k:Nat}{f:ab}{e:d0}{g:List az}{i:Sp}(F:nK P w K c base d j f e g i)(h:j<=k):
  nK P w K c base d k f e g i:=⟨F.len,λA a s H b l m Q E n=>F.run A a s H b l m Q E (n.mono h)⟩
def nK.imp{P:aQ}{w:a8}{K:ah}{c:az->Option ae}{base:aV}{d:vZ}{k:Nat}{f:ab}{e:d0}{g:List az}{i j:Sp}(F:nK P w K c base d k f e g i)
  (h:∀vs H Q E,j vs H Q E->i vs H Q E):nK P w K c base d k f e g j:=
 ⟨λvs H Q E q=>F.len vs H Q E (h _ _ _ _ q),λA a s H b l vs Q E m n o p r=>F.run A a s H b l vs Q E m n o p (h _ _ _ _ r)⟩
def n8.in1{P:aQ}{w:a8}{K:ah}{b:az->Option ae}{base:aV}{A:be}{a:List Env}{s:ag}{H:Hp}(e:n8 P w K b base A a s H):
  n8 P w K b base A.in1 a s H:=⟨e.frames,e.mod,e.bs,e.bsz,e.funs,e.frf,e.hok,e.bare,e.tk⟩
section
variable{X:Cx}{Y1:List (ab×Obj)}{σ:St}{H:Hp}{s s':ag}
def Inv.env0(I:Inv X Y1 σ H s):n8 X.prog X.w X.K X.mg X.base X.A X.stack s H:=
 ⟨I.ok.frames,I.ok.mod,I.bs,aG I.ok.bsz I.sz,I.stack,I.stkFree,I.hok,I.bare,I.tk⟩
def Inv.after(I:Inv X Y1 σ H s)(h:CE X.stack X.prog X.w H s Q u s'):EP X Y1 σ Q u s':=by obtain⟨⟨v,e,f,a,i,c,r,q⟩,j⟩:=h;obtain⟨k,g,d,t,l⟩:=s';obtain rfl:l=s.os:=f;exact⟨v,e,I.call (h':=k) (g':=g) (d':=d) (t':=t) (ch:=[]) i c a (λb z=>absurd z 'd') j,r,q⟩
end
def W6(sp:Sp)(yM:List V)(E:XK)(t:TA):TE:=λσ H Q=>t σ H λvs H1=>sp (vs++yM) H1 Q E
def Binds(K:ah)(fd:d0)(ps:List az)(ds:List ae):Prop:=
 ∀(s:ag)(us:List ae),K.In s.heap->(us++ds).length=ps.length->j8 s fd ⟨us,[]⟩ (ps.zip (us++ds))
def Binds.all{K:ah}{c:d0}{b:List az}(h:∀a:List ae,a.length=b.length->bindArgs c ⟨a,[]⟩=pure (b.zip a)):Binds K c b []:=λs a _ d=>by
 rw[bF] at d ⊢;exact .of_eq (h a d)
def G0(CX:vZ)(X:Cx)(E:XK):Prop:=∀(Y1:List (ab×Obj))(σ:St)(H:Hp)(s:ag)(e:ae)(s':ag),Inv X Y1 σ H s->CX X.stack H s E e s'->X.xe e s'
section
variable{X:Cx}{CX:vZ}{k:Nat}{f C:ab}{fd:d0}{ps:List az}{sp:Sp}{yM:List V}{ds:List ae}{E:XK}{x:az}{p pos:Pos}{e:aS}{es:List aS}{t:TA}
def Xb(F:nK X.prog X.w X.K X.mg X.base CX k f fd ps sp)(c:nD k X.A)(d:Binds X.K fd ps ds)(g:nu yM ds)(i:G0 CX X E)
  (I:Inv X Y1 σ H s) (r:nu vs us) (h:sp (vs++yM) H Q E):ay (aC X.prog X.w) X.A (call (.ref f) us) (EP X Y1 σ Q) X.xe s:=by
 have b:nu (vs++yM) (us++ds):=r.append g;have j:(us++ds).length=ps.length:=by rw[<- b.length];exact F.len _ _ _ _ h
 refine kG (fZ (F.run X.A X.stack s H ⟨us,[]⟩ (us++ds) (vs++yM) Q E c I.env0 (d s us I.kIn j) b h) λr l a=>?_);cases r with
 |error e=>exact i Y1 σ H s e l I a
 | ok fl=>
  cases fl with
  |ret u=>exact I.after a
  |next=>exact aj a
  |brk=>exact aj a
  |cont=>exact aj a
def Qz(F:nK X.prog X.w X.K X.mg X.base CX k f fd ps sp)(c:nD k X.A)(d:Gl X x)(g:X.mg x=Jd (.ref f))(i:cJ X.K (.ref f)=Jg)(j:Binds X.K fd ps ds)(l:nu yM ds)(m:G0 CX X E)
  (n:PA X (e::es) t) (o:rG x:=by decide) (u:aP (e::es) X.env=(Jh,eval e X.env)::aP es X.env:=by rfl) (v:(backTo pos (aP es X.env)).any (·.1)=Jh:=by rfl):
  PE X (.Call (.Name x p) (e::es) [] pos) (W6 sp yM E t):=by intro a s y H Q I h;refine gz (Qc I d g ?_ o);refine PySem.W.callWith_K (h₀:=X.base) I.ok.mod.kin i (o7 (n pos a s y H _ I h) λz B ⟨D,G,b,r,q⟩=>⟨b.kIn,?_⟩) u v;exact Xb F c j l m b r q
structure Mk(K:ah)(C f:ab):Prop where
 makes:PySem.W.makesIn K C=Jg
 init:ez K (.ref C) "__init__" = Jd (Jd (.ref f))
 fn:m7 K (.ref f)=Jg
 kp:cJ K (.ref C)=Jg
end
section
variable{fd:d0}{ps ks:List az}
structure zow(K:ah)(fd:d0)(ps ks:List az)(g:List ae->List ae->List ae)(gV:List V->List V->List V):Prop where
 to:∀(s:ag)(us ws:List ae),K.In s.heap->(g us ws).length=ps.length->j8 s fd ⟨us,ks.zip ws⟩ (ps.zip (g us ws))
 rel:∀{vs:List V}{us:List ae}{zs:List V}{ws:List ae},nu vs us->nu zs ws->nu (gV vs zs) (g us ws)
end
structure sW(N P:List az)(sc:cG):Prop where
 kind:sc.kind=.function
 co:sc.isCoroutine=Jh
 gen:sc.isGenerator=Jh
 nd:N.Nodup
 pre:N.take P.length=P
 par:∀x∈P,sc.names.lookup x=Jd .local\/sc.names.lookup x=Jd .cell
 nofree:∀y∈sc.names,y.2 ≠ .free
theorem SQ{a:az->Option cT}{x:az}:∀{binds:List (az×ae)}{m:az->Option ae},(∀v,(x,v)∉binds)->bindL a binds m x=m x
 |[],_,_=>rfl
 | (n,v)::r,m,h=>by
  unfold bindL;rw[SQ λw b=>h w (ak _ b)];split
  ·have:x≠n:=by rintro rfl;exact h v am
   simp[this]
  ·rfl
theorem Td{a:az->Option cT}{x:az}:∀{binds:List (az×ae)}{m:az->Option ae},(∀v,(x,v)∉binds)->bindC a binds m x=m x
 |[],_,_=>rfl
 | (n,v)::r,m,h=>by
  unfold bindC;rw[Td λw b=>h w (ak _ b)];split
  ·rfl
  ·have:x≠n:=by rintro rfl;exact h v am
   simp[this]
theorem Tx{a:az->Option cT}{x:az}{v:ae}:∀{P:List az}{vs:List ae}{i:Nat}{m:az->Option ae},P.Nodup->P[i]?=Jd x->vs[i]?=Jd v->a x=Jd .local->
  bindL a (P.zip vs) m x=Jd v
 |[],_,_,_,_,h,_,_=>by simp at h
 |_::_,[],_,_,_,_,h,_=>by simp at h
 | p::P,w::vs,0,m,nd,h1,h2,hk=>by
  simp at h1 h2;subst h1;subst h2;show bindL a ((p,w)::P.zip vs) m p=_;unfold bindL;rw[SQ λv b=>(bo.mp nd).1 (iy b).1,Ji hk];simp
 | p::P,w::vs,i+1,m,nd,h1,h2,hk=>by
  show bindL a ((p,w)::P.zip vs) m x=_;unfold bindL;exact Tx (i:=i) (bo.mp nd).2 ⇑h1 ⇑h2 hk
theorem SX{a:az->Option cT}{x:az}{v:ae}:∀{P:List az}{vs:List ae}{i:Nat}{m:az->Option ae},P.Nodup->P[i]?=Jd x->vs[i]?=Jd v->a x≠Jd .local->
  bindC a (P.zip vs) m x=Jd v
 |[],_,_,_,_,h,_,_=>by simp at h
 |_::_,[],_,_,_,_,h,_=>by simp at h
 | p::P,w::vs,0,m,nd,h1,h2,hk=>by
  simp at h1 h2;subst h1;subst h2;show bindC a ((p,w)::P.zip vs) m p=_;unfold bindC;rw[Td λv b=>(bo.mp nd).1 (iy b).1,Jk hk];simp
 | p::P,w::vs,i+1,m,nd,h1,h2,hk=>by
  show bindC a ((p,w)::P.zip vs) m x=_;unfold bindC;exact SX (i:=i) (bo.mp nd).2 ⇑h1 ⇑h2 hk
def start(N:List az)(vs:List V):St:=vs.map Jd++aH (N.length-vs.length) Jf
noncomputable def A2(CX:vZ)(P:aQ)(w:a8)(K:ah)(mg:az->Option ae)(base:aV)(N:List az)(qual:az)(scope:cG)(f:ab)(cd:ae)(A:be)(outer:List Env)(s:ag)(H:Hp)(E:XK):Cx where
 prog:=P
 w:=w
 K:=K
 mg:=mg
 base:=base
 A:=A.deeper (envOfC qual scope s.heap.objs.size f cd)
 N:=N
 s₀:=s
 H₀:=H
 env:=envOfC qual scope s.heap.objs.size f cd
 outer:=outer
 stack:=envOfC qual scope s.heap.objs.size f cd::outer
 ex:=[]
 calm:=Jg
 fn:=λ_=>Jg
 pn:=[]
 xe:=λe s'=>ay (aC P w) (A.deeper (envOfC qual scope s.heap.objs.size f cd)) (leaving (envOfC qual scope s.heap.objs.size f cd) e) (λ_ rF=>CX outer H s E e rF) (λe' rF=>CX outer H s E e' rF) s'
def Sv{a:cG}{n:Nat}{x:az}(h:a.names.lookup x=Jd .cell):∃c,(cr n a.names []).lookup x=Jd c:=by have q:=g9 a.names n [] (.inl h);exact gA.mp q
def zea{L:vZ}{P:aQ}{w:a8}{K:ah}{F:az->Option ae}{base:aV}{N o:List az}{j:az}{d:cG}{f:ab}{B:ae}{A:be}{g:List Env}{s G:ag}{H:Hp}{E:XK}{I:List ae}{vs:List V}
  (S:sW N o d) (R:A.handled=Jf) (m:n8 P w K F base A g s H) (X:vs.length=o.length) (r:nu vs I)
  (x:InCallC s s.heap.objs.size (bindL (envOfC j d s.heap.objs.size f B).kindOf (o.zip I) λ_=>Jf) (cr (s.heap.objs.size+1) d.names []) (bindC (envOfC j d s.heap.objs.size f B).kindOf (o.zip I) λ_=>Jf) G) (T:0<G.toks):
  Inv (A2 L P w K F base N j d f B A g s H E) [] (start N vs) H G:=by
 have Y:o.length<=N.length:=by have:=congrArg jX S.pre;rw[bS] at this;lia
 obtain⟨C,Z,rfl,M⟩:=x.done;have J:∀b:ab,b∉(A2 L P w K F base N j d f B A g s H E).ex:=λb z=>absurd (show b∈([]:List ab) from z) 'd';refine⟨⟨m.mod,S.kind,rfl,rfl,aE _,λy z c C l=>?_,λy hy=>?_,λy c _ h=>?_,λ_=>R,kH m.frames,.inr ⟨rfl,rfl⟩,λb z=>absurd z (J b),m.bs,m.bsz,λb _ _=>J b,λb z=>absurd z (J b),m.funs,m.frf⟩,
  rfl,m.bare,Un.kept M,⟨_,x.toInCall.ns,λi y v C l h3=>?_⟩,λy c h=>⟨_,x.cell y c h⟩,m.hok.fresh (aE _),λy c h=>?_,λp t=>absurd (show p∈([]:List (ab×Obj)) from t) 'd',m.hok.kept M,?_,T⟩
 ·exact name_of_addr x.apart (bD C) (bD l)
 ·have hy:d.names.lookup y=Jd .cell\/d.names.lookup y=Jd .free:=hy;rcases hy with hy|hy
  ·exact Sv hy
  ·exact absurd rfl (S.nofree _ (bD hy))
 ·exact fk (x.above y c (bD h))
 ·have D:i<vs.length:=by
   unfold start at l;by_cases D:i<vs.length
   ·exact D
   ·rw[bb ⇑D] at l;rw[fy] at l;split at l<;>cases l
  have U:vs[i]?=Jd v:=by
   unfold start at l;rw[aF ⇑D,bd] at l;cases e:vs[i]? with
   |none=>rw[e] at l;cases l
   |some a=>rw[e] at l;cases l;rfl
  obtain⟨u,O,W⟩:=r.get U;have t:o[i]?=Jd y:=by
   rw[<- S.pre,fo 'o'];exact C
  have Q:o.Nodup:=by rw[<- S.pre];exact S.nd.sublist (cE _ _)
  refine⟨u,W,?_⟩;rcases S.par y (aN t) with k|k
  ·exact .inl ⟨k,Tx Q t O k⟩
  ·obtain⟨c,e⟩:=Sv (n:=s.heap.objs.size+1) k;refine .inr ⟨.inl k,c,e,?_⟩;have q:=x.cell y c e;rw[SX Q t O (by show d.names.lookup y≠_;rw[k];decide)] at q;exact q
 ·exact m.hok.fresh (fk (x.above y c (bD h)))
 ·unfold start;show _=N.length;rw[aw,aA,io];lia
def oY{B:vZ}{P:aQ}{w:a8}{K:ah}{C:az->Option ae}{base:aV}{k:Nat}{f:ab}{name d:az}{g:ip}{body:List dW}{a:cG}{R T m U i X oc:ae}{Y od:Option ab}
  {t5:Array (Option ae)} {N D:List az} {F:Sp} (lk:K.lookup f=Jd ⟨oc,od,.func (bV name d g body a R T m U Y i X),t5⟩) (qx:eB K i d=Jg) (S:sW N D a)
  (p:∀vs H Q E,F vs H Q E->vs.length=D.length)
  (pL:∀(A:be)(c:List Env)(s:ag)(H:Hp)(vs:List V)(Q:VK)(E:XK),nD k (A.deeper (envOfC d a s.heap.objs.size f i))->F vs H Q E->
   ∃t,rZ (A2 B P w K C base N d a f i A c s H E) body t/\t { nx:=λ_ H'=>Q .non H',rt:=Q } (start N vs) H):
  nK P w K C base B (k+1) f (bV name d g body a R T m U Y i X) D F:=by
 refine⟨p,λA c s H Z us vs Q E G j hb r Dm=>?_⟩;have hl:=p _ _ _ _ Dm;have KX:K.In s.heap:=j.mod.kin.keeps λb o e=>(j.bs b o e).1;have L:s.heap.NoLimit:=j.mod.nolimit.keeps λb o e=>(j.bs b o e).1;have FW:∀y∈D.zip us,a.names.lookup y.1=Jd .local\/(a.names.lookup y.1=Jd .cell/\((cr (s.heap.objs.size+1) a.names []).lookup y.1).isSome=Jg):=λ⟨n,v⟩ hy=>by
  rcases S.par n (iy hy).1 with q|q
  ·exact .inl q
  ·exact .inr ⟨q,g9 _ _ _ (.inl q)⟩
 refine codeAny_call_function G.depth (KX _ _ lk) rfl S.co S.gen rfl (PySem.W.codeRec_of KX qx) (hb _ _ _ _ ?_);refine fJ j.tk (wpAny_newFunctionEnv_cells S.kind FW λenv he s1 x qf=>?_);subst he;refine⟨L.keeps x.toInCall.keep,codeAny_func ?_⟩;obtain⟨t,ht,hq⟩:=pL A c s H vs Q E (G.deeper _) Dm;have I:Inv (A2 B P w K C base N d a f i A c s H E) [] (start N vs) H s1:=zea S G.hd j hl r x qf;refine cj (ht [] s1 (start N vs) H _ I hq) (λfl M l=>?_) λe M l=>l;have z:∀{h:St}{H':Hp}{v:V}{u:ae},Inv (A2 B P w K C base N d a f i A c s H E) [] h H' M->RelV v u->Q v H'->CE c P w H s Q u M:=
  λ{h H' v u}J O q=>⟨⟨v,H',J.os,J.bare,J.base,J.hok,O,q⟩,J.tk⟩
 cases fl with
 | ret u=>
  obtain⟨v,h,H',J,O,q⟩:=l;exact z J O q
 | next=>
  obtain⟨h,H',J,q⟩:=l;exact z (v:=V.non) (u:=iu) J rfl q
 | brk=>
  obtain⟨_,_,_,q⟩:=l;exact aj q
 | cont=>
  obtain⟨_,_,_,q⟩:=l;exact aj q
section
variable{X:Cx}{x:az}{p pos:Pos}{e:aS}{es:List aS}{t:TA}{id T:String}{r:List V->Hp->VK->Prop}
def IH(r:List V->Hp->VK->Prop)(t:TA):TE:=λσ H Q=>t σ H λvs H1=>r vs H1 Q
def Rx(c:nF X (.builtin id) r)(d:Gl X x)(f:X.mg x=Jf)(g:bu x=Jd (.builtin id))(i:PA X (e::es) t)(j:x ≠ "__name__":=by decide)(k:rG x:=by decide)
  (l:aP (e::es) X.env=(Jh,eval e X.env)::aP es X.env:=by rfl) (m:(backTo pos (aP es X.env)).any (·.1)=Jh:=by rfl):PE X (.Call (.Name x p) (e::es) [] pos) (IH r t):=by intro a s b H Q I h;refine gz (Ai I d f g ?_ j k);exact PyProof.Rows.callWith_builtin1 (o7 (i pos a s b H _ I h) λn o ⟨q,u,v,w,y⟩=>c a o b u q n Q v w y) l m
def Lf(c:nF X (.type T) r)(d:Gl X x)(f:X.mg x=Jf)(g:bu x=Jd (.type T))(i:PA X (e::es) t)(j:x ≠ "__name__":=by decide)(k:rG x:=by decide)
  (l:aP (e::es) X.env=(Jh,eval e X.env)::aP es X.env:=by rfl) (m:(backTo pos (aP es X.env)).any (·.1)=Jh:=by rfl):PE X (.Call (.Name x p) (e::es) [] pos) (IH r t):=by intro a s b H Q I h;refine gz (Ai I d f g ?_ j k);exact dO (o7 (i pos a s b H _ I h) λn o ⟨q,u,v,w,y⟩=>c a o b u q n Q v w y) l m
end
end L2
namespace HT
open PySem PyProof.Rows
section
open PySem.SeqAt
open PySem.AutoSeq1 (wpAny_loadPart')
open PySem.MeetsSeq PySem.MeetsSeq2 PySem.MeetsSeq3
end
section
variable{prog:aQ}{w:a8}{A:be}{E:ae->ag->Prop}{s:ag}
def cat_tup(u:IsTup s.heap t vs.toArray)(v:IsTup s.heap b ws.toArray)(h:vs≠[])
  (x:ws=[]->Q (.ref t) s) (y:ws≠[]->Q (.ref s.heap.objs.size) { s with heap:=s.heap.push { cls:=.type "tuple",data:=.seq (vs++ws).toArray } })
  (hsz:vs.length+ws.length<=KM):ay (aC prog w) A (dZ .Add (.ref t) (.ref b)) Q E s:=by
 obtain⟨⟨cls,i,data,j⟩,c,k,n,l⟩:=id u;obtain⟨⟨m,o,g,p⟩,d,q,r,a⟩:=id v;simp only at k l q a;subst k l q a;have e:vs.toArray++ws.toArray=(vs++ws).toArray:=by simp
 by_cases f:ws=[]
 ·exact i5 ⟨_,c,rfl⟩ ⟨_,d,rfl⟩ jx kQ hJ gR (gC _ _)
   (tuple_addW1 t b vs.toArray ws.toArray n r i o j p ⇑h (by simp[f])) ⟨c,d,x f⟩
 ·refine i5 ⟨_,c,rfl⟩ ⟨_,d,rfl⟩ jx kQ hJ gR (gC _ _)
   (tuple_addW2 t b vs.toArray ws.toArray n r i o j p ⇑h ⇑f (by rw[aJ,aJ];exact hsz)) ⟨c,d,?_⟩
  rw[e];exact y f
def sIx(n d:Nat):Option Int->Nat
 |none=>d
 |some v=>if v<0 then (v+(n:Int)).toNat else min v.toNat n
def sIx_none(n d:Nat):sIx n d Jf=d:=rfl
def sIx_nat(n d k:Nat):sIx n d (Jd (k:Int))=min k n:=by show(if (k:Int)<0 then ((k:Int)+(n:Int)).toNat else min (k:Int).toNat n)=min k n;rw[Jk 'o',jo]
def YC(n d:Nat)(b:d<=n)(o:Option Int):sIx n d o<=n:=by
 cases o with
 |none=>exact b
 | some v=>
  show(if v<0 then (v+(n:Int)).toNat else min v.toNat n)<=n;by_cases a:v<0
  ·rw[Ji a];lia
  ·rw[Jk a];exact Nat.min_le_right _ _
def Qm(v:Int)(n d:Nat):(if v<0 then max (v+(n:Int)) 0 else min v (n:Int))=((sIx n d (Jd v):Nat):Int):=by
 show(if v<0 then max (v+(n:Int)) 0 else min v (n:Int))=(((if v<0 then (v+(n:Int)).toNat else min v.toNat n):Nat):Int);by_cases a:v<0
 ·simp only[Ji a];lia
 ·simp only[Jk a];lia
def zbp(lo a:Option Int)(n:Nat):gp lo a 1 (n:Int)=(((sIx n 0 lo:Nat):Int),((sIx n n a:Nat):Int)):=by
 have b:¬ ((1:Int)<0):=by lia
 unfold gp;simp only[b,if_false];refine kC ?_ ?_
 ·cases lo with
  |none=>rfl
  |some v=>exact Qm v n 0
 ·cases a with
  |none=>rfl
  |some v=>exact Qm v n n
def zbu(i j:Nat):fe (i:Int) (j:Int) 1=j-i:=by
 unfold fe;have a:(1:Int)>0:=by lia
 simp only[a,if_true,Int.ediv_one];split<;>lia
def TJ(p:gD v o)(h:Q o s):ay (aC prog w) A (Builtin.Slice.slicePartIndex v) Q E s:=by
 cases p with
 |none=>exact slicePart_none h
 |int i t=>exact slicePart_int h
def sliceApplied_gen{f:ab}{b c:ae}{lo a:Option Int}{n:Nat}{Q:Int×Int×Nat->ag->Prop}(g:s.heap.IsSliceOf f b c .none)(i:gD b lo)(j:gD c a)
  (h:Q (((sIx n 0 lo:Nat):Int),1,sIx n n a-sIx n 0 lo) s):ay (aC prog w) A (jd (.ref f) (pure (n:Int))) Q E s:=by obtain⟨k,d,l,e⟩:=id g;unfold jd Builtin.Slice.sliceFields;refine aa (aa (bQ d e (x:=b) rfl (aa (bQ d e (x:=c) rfl (aa (bQ d e (x:=.none) rfl (aq ?_)))))));refine aa (slicePart_none ?_);show ay _ _ (if ((1:Int)==0)=Jg then _ else _) _ _ s;rw[Jk 's'];refine aa (TJ i (aa (TJ j (aa (aq ?_)))));show ay _ _ (match gp lo a 1 (n:Int) with|(lo,a)=>pure (lo,(1:Int),fe lo a 1)) _ _ s;rw[zbp lo a n];show ay _ _ (pure (((sIx n 0 lo:Nat):Int),(1:Int),fe ((sIx n 0 lo:Nat):Int) ((sIx n n a:Nat):Int) 1)) _ _ s;rw[zbu];exact aq h
def zfO(xs:Array ae)(i k:Nat):((aM k).filterMap λ(m:Nat)=>xs[((i:Int)+(m:Int)*1).toNat]?).toArray=((xs.toList.drop i).take k).toArray:=by
 have e:(λ(m:Nat)=>xs[((i:Int)+(m:Int)*1).toNat]?)=λm=>xs[i+m]?:=by
  funext m;have:((i:Int)+(m:Int)*1).toNat=i+m:=by lia
  rw[this]
 rw[e];have:=pick_run xs i k;rw[List.filterMap_map] at this;have a:((λx=>xs[x]?)∘λx=>i+x)=λm=>xs[i+m]?:=rfl;rw[a] at this;rw[this]
def getItem_tuple_cut{t d:ab}{items:Array ae}{f g:ae}{lo a:Option Int}{Q:ae->ag->Prop}(b:IsTup s.heap t items)(i:s.heap.IsSliceOf d f g .none)(j:gD f lo)(k:gD g a)
  (l:¬ (sIx items.size 0 lo=0/\sIx items.size items.size a=items.size))
  (h:Q (.ref s.heap.objs.size) { s with heap:=s.heap.push { cls:=.type "tuple",data:=.seq ((items.toList.drop (sIx items.size 0 lo)).take (sIx items.size items.size a-sIx items.size 0 lo)).toArray } })
  (hsz:items.size<=KM):ay (aC prog w) A (getItem (.ref t) (.ref d)) Q E s:=by
 have c:sizeOk (.seq ((items.toList.drop (sIx items.size 0 lo)).take (sIx items.size items.size a-sIx items.size 0 lo)).toArray):=by
  show((items.toList.drop (sIx items.size 0 lo)).take (sIx items.size items.size a-sIx items.size 0 lo)).toArray.size<=KM;rw[aJ,bS,cb,aI];lia
 have u:sIx items.size items.size a<=items.size:=YC _ _ (aE _) a;obtain⟨n,o,p,v⟩:=id i;have r:s.TypeIs (.ref d) "slice":=⟨n,o,p⟩;unfold getItem
 try with_reducible refine bK ?_
 first|refine aa (aq ?_)|skip
 refine aa (wpAny_sequenceKey b.typeIs 's' ?_);refine aa (cH (name:=gZ "__getitem__") b.typeIs cu
  (cB cu b.typeIs kX ?_ (lh _ _)))
 show ay _ _ (je (.ref t) >>= _) _ _ s;refine aa (tupleItemsOf_ b ?_);refine aa (li r ?_);rw[Ji 's'];refine aa (sliceApplied_gen i j k ?_);have e:¬ ((((sIx items.size 0 lo:Nat):Int)==0&&(1:Int)==1&&(sIx items.size items.size a-sIx items.size 0 lo)==items.size)=Jg):=by
  intro q;rw[aT,aT] at q;have x:((sIx items.size 0 lo:Nat):Int)=0:=eq_of_beq q.1.1;have y:sIx items.size items.size a-sIx items.size 0 lo=items.size:=eq_of_beq q.2;exact l ⟨by lia,by lia⟩
 show ay _ _ (if (((sIx items.size 0 lo:Nat):Int)==0&&(1:Int)==1&&(sIx items.size items.size a-sIx items.size 0 lo)==items.size)=Jg then _ else _) _ _ s;rw[Jk e,zfO]
 first
  |exact aa (m:=fq _) (di (aq ⟨_,rfl,aq h⟩) c)
  |exact aa (m:=fq _) (di (aa (aq (aq ⟨_,rfl,aq h⟩))) c)
  |exact aa (aa (m:=fq _) (di (aq (aq ⟨_,rfl,aq h⟩)) c))
  |exact aa (aa (m:=fq _) (di (aq ⟨_,rfl,aq h⟩) c))
end
end HT
namespace L2
open PySem PySem.Spec PyProof.Rows
abbrev TO:=St->Hp->(Option Int->Hp->Prop)->Prop
def PO(X:Cx)(e:Option aS)(t:TO):Prop:=
 ∀(Y1:List (ab×Obj))(s:ag)(σ:St)(H:Hp)(Q:Option Int->Hp->Prop),Inv X Y1 σ H s->t σ H Q->
  ay (aC X.prog X.w) X.A (evalPart e X.env) (λu s'=>∃o H',Inv X Y1 σ H' s'/\gD u o/\Q o H') X.xe s
def Zv:TO:=λ_ H Q=>Q Jf H
def W3(t:TE):TO:=λσ H Q=>t σ H λx H1=>∃i,x=.int i/\Q (Jd i) H1
def TU:∀{a:List ae},nu (ns.map V.int) a->gP a ns:=by
 induction ns with
 |nil=>intro a r;rw[lj] at r;cases r;exact .nil
 | cons n ns ih=>
  intro a r;rw[br] at r;cases r with
  | cons r1 r2=>
   obtain⟨t,e⟩:=r1;subst e;exact .cons n t (ih r2)
section
variable{X:Cx}{e:aS}{te:TE}{lo hi:Option aS}{tl th:TO}{pos p2:Pos}
def Za:PO X Jf Zv:=by intro a s b H Q I h;rw[evalPart_none];exact aq ⟨Jf,H,I,.none,h⟩
def ziV(h:PE X e te):PO X (Jd e) (W3 te):=by intro a s b H Q I c;rw[evalPart_some];refine o7 (h a s b H _ I c) λu k ⟨x,d,f,g,j⟩=>?_;obtain⟨i,rfl,q⟩:=j;obtain⟨t,rfl⟩:=g;exact⟨Jd i,d,f,.int i t,q⟩
def vk(X:Cx)(r:V->Option Int->Option Int->Hp->VK->Prop):Prop:=
 ∀(Y1:List (ab×Obj))(s:ag)(σ:St)(H:Hp)(x:V)(v vl vu:ae)(lo hi:Option Int)(sl:ab)(Q:VK),Inv X Y1 σ H s->RelV x v->s.heap.IsSliceOf sl vl vu .none->gD vl lo->gD vu hi->r x lo hi H Q->
  ∃T id,typeLookup (.type T) "__getitem__" = pure (Jd (.builtin id))/\s.TypeIs v T/\ay (aC X.prog X.w) X.A (getItem v (.ref sl)) (EP X Y1 σ Q) X.xe s
def vk.or(h:vk X r)(h':vk X r'):vk X (λx lo hi H Q=>r x lo hi H Q\/r' x lo hi H Q):=by
 intro a s b H x v c d lo hi f Q I g i j k q;rcases q with q|q
 ·exact h a s b H x v c d lo hi f Q I g i j k q
 ·exact h' a s b H x v c d lo hi f Q I g i j k q
noncomputable def tSl(r:V->Option Int->Option Int->Hp->VK->Prop)(te:TE)(tl th:TO):TE:=λσ H Q=>te σ H λx H1=>tl σ H1 λl H2=>th σ H2 λu H3=>r x l u H3 Q
def Sy(j:vk X r)(k:PE X e te)(m:PO X lo tl)(n:PO X hi th):PE X (.Subscript e (.Slice lo hi Jf p2) pos) (tSl r te tl th):=by intro a s d H Q I h;refine Subscript_ (o7 (k a s d H _ I h) λv o ⟨x,p,t,y,z⟩=>?_);refine wpAny_Slice (o7 (m a o d p _ t z) λf B ⟨l,C,D,E,F⟩=>o7 (n a B d C _ D F) λg c ⟨u,i,G,J,K⟩=>?_);rw[evalPart_none];refine aq ?_;have L:Inv X a d i { c with heap:=c.heap.push { cls:=.type "slice",data:=.fields #[f,g,.none] } }:=G.kept (t':=c.toks) λb P q=>ai _ q;obtain⟨T,R,M,N,O⟩:=j a { c with heap:=c.heap.push { cls:=.type "slice",data:=.fields #[f,g,.none] } } d i x v f g l u c.heap.objs.size Q L y (nj ..) E J K;show ay (aC X.prog X.w) X.A (subscriptTail e (.Slice lo hi Jf p2) v (.ref c.heap.objs.size)) (EP X a d Q) X.xe { c with heap:=c.heap.push { cls:=.type "slice",data:=.fields #[f,g,.none] } };exact tail_any (ops:=[.ref c.heap.objs.size,v]) N M O (by with_unfolding_all rfl)
def Ab(xs:List V)(lo hi:Option Int):List V:=(xs.drop (HT.sIx xs.length 0 lo)).take (HT.sIx xs.length xs.length hi-HT.sIx xs.length 0 lo)
def T3(xs:List V)(lo hi:Option Int):(Ab xs lo hi).length<=xs.length:=by unfold Ab;rw[bS,cb];lia
def N6(K:ah):V->Option Int->Option Int->Hp->VK->Prop:=λx lo hi H Q=>∃a xs,x=.ref a/\qX K H a xs/\
 ¬ (HT.sIx xs.length 0 lo=0/\HT.sIx xs.length xs.length hi=xs.length)/\∀p,H p=Jf->Q (.ref p) (upd H p (.tup (Ab xs lo hi)))
def P4:vk X (N6 X.K):=by
 intro f s u H x v w y lo hi z Q I j k l m h;obtain⟨a,d,rfl,n,p,q⟩:=h;cases j;obtain⟨t,r,g,i⟩:=I.tuple n;have c:t.toArray.size=d.length:=by rw[aJ];exact r.length.symm
 refine⟨"tuple",_,cu.lookup,g.typeIs,?_⟩;refine HT.getItem_tuple_cut g k l m (by rw[c];exact p) ?_ (by rw[c];exact i);rw[c];refine⟨.ref s.heap.objs.size,_,I.laid (t':=s.toks) (o:=.tup (Ab d lo hi)) (λb A q=>ai _ q) (aE _) ?_,rfl,q _ (I.hok.fresh (aE _))⟩;exact⟨aG (T3 d lo hi) i,_,(r.drop (HT.sIx d.length 0 lo)).take (HT.sIx d.length d.length hi-HT.sIx d.length 0 lo),nT.new _ _⟩
def OB(K:ah):R2:=λx y H Q=>∃a b xs ys,x=.ref a/\y=.ref b/\qX K H a xs/\qX K H b ys/\xs≠[]/\xs.length+ys.length<=KM/\
 (ys=[]->Q (.ref a) H)/\(ys≠[]->∀p,H p=Jf->Q (.ref p) (upd H p (.tup (xs++ys))))
def nu.nil_iff(r:nu xs us):us=[]↔xs=[]:=by
 cases r with
 |nil=>simp
 |cons _ _=>simp
def ZO:pZ X (dZ .Add) (OB X.K):=by intro f s B H x y v u Q I i j h;obtain⟨a,b,k,l,rfl,rfl,m,n,p,g,r,t⟩:=h;cases i;cases j;obtain⟨C,d,A,_⟩:=I.tuple m;obtain⟨D,c,p2,_⟩:=I.tuple n;refine HT.cat_tup A p2 (λz=>p (d.nil_iff.mp z)) (λz=>⟨.ref a,H,I,rfl,r (c.nil_iff.mp z)⟩) (λz=>?_) (by rw[<- d.length,<- c.length];exact g);refine⟨.ref s.heap.objs.size,_,I.laid (t':=s.toks) (o:=.tup (k++l)) (λb E q=>ai _ q) (aE _) ?_,rfl,t (λw=>z (c.nil_iff.mpr w)) _ (I.hok.fresh (aE _))⟩;exact⟨by rw[aw];exact g,_,d.append c,nT.new _ _⟩
end
noncomputable def ixN(n:Nat)(i:Int):Option Nat:=if 0<=i then (if i<n then Jd i.toNat else Jf) else if -(n:Int)<=i then Jd (i+n).toNat else Jf
def atI{α:Type}(xs:List α)(i:Int):Option α:=(ixN xs.length i).bind λj=>xs[j]?
def QS(h:ixN n i=Jd j):seqIndex? i n=Jd j/\j<n/\-(n:Int)<=i/\i<n:=by
 unfold ixN at h;by_cases b:0<=i
 ·rw[Ji b] at h;by_cases a:i<n
  ·rw[Ji a] at h;have e:i.toNat=j:=ci h;exact⟨by rw[l9 b a,e],by lia,by lia,a⟩
  ·rw[Jk a] at h;cases h
 ·rw[Jk b] at h;by_cases a:-(n:Int)<=i
  ·rw[Ji a] at h;have e:(i+n).toNat=j:=ci h;exact⟨by rw[seqIndex_neg 'o' a,e],by lia,a,by lia⟩
  ·rw[Jk a] at h;cases h
def Ky{α:Type}{xs:List α}{i:Int}{v:α}(h:atI xs i=Jd v):∃j,seqIndex? i xs.length=Jd j/\xs[j]?=Jd v/\j<xs.length/\-(xs.length:Int)<=i/\i<xs.length:=by
 unfold atI at h;cases e:ixN xs.length i with
 |none=>rw[e] at h;cases h
 | some j=>
  rw[e] at h;obtain⟨a,b,c,d⟩:=QS e;exact⟨j,a,h,b,c,d⟩
def atI_nat{α:Type}{xs:List α}{j:Nat}{v:α}(h:xs[j]?=Jd v):atI xs (j:Int)=Jd v:=by
 have a:j<xs.length:=(al.mp h).1;have e:ixN xs.length (j:Int)=Jd j:=by
  unfold ixN;rw[Ji 'o',Ji 'o'];simp
 unfold atI;rw[e];exact h
def Qd(b:aS):Prop:=∀o i,subscripted b Jh o i=operate [o,i] (getItem o i)
def zV(X:Cx)(r:R2):Prop:=
 ∀(value slice:aS)(Y1:List (ab×Obj))(s:ag)(σ:St)(H:Hp)(x y:V)(v u:ae)(Q:VK),Inv X Y1 σ H s->RelV x v->RelV y u->r x y H Q->
  subscripted slice Jh v u=operate [v,u] (getItem v u)->ay (aC X.prog X.w) X.A (subscriptTail value slice v u) (EP X Y1 σ Q) X.xe s
def Ju(X:Cx)(id:String)(r:V->List V->Hp->VK->Prop):Prop:=
 ∀(Y1:List (ab×Obj))(s:ag)(σ:St)(H:Hp)(x:V)(xs:List V)(v:ae)(us:List ae)(Q:VK),Inv X Y1 σ H s->RelV x v->nu xs us->r x xs H Q->
  ay (aC X.prog X.w) X.A (call (.builtin id) (v::us)) (EP X Y1 σ Q) X.xe s
section
variable{X:Cx}{a b:aS}{ta tb:TE}{pos:Pos}
def zV.or(h:zV X r)(h':zV X r'):zV X (λx y H Q=>r x y H Q\/r' x y H Q):=by
 intro c d e s f H x y v u Q I g i q j;rcases q with q|q
 ·exact h c d e s f H x y v u Q I g i q j
 ·exact h' c d e s f H x y v u Q I g i q j
def WN(d:zV X r)(e:PE X a ta)(f:PE X b tb)(g:Qd b):PE X (.Subscript a b pos) (E6 r ta tb):=by intro c s i H Q I h;exact Subscript_ (JP e f I h λv u j x y k l m n q=>d a b c j i k x y v u Q l m n q (g _ _))
def Oa(K:ah):R2:=λx y H Q=>∃p xs i v,x=.ref p/\y=.int i/\qg K H p xs/\atI xs i=Jd v/\Q v H
def Of(K:ah):R2:=λx y H Q=>∃p xs i v,x=.ref p/\y=.int i/\qX K H p xs/\atI xs i=Jd v/\Q v H
def Ob:R2:=λx y H Q=>∃z i c,x=.str z/\y=.int i/\z.length<=KM/\atI z.cps.toList i=Jd c/\Q (.str ⟨#[c]⟩) H
def oF:zV X (Oa X.K):=by
 intro f g c s m H x y v u Q I B C h n;obtain⟨p,P,i,z,rfl,rfl,D,E,q⟩:=h;cases B;obtain⟨t,rfl⟩:=C;obtain⟨F,r,k,R⟩:=I.list D;obtain⟨j,e,G,S,J,L⟩:=Ky E;obtain⟨w,o,M⟩:=r.get G;have N:=r.length;have T:=CO;have d:EP X c m Q w s:=⟨z,H,I,M,q⟩;by_cases A:0<=i
 ·have l:i.toNat=j:=by
   rw[l9 A L] at e;exact ci e
  exact item_listR k.isList A 'o' (by rw[l];simpa using o) d n
 ·have l:(i+(F.toArray.size:Int)).toNat=j:=by
   rw[seqIndex_neg 'o' J] at e;rw[aJ,<- N];exact ci e
  exact jY (x:=w) k.isList.typeIs slot_list_getitem.lookup
   (wpAny_getItem_list_neg (Q:=λr O=>r=w/\EP X c m Q r O) k.isList 'o' (by rw[aJ]<;>lia) 'o' (by rw[l];simpa using o) ⟨rfl,d⟩) n
def oG:zV X (Of X.K):=by
 intro d e c s g H x y v u Q I l m h n;obtain⟨p,J,i,z,rfl,rfl,o,A,q⟩:=h;cases l;obtain⟨t,rfl⟩:=m;obtain⟨L,r,k,M⟩:=I.tuple o;obtain⟨j,B,C,N,O,P⟩:=Ky A;obtain⟨w,D,E⟩:=r.get C;have F:=r.length;have R:=CO;have f:EP X c g Q w s:=⟨z,H,I,E,q⟩;exact jY (x:=w) k.typeIs cu.lookup
  (getItem_tuple (j:=j) (Q:=λr G=>r=w/\EP X c g Q r G) k 'o' 'o' (by rw[aJ,<- F];exact B) ⇑D ⟨rfl,f⟩) n
def W9:zV X Ob:=by
 intro d e f s C H x y v u Q I k l h m;obtain⟨z,i,c,rfl,rfl,D,n,q⟩:=h;obtain⟨t,rfl⟩:=k;obtain⟨E,rfl⟩:=l;obtain⟨j,g,o,F,p,r⟩:=Ky n;have w:z.cps.toList.length=z.length:=by simp[Str.length]
 rw[w] at g p r;have G:=CO;exact tail_any (typeIs_str s z t) slot_str_getitem.lookup (getItem_str (c:=c) (by
  have A:decide (i < -(2 ^ 63:Int))=Jh:=decide_eq_false 'o';have B:decide (i ≥ 2 ^ 63)=Jh:=decide_eq_false 'o';rw[A,B,Bool.or_false]) (by rw[g];simpa using o) ⟨.str ⟨#[c]⟩,H,I.tok _,⟨_,rfl⟩,q⟩) m
def UN(K:ah):R2:=λx y H Q=>Oa K x y H Q\/Of K x y H Q\/Ob x y H Q
def Xo:zV X (UN X.K):=oF.or (oG.or W9)
def zbo(c:List ae)(n j:Nat)(u:ae):bG (·.setIfInBounds j u) { cls:=.type "list",data:=.seq c.toArray n } = { cls:=.type "list",data:=.seq (c.set j u).toArray n }:=by simp[bG]
def Inv.lst{c:List (ab×Obj)}{σ:St}{H:Hp}{s:ag}{p:ab}{xs:List V}(I:Inv X c σ H s)(h:H p=Jd (.lst xs)):
  ∃(d:List ae)(n:Nat),nu xs d/\s.heap.get? p=Jd { cls:=.type "list",data:=.seq d.toArray n }/\xs.length<=KM:=by obtain⟨z,d,n,r,e⟩:=I.hok p _ h;exact⟨d,n,r,e,z⟩
def Inv.lstUpd{c:List (ab×Obj)}{σ:St}{H:Hp}{s:ag}{p:ab}{xs d:List V}{i its':List ae}{n g:Nat}{f:Obj->Obj}(I:Inv X c σ H s)(h:H p=Jd (.lst xs))
  (k:s.heap.get? p=Jd { cls:=.type "list",data:=.seq i.toArray n }) (j:f { cls:=.type "list",data:=.seq i.toArray n } = { cls:=.type "list",data:=.seq its'.toArray g }) (r:nu d its') (l:d.length<=KM) (t:Nat) (o:0<t:=by first|exact cK _|exact Inv.tk ‹_›|assumption|lia):
  Inv X c σ (upd H p (.lst d)) { s with heap:=s.heap.update p f,toks:=t }:=by
 have e:(s.heap.update p f).get? p=Jd { cls:=.type "list",data:=.seq its'.toArray g }:=by
  rw[d6 f k (by rw[j]<;>rfl),j]
 refine I.write (x:=p) (e:=p) (by rw[h];trivial) (.inl rfl) (λb u m q=>(dS _ _ (bI m)).trans q) ⟨_,e⟩ ?_;exact⟨l,its',g,r,e⟩
def WG:V->V->V->Hp->(Hp->Prop)->Prop:=λo i v H Q=>∃p xs k j,o=.ref p/\i=.int k/\H p=Jd (.lst xs)/\ixN xs.length k=Jd j/\Q (upd H p (.lst (xs.set j v)))
def zfj:N3 X WG:=by
 intro c s A H o i v J K u Q I B C D h;obtain⟨p,E,k,j,rfl,rfl,l,F,q⟩:=h;cases B;obtain⟨t,rfl⟩:=C;obtain⟨m,n,r,e,G⟩:=I.lst l;obtain⟨d,L,w,x⟩:=QS F;have f:=r.length;have M:=CO;have y:Inv X c A (upd H p (.lst (E.set j v))) { s with heap:=s.heap.update p (bG (·.setIfInBounds j u)) }:=
  I.lstUpd l e (zbo m n j u) (r.set D j) (by rw[ck];exact G) s.toks
 by_cases z:0<=k
 ·have g:k.toNat=j:=by
   rw[l9 z x] at d;exact ci d
  exact PySem.W.ki_setAt e z 'o' (by rw[aJ,<- f];exact x) (by rw[g];exact⟨_,y,q⟩)
 ·have g:(k+(m.toArray.size:Int)).toNat=j:=by
   rw[seqIndex_neg 'o' w] at d;rw[aJ,<- f];exact ci d
  exact PySem.W.ki_setBack e 'o' (by rw[aJ,<- f];exact w) 'o' (by rw[g];exact⟨_,y,q⟩)
def z7X(lo c:Option Int)(n:Nat):(sliceBounds lo c Jf n).1=((HT.sIx n 0 lo:Nat):Int)/\(sliceBounds lo c Jf n).2.1=((HT.sIx n n c:Nat):Int)/\(sliceBounds lo c Jf n).2.2=1:=by
 refine⟨?_,?_,rfl⟩
 ·cases lo with
  |none=>simp[sliceBounds,HT.sIx]
  | some i=>
   simp only[sliceBounds,HT.sIx,mj,show(1:Int)>0 by decide,if_true];by_cases h:i<0
   ·simp only[h,if_true]<;>lia
   ·simp only[h,if_false]<;>lia
 ·cases c with
  |none=>simp[sliceBounds,HT.sIx]
  | some i=>
   simp only[sliceBounds,HT.sIx,mj,show(1:Int)>0 by decide,if_true];by_cases h:i<0
   ·simp only[h,if_true]<;>lia
   ·simp only[h,if_false]<;>lia
def z6Z(c:List ae)(lo d:Option Int):slicePick c.toArray lo d Jf=((c.drop (HT.sIx c.length 0 lo)).take (HT.sIx c.length c.length d-HT.sIx c.length 0 lo)).toArray:=by obtain⟨e,f,g⟩:=z7X lo d c.toArray.size;unfold slicePick;rw[e,f,g];simp only[sliceRange_one,pick_run,aJ]<;>rfl
def Og(K:ah):V->Option Int->Option Int->Hp->VK->Prop:=λx lo hi H Q=>∃a xs,x=.ref a/\qg K H a xs/\∀p,H p=Jf->Q (.ref p) (upd H p (.lst (Ab xs lo hi)))
def QK:vk X (Og X.K):=by intro g s t H x v u w e f y Q I j k l m h;obtain⟨a,c,rfl,n,q⟩:=h;cases j;obtain⟨z,r,i,p⟩:=I.list n;have d:=r.length;refine⟨"list",_,slot_list_getitem.lookup,i.isList.typeIs,?_⟩;refine wpAny_getItem_list_slice i.isList k l m .none 'd' ?_ (by rw[aJ]<;>lia);rw[z6Z,<- d];refine⟨.ref s.heap.objs.size,_,I.laid (t':=s.toks) (o:=.lst (Ab c e f)) (λb A q=>ai _ q) (aE _) ?_,rfl,q _ (I.hok.fresh (aE _))⟩;exact⟨aG (T3 c e f) p,_,0,(r.drop (HT.sIx c.length 0 e)).take (HT.sIx c.length c.length f-HT.sIx c.length 0 e),aO _ rfl⟩
def nF.or{f:ae}{r d:List V->Hp->VK->Prop}(h:nF X f r)(h':nF X f d):nF X f (λxs H Q=>r xs H Q\/d xs H Q):=by
 intro c s e H xs g Q I i q;rcases q with q|q
 ·exact h c s e H xs g Q I i q
 ·exact h' c s e H xs g Q I i q
def z6O:nF X (.type "tuple") (λxs H Q=>∃p d,xs=[.ref p]/\((qg X.K H p d/\∀l,H l=Jf->Q (.ref l) (upd H l (.tup d)))\/(qX X.K H p d/\Q (.ref p) H))):=by
 intro c s m H xs A Q I r h;obtain⟨p,d,rfl,h⟩:=h;obtain⟨u,rfl,x⟩:=tu r;cases x;rcases h with⟨g,q⟩|⟨g,q⟩
 ·obtain⟨i,j,k,n⟩:=I.list g;have t:=j.length;refine call_tuple_list k.isList (λf y=>?_) (by simp only[aJ]<;>lia);have v:Inv X c m H { s with heap:=f }:=I.kept (t':=s.toks) y;have z:Inv X c m (upd H f.objs.size (.tup d)) { s with heap:=f.push { cls:=.type "tuple",data:=.seq i.toArray } }:=
   v.laid (t':=s.toks) (λb o e=>ai _ e) (aE _) (show nJ X.prog X.w _ _ _ (.tup d) from ⟨n,i,j,nT.new _ _⟩)
  exact⟨.ref f.objs.size,_,z,rfl,q _ (v.hok.fresh (aE _))⟩
 ·obtain⟨i,j,k,n⟩:=I.tuple g;exact call_tuple_same k ⟨.ref p,H,I,rfl,q⟩
def Ux(K:ah)(T:String)(x:V)(H:Hp):Prop:=match x with
 |.str _=>T = "str"
 |.int _=>T = "int"
 | .ref p=>(T = "list"/\∃xs,qg K H p xs)\/(T = "tuple"/\∃o,K.lookup p=Jd o/\o.cls=.type "tuple"/\o.dict=Jf) \/
   (T = "dict"/\((∃l_,H p=Jd (.dK l_)) \/ ∃l_,H p=Jd (.dT l_)))\/(T = "set"/\∃S n,H p=Jd (.set S n))
 |_=>False
def X3(I:Inv X Y1 σ H s)(r:RelV x v)(g:Ux X.K T x H):
  s.TypeIs v T/\∀a,v=.ref a->∃k,s.heap.get? a=Jd k/\k.dict=Jf:=by
 cases x with
 | str z=>
  obtain⟨t,rfl⟩:=r;cases (show T = "str" from g);exact⟨typeIs_str s z t,λ_ e=>nomatch e⟩
 | int i=>
  obtain⟨t,rfl⟩:=r;cases (show T = "int" from g);exact⟨typeIs_int s i t,λ_ e=>nomatch e⟩
 | ref p=>
  cases r;rcases g with⟨rfl,w,m⟩|⟨rfl,o,d,q,h⟩|⟨rfl,d⟩|⟨rfl,S,n,d⟩
  ·obtain⟨y,_,l,_⟩:=I.list m;refine⟨l.isList.typeIs,λa e=>?_⟩;cases e;obtain⟨o,n,e,c,h,_⟩:=l;exact⟨o,e,h⟩
  ·refine⟨⟨o,I.kIn p o d,q⟩,λa e=>?_⟩;cases e;exact⟨o,I.kIn _ o d,h⟩
  ·have z:∃o,s.heap.get? p=Jd o/\o.ExactDict:=by
    rcases d with⟨u,d⟩|⟨u,d⟩
    ·obtain⟨_,_,_,_,o,_,_,e,f,_⟩:=I.hok p _ d;exact⟨o,e,f⟩
    ·obtain⟨_,_,_,_,o,_,_,e,f,_⟩:=I.hok p _ d;exact⟨o,e,f⟩
   obtain⟨o,e,f⟩:=z;refine⟨⟨o,e,f.1⟩,λa j=>?_⟩;cases j;exact⟨o,e,f.2.1⟩
  ·obtain⟨o,_,_,_,e,f,_⟩:=I.hok p _ d;refine⟨⟨o,e,f.1⟩,λa j=>?_⟩;cases j;exact⟨o,e,f.2.1⟩
 |_=>exact aj g
def tBM(K:ah)(T:String)(r:V->List V->Hp->VK->Prop)(to:TE)(t:TA):TE:=λσ H Q=>to σ H λx H1=>Ux K T x H1/\t σ H1 λxs H2=>r x xs H2 Q
variable{o e:aS}{es:List aS}{to:TE}{t:TA}{name:az}{apos oV:Pos}{T id:String}{r:V->List V->Hp->VK->Prop}
def D2(k:PlainAttrs T)(d:Slot T name id)(l:typeOf (.builtin id)=pure (.type "method_descriptor"))(m:Ju X id r)(n:PE X o to)(p:PA X (e::es) t)
  (q:attributeBase o name X.env (eval o X.env)=eval o X.env:=by rfl)
  (u:((backTo oV (aP (e::es) X.env)).all (λx=>!x.1)&&(backToKw oV (keywordEach [] X.env)).all (λx=>x.1.isSome)
   && decide ((e::es).length+([]:List eC).length+(if ([]:List eC).isEmpty then 0 else 1)<30))=Jg:=by rfl)
  (w:(apos.endLine==oV.line)=Jg:=by rfl) (y:aP (e::es) X.env=(Jh,eval e X.env)::aP es X.env:=by rfl) (z:(backTo oV (aP es X.env)).any (·.1)=Jh:=by rfl):
  PE X (.Call (.Attribute o name apos) (e::es) [] oV) (tBM X.K T r to t):=by intro c s f H Q I h;refine wpAny_Call_method_late q u w rfl (o7 (n c s f H _ I h) λv A ⟨x,B,g,i,C,D⟩=>?_);obtain⟨E,F⟩:=X3 g i C;refine⟨T,id,k,d,l,E,F,?_⟩;have j:=p oV c A f B _ g D;rw[y] at j ⊢;refine Calls.callWith_builtin (by show(Jh||(backTo oV (aP es X.env)).any (·.1))=Jh;rw[z]<;>rfl) (Calls.evalArgs_plain ?_);exact o7 j λG J ⟨L,M,N,O,P⟩=>m c J f M x L v G Q N i O P
end
def NR(X:Cx)(id:String)(r:V->List V->Hp->VK->Prop):Prop:=
 ∀(Y1:List (ab×Obj))(s:ag)(σ:St)(H:Hp)(x:V)(xs:List V)(v:ae)(us:List ae)(Q:VK),Inv X Y1 σ H s->RelV x v->nu xs us->r x xs H Q->
  ay (aC X.prog X.w) X.A (call (.builtin id) (v::us)) (EP X Y1 σ Q) X.xe s
def nu.one:∀{x:V}{a:List ae},nu [x] a->∃u,a=[u]/\RelV x u
 |_,_,.cons r .nil=>⟨_,rfl,r⟩
theorem nu.eraseIdx:∀{xs:List V}{a:List ae}(i:Nat),nu xs a->nu (xs.eraseIdx i) (a.eraseIdx i)
 |_,_,_,.nil=>.nil
 |_,_,0,.cons _ t=>t
 |_,_,i+1,.cons r t=>.cons r (nu.eraseIdx i t)
def nu.reverse{xs:List V}{a:List ae}(h:nu xs a):nu xs.reverse a.reverse:=by
 induction h with
 |nil=>exact .nil
 |cons r t ih=>rw[lS,lS];exact nu.append ih (.cons r .nil)
theorem S0{α:Type}:∀(l:List α)(i:Nat),(l.eraseIdx i).length<=l.length
 |[],_=>aE _
 |_::_,0=>d9 _
 |_::r,i+1=>ml (S0 r i)
section
variable{X:Cx}{Y1:List (ab×Obj)}{σ:St}{H:Hp}{s:ag}{l:ab}{xs ys:List V}
def Inv.lset{a its':List ae}{n:Nat}{f:Array ae->Array ae}{t':Nat}(I:Inv X Y1 σ H s)(b:H l=Jd (.lst xs))
  (e:s.heap.get? l=Jd { cls:=.type "list",data:=.seq a.toArray n }) (c:f a.toArray=its'.toArray) (d:nu ys its') (g:ys.length<=KM) (j:0<t':=by first|exact cK _|exact Inv.tk ‹_›|assumption|lia):
  Inv X Y1 σ (upd H l (.lst ys)) { s with heap:=s.heap.update l (bG f),toks:=t' }:=by have q:=PySem.IsL.update e f;rw[c] at q;refine I.write (x:=l) (e:=l) (by rw[b];exact trivial) (.inl rfl) (λk u h i=>(dS s.heap (bG f) (bI h)).trans i) ⟨_,q⟩ ?_;exact⟨g,its',_,d,q⟩
def Inv.lnew(I:Inv X Y1 σ H s)(a:nu ys d_)(b:ys.length<=KM)(c:0<t':=by first|exact cK _|exact Inv.tk ‹_›|assumption|lia):
  Inv X Y1 σ (upd H s.heap.objs.size (.lst ys)) { s with heap:=s.heap.push { cls:=.type "list",data:=.seq d_.toArray },toks:=t' }:=
 I.laid (λ_ _ q=>ai _ q) (aE _) ⟨b,d_,0,a,aO _ rfl⟩
def Inv.fresh(I:Inv X Y1 σ H s):H s.heap.objs.size=Jf:=I.hok.fresh (aE _)
def Inv.lstM(I:Inv X Y1 σ H s)(b:H l=Jd (.lst xs)):xs.length<=KM/\∃(a:List ae)(n:Nat),nu xs a/\xs.length=a.length/\s.heap.get? l=Jd { cls:=.type "list",data:=.seq a.toArray n }:=by obtain⟨z,a,n,r,e⟩:=I.hok l _ b;exact⟨z,a,n,r,r.length,e⟩
def zfT{n:Nat}(h:n<=KM):ft n=Jh:=by unfold ft;exact decide_eq_false 'o'
end
section
variable{X:Cx}
def ziC:V->List V->Hp->VK->Prop:=λx vs H Q=>∃l xs y,x=.ref l/\vs=[y]/\H l=Jd (.lst xs)/\xs.length<KM/\Q .non (upd H l (.lst (xs++[y])))
def SK:NR X "list.append" ziC:=by intro a s i H x j v k Q I d f h;obtain⟨l,m,y,rfl,rfl,b,o,q⟩:=h;cases d;obtain⟨u,rfl,g⟩:=f.one;obtain⟨z,c,n,r,p,e⟩:=I.lstM b;refine call_meets j9 ⟨_,e,rfl⟩ F.entry_list_append (F.args_list_append_2 _ _) (PySem.list_append l c.toArray n u (by rw[aJ];lia)) ⟨e,?_⟩;refine⟨.non,_,I.lset (its':=c++[u]) b e 'd' (r.append (.cons g .nil)) ?_,rfl,q⟩;rw[aw,eR];lia
def XI:V->List V->Hp->VK->Prop:=λx vs H Q=>∃l xs i k y,x=.ref l/\vs=[.int i]/\H l=Jd (.lst xs)/\-(2 ^ 63)<=i/\i<2 ^ 63/\seqIndex? i xs.length=Jd k/\xs[k]?=Jd y/\Q y (upd H l (.lst (xs.eraseIdx k)))
def zgw:NR X "list.pop" XI:=by
 intro b s E H x G v J Q I d f h;obtain⟨l,g,i,k,y,rfl,rfl,c,j,m,o,p,q⟩:=h;cases d;obtain⟨u,rfl,A⟩:=f.one;obtain⟨t,rfl⟩:=A;obtain⟨z,a,n,r,B,e⟩:=I.lstM c;obtain⟨w,C,D⟩:=r.get p;refine call_meets ll ⟨_,e,rfl⟩ F.entry_list_pop (F.args_list_pop_2 _ _)
  (MeetsSeq.list_pop_at l a.toArray n i t k w (fitsIndex_both j m) (by rw[aJ,<- B];exact o) (by rw[<- f6];exact C) (by rw[aJ];lia)) ⟨e,?_⟩
 refine⟨y,_,I.lset (its':=a.eraseIdx k) c e ?_ (r.eraseIdx k) ?_,D,q⟩
 ·show a.toArray.eraseIdxIfInBounds k=(a.eraseIdx k).toArray;rw[List.eraseIdxIfInBounds_toArray]
 ·have:=S0 g k;lia
end
section
end
end L2
namespace Att
open PySem PySem.W PySem.Calls PyProof.Rows
def z61:∀(ns:List Int)(vs:List ae),WellAll P h vs (ns.map mW)->gP vs ns:=by
 intro ns
 induction ns with
 | nil=>
  intro vs w;rw[lj] at w;cases w;exact .nil
 | cons n ns ih=>
  intro vs w;rw[br] at w;cases w with
  | cons a b=>
   cases a;exact .cons _ _ (ih _ b)
def zc2{l:lp}{n:Nat}(k:l.most=Jd n){P:ir}{h:aV}{args:List WData}{b:List ae}
  (i:l.row.toRowW.claim.pre args=Jg) (m:WellAll P h b args):
  ∃a vs ns,b=[fG a]/\args=[WData.list (ns.map mW)]/\h.get? a=Jd { cls:=.type "list",data:=.seq vs.toArray }/\gP vs ns/\ns.length<=n:=by
 have g:WShape.hasAll [] args [.list .int]=Jg:=(pre_splitW i).1;have j:l.pre.holds [] { args:=args } = Jg:=(pre_splitW i).2;obtain⟨d,r,rfl,o,p⟩:=hasAllW_cons g;obtain rfl:=hasAllW_nil p;obtain⟨u,rfl,s⟩:=hasW_list o;obtain⟨ns,rfl⟩:=items_int s;have c:ns.length<=n:=by
  unfold OpenLaw.pre at j;have e:(WTm.not (.lt (.lit (.int (n:Int))) (.len (.arg 0)))).holds [] { args:=[.list (ns.map .int)] } = Jg:=by
   have e:=(holds_andW j).1;rw[k] at e;exact e
  have f:=condW_of e (w_not (w_lt w_lit (w_len_list (w_arg rfl))));rw[aA] at f;refine Nat.le_of_not_lt λq=>?_;have t:(n:Int)<((ns.length:Nat):Int):=by lia
  first
   |(rw[decide_eq_true t] at f;exact absurd f 's')
   |(simp at f;lia)
 cases m with
 | cons w1 w2=>
  cases w2;cases w1 with
  |list ho uz=>exact⟨_,_,ns,rfl,rfl,ho,z61 ns _ uz,c⟩
def zew(l:lp)(args:List WData):l.row.toRowW.claim.post args (.bool Jg) args=Jg:=
 postW_of (r:=l.row.toRowW) (X:=(Jg==Jg))
  (show WShape.has [] (.bool Jg) .bool=Jg by first|rfl|decide|simp[WShape.has,WShape.arms,WShape.armsAll])
  (show(WTm.eq .res (.lit (.bool Jg))).value [] { args:=args,res:=Jd (.bool Jg),after:=args } = Jd (.bool (Jg==Jg)) from w_eq_bool (w_res rfl) w_lit) rfl
theorem TV:∀ns:List Int,kR (ns.map PyData.int)=ns.map mW
 |[]=>by simp[kR]
 |n::ns=>by simp only[br,kR,lq];rw[TV ns]
def attach_call{l:lp}{n:Nat}{q:aQ}{loose:List az}{XP:(az->Option ae)->aV->Prop}{p:a8->aV->Prop}{d:DefRec}{α:Type}{Yf:ag->α}{Ya:a8->α}
  (D:l.most=Jd n) (E:d.params.defaults=[]) (F:∀w s,Yf s=Ya w->p w s.heap) (H:∀w h h',p w h->(∀b o,h.get? b=Jd o->h'.get? b=Jd o)->p w h')
  (j:∀(w:a8)(c e:ag)(t x:az->Option ae)(k:ab)(o:Obj)(y u g:ae)(a:ab)(vs:List ae)(ns:List Int),
   Ground q loose [] XP w c t x e.heap->p w e.heap->
   e.heap.get? k=Jd o->o.data=.func (docDef d.name d.params d.body d.scope y u g)->e.heap.CodeRec u d.name->t d.name=Jd (.ref k)->
   e.heap.get? a=Jd { cls:=.type "list",data:=.seq vs.toArray }->gP vs ns->ns.length<=n->e.gens = #[]->0<e.toks->
   codeAny (aC l.prog w) callerA (.call (.ref k) ⟨[.ref a],[]⟩) (λr v=>r=.ok (.ret (.bool Jg))/\OldK e.heap v.heap/\v.os=e.os/\gN v.gens) e):
  WalkX q loose XP (λs=>(Yf s,decide (0<s.toks))) (λw=>(Ya w,Jg)) l.row.toRowW d [] (λf vs=>PySem.call f vs):=by
 intro w c e t x G Y k o y u g I J K M N z O P A B Q L R C S T Du;obtain rfl:I=.none:=Dflts.none z E;obtain rfl:J=.none:=Dflts.noKw z;have U:Yf c=Ya w:=congrArg Prod.fst Y;have V:0<c.toks:=of_decide_eq_true (congrArg Prod.snd Y);obtain⟨a,vs,ns,rfl,rfl,Z,i,m⟩:=zc2 D R T;have L':Laid l.row.toRowW.records w c e [lq (eH (ns.map PyData.int))] [.ref a] Q:=by
  rw[lq,TV];exact L
 have qf:0<e.toks:=bi V (PySem.W.X.script_toks L' rfl);refine enter_call (fZ (j w c e t x k o y u g a vs ns G (H _ _ _ (F w c U) L.keeps) K (fd_plain M) N O Z i m P qf) λr v hq=>?_);obtain⟨rfl,h2,h3,h4⟩:=hq;exact⟨.inl ⟨.bool Jg,.bool Jg,[],rfl,λ_=>rfl,.bool Jg,zew l _,λ_=>⟨eZ,λ_ hm=>(nomatch hm)⟩⟩,h2,h3,h4⟩
section
end
end Att
namespace L2
open PySem PySem.Spec PyProof.Rows
theorem SV:∀{vs:List ae}{ns:List Int},gP vs ns->nu (ns.map V.int) vs
 |_,_,.nil=>.nil
 |_,_,.cons n t h=>.cons ⟨t,rfl⟩ (SV h)
noncomputable def xo(s:dW):ip:=match s with
 |.FunctionDef _ a _ _ _ _ _ _ _ _=>a
 |_=>{ posonlyargs:=[],args:=[],vararg:=Jf,kwonlyargs:=[],kw_defaults:=[],kwarg:=Jf,defaults:=[] }
def tY(s:dW):List dW:=match s with
 |.FunctionDef _ _ b _ _ _ _ _ _ _=>b
 |_=>[]
def qr(s:dW):cG:=match s with
 |.FunctionDef _ _ _ _ _ _ sc _ _ _=>sc
 |_=>{ kind:=.function,names:=[],isGenerator:=Jh,isCoroutine:=Jh }
abbrev xA:vZ:=λ_ _ _ _ _ _=>False
abbrev E0:XK:=λ_ _ _=>False
def OH:G0 xA X E0:=λ_ _ _ _ _ _ _ h=>h.elim
structure Fun(K:ah)(x qual:az)(st:dW)(f:ab)(fd:d0):Prop where
 ex:∃(oc:ae)(od:Option ab)(kV doc pm:ae)(an:Option ab)(ph ct:ae)(t5:Array (Option ae)),
  fd=bV x qual (xo st) (tY st) (qr st) .none kV doc pm an ph ct/\K.lookup f=Jd ⟨oc,od,.func fd,t5⟩/\eB K ph qual=Jg
 kp:cJ K (.ref f)=Jg
section
variable{P:aQ}{w:a8}{K:ah}{mg:az->Option ae}{base:aV}
def Fun.ok{x b:az}{c:dW}{f:ab}{j:d0}{N e:List az}{k:Nat}{g:Sp}(F:Fun K x b c f j)(S:sW N e (qr c))(i:∀vs H Q E,g vs H Q E->vs.length=e.length)
  (l:∀(d:ae)(A:be)(a:List Env)(s:ag)(H:Hp)(vs:List V)(Q:VK)(E:XK),nD k (A.deeper (envOfC b (qr c) s.heap.objs.size f d))->g vs H Q E->
   ∃t,rZ (A2 xA P w K mg base N b (qr c) f d A a s H E).nox (tY c) t/\t { nx:=λ_ H'=>Q .non H',rt:=Q } (start N vs) H):nK P w K mg base xA (k+1) f j e g:=by obtain⟨u,v,y,m,z,B,d,C,D,rfl,n,o⟩:=F.ex;refine oY n o S i λA a s H vs Q E p r=>?_;obtain⟨t,h,q⟩:=l d A a s H vs Q E p r;exact⟨t,h.nox,q⟩
def Fun.binds{x a:az}{c:dW}{f:ab}{m:d0}{d:List az}(F:Fun K x a c f m)
  (h:∀(e b g:ae)(i:Option ab)(j k:ae)(l:List ae),l.length=d.length->bindArgs (bV x a (xo c) (tY c) (qr c) .none e b g i j k) ⟨l,[]⟩=pure (d.zip l)):Binds K m d []:=by obtain⟨n,o,e,b,g,i,j,k,p,rfl,q,r⟩:=F.ex;exact .all (h e b g i j k)
def J7{x a:az}{b:dW}{f:ab}{m:ae}{n g:Option ab}{o:Array (Option ae)}{h d i e j:ae}(l:K.lookup f=Jd ⟨m,n,.func (bV x a (xo b) (tY b) (qr b) .none h d i g e j),o⟩)
  (c:eB K e a=Jg) (k:cJ K (.ref f)=Jg):Fun K x a b f (bV x a (xo b) (tY b) (qr b) .none h d i g e j):=⟨⟨m,n,h,d,i,g,e,j,o,rfl,l,c⟩,k⟩
end
def nB(H H':Hp):Prop:=∀b o,H b=Jd o->H' b=Jd o
def nB.refl(H:Hp):nB H H:=λ_ _ h=>h
def nB.trans(a:nB H H1)(b:nB H1 H2):nB H H2:=λc o h=>b c o (a c o h)
def nB.free{H H':Hp}(e:nB H H'){l:ab}(h:H' l=iY):H l=iY:=by
 cases q:H l with
 |none=>rfl
 | some o=>
  rw[e l o q] at h;cases h
def nB.seq{K:ah}{H H':Hp}{a:ab}{xs:List V}(e:nB H H')(h:qg K H a xs):qg K H' a xs:=by
 rcases h with(h|⟨o,h⟩)|h
 ·exact .inl (.inl (e _ _ h))
 ·exact .inl (.inr ⟨o,e _ _ h⟩)
 ·exact .inr h
section
variable{κ:Type}[DecidableEq κ]
def tQ(l_:List (κ×V))(k:κ):Option V:=(l_.find? λkv=>decide (kv.1=k)).map (·.2)
noncomputable def A5(l_:List (κ×V))(k:κ)(v:V):List (κ×V):=
 if (l_.any λkv=>decide (kv.1=k))=Jg then l_.map (λkv=>if kv.1=k then (kv.1,v) else kv) else l_++[(k,v)]
def yZ(l_:List (κ×V))(k:κ):List (κ×V):=l_.filter λkv=>decide (kv.1≠k)
def ED{p:κ×V}{r:List (κ×V)}{k:κ}(e:p.1=k):tQ (p::r) k=Jd p.2:=by simp[tQ,ef,e]
def C0{p:κ×V}{r:List (κ×V)}{k:κ}(e:¬ p.1=k):tQ (p::r) k=tQ r k:=by simp[tQ,ef,e]
theorem SG(k:κ):∀a:List (κ×V),(a.any λkv=>decide (kv.1=k))=(tQ a k).isSome
 |[]=>rfl
 | p::r=>by
  rw[gg];by_cases e:p.1=k
  ·simp only[ED e,decide_eq_true e,Bool.true_or,lr]
  ·rw[C0 e,decide_eq_false e,h9];exact SG k r
def z8U(a:List (κ×V))(k:κ)(v:V):(A5 a k v).length<=a.length+1:=by
 unfold A5;split
 ·rw[aA];lia
 ·rw[aw,bg,fK];lia
def zgf{a:List (κ×V)}{k:κ}(v:V)(h:tQ a k=Jf):A5 a k v=a++[(k,v)]:=by unfold A5;rw[SG,h];exact Jk 's'
def n6.isSome_eq(r:n6 o u):o.isSome=u.isSome:=by
 cases o with
 | none=>cases u with
  |none=>rfl
  |some _=>exact(r).elim
 | some _=>cases u with
  |none=>exact(r).elim
  |some _=>rfl
def n6.getD(r:n6 o u)(a:RelV d d'):RelV (o.getD d) (u.getD d'):=by
 cases o with
 | none=>cases u with
  |none=>exact a
  |some _=>exact(show False from r).elim
 | some _=>cases u with
  |none=>exact(show False from r).elim
  |some _=>exact r
def KV.val{c:List (κ×V)}{vs:List (κ×ae)}(r:KV c vs)(k:κ):n6 (tQ c k) (valueAt vs k):=by
 induction r with
 |nil=>exact fL
 | @cons p q ps qs h t ih=>
  obtain⟨d,f⟩:=h;by_cases e:p.1=k
  ·have a:=d.symm.trans e;have b:valueAt (q::qs) k=Jd q.2:=by simp[valueAt,ef,a]
   rw[ED e,b];exact f
  ·have a:¬ q.1=k:=λz=>e (d.trans z);have b:valueAt (q::qs) k=valueAt qs k:=by simp[valueAt,ef,a]
   rw[C0 e,b];exact ih
def KV.any{a:List (κ×V)}{vs:List (κ×ae)}(r:KV a vs)(k:κ):(a.any λkv=>decide (kv.1=k))=vs.any λkv=>decide (kv.1=k):=by
 induction r with
 |nil=>rfl
 |cons h t ih=>rw[gg,gg,ih,h.1]
def KV.repl(r:KV l_ vs)(k:κ)(b:RelV y u):
  KV (l_.map λkv=>if kv.1=k then (kv.1,y) else kv) (vs.map λkv=>if kv.1=k then (kv.1,u) else kv):=by
 induction r with
 |nil=>exact .nil
 | @cons p q ps qs h t ih=>
  rw[br,br];refine .cons ?_ ih;obtain⟨a,c⟩:=h;by_cases e:p.1=k
  ·rw[Ji e,Ji (a.symm.trans e)];exact⟨a,b⟩
  ·rw[Jk e,Jk (λz=>e (a.trans z))];exact⟨a,c⟩
def KV.put(r:KV l_ vs)(k:κ)(a:RelV y u):KV (A5 l_ k y) (stored vs k u):=by
 unfold A5 stored;rw[r.any k];by_cases e:(vs.any λb=>decide (b.1=k))=Jg
 ·rw[Ji e,Ji e];exact r.repl k a
 ·rw[Jk e,Jk e];exact Paired.snoc r ⟨rfl,a⟩
def KV.drop(r:KV l_ vs)(k:κ):KV (yZ l_ k) (without vs k):=by
 unfold yZ without
 induction r with
 |nil=>exact .nil
 | @cons p q ps qs h t ih=>
  obtain⟨c,d⟩:=h;rw[cZ,cZ];by_cases e:p.1=k
  ·have a:¬ decide (p.1≠k)=Jg:=by simp[e]
   have b:¬ decide (q.1≠k)=Jg:=by simp[c.symm.trans e]
   rw[Jk a,Jk b];exact ih
  ·have f:¬ q.1=k:=λz=>e (c.trans z);have a:decide (p.1≠k)=Jg:=by simp[e]
   have b:decide (q.1≠k)=Jg:=by simp[f]
   rw[Ji a,Ji b];exact .cons ⟨c,d⟩ ih
def KV.length(r:KV l_ vs):l_.length=vs.length:=kO r
def zf7(a:List (κ×V))(k:κ):(yZ a k).length<=a.length:=a7 _ _
end
def JW(r:RelV (kV k) u):(xp P w).is k u=Jg:=by
 cases k with
 |inl i=>obtain⟨t,e⟩:=(r);subst e;exact z9c P w i t
 |inr x=>obtain⟨t,e⟩:=(r);subst e;exact z8J P w x t
abbrev KT(H:Hp):List (List Key×V)->List (List Key×ab×ae)->Prop:=bR λp q=>p.1=q.1/\H q.2.1=Jd (.tup (p.1.map kV))/\RelV p.2 q.2.2
def KT.val{H:Hp}{c:List (List Key×V)}{xs:List (List Key×ab×ae)}(r:KT H c xs)(k:List Key):n6 (tQ c k) ((atKey xs k).map (·.2)):=by
 induction r with
 |nil=>exact fL
 | @cons p q ps qs h t ih=>
  obtain⟨d,_,f⟩:=h;by_cases e:p.1=k
  ·have a:=d.symm.trans e;have b:atKey (q::qs) k=Jd q.2:=by simp[atKey,ef,a]
   rw[ED e,b];exact f
  ·have a:¬ q.1=k:=λz=>e (d.trans z);have b:atKey (q::qs) k=atKey qs k:=by simp[atKey,ef,a]
   rw[C0 e,b];exact ih
section
variable{P:aQ}{w:a8}{H:Hp}{h:aV}{a:ab}
def WV(ok:HOk P w H h)(e:Rd H a u):nJ P w H h a u:=e.ok ok
def GR(ok:HOk P w H h)(e:Rd H a (.dK l_)):l_.length<=KM/\(a==sysModules)=Jh/\∃vs,KV l_ vs/\h.DictOf (xp P w) a vs:=
 show nJ P w H h a (.dK l_) from WV ok e
def JV(ok:HOk P w H h)(e:H a=Jd (.dK l_)):l_.length<=KM/\(a==sysModules)=Jh/\∃vs,KV l_ vs/\h.DictOf (xp P w) a vs:=GR ok (.inl e)
end
section
variable{X:Cx}{Y1:List (ab×Obj)}{σ:St}{H:Hp}{s:ag}{a:ab}
def Inv.big(I:Inv X Y1 σ H s):sysModules<s.heap.objs.size:=by have h:=(I.mod.glob.keeps I.bk).lt;exact Nat.lt_trans 's' h
def zev(I:Inv X Y1 σ H s)(d:Gi (H a))(e:dB a s.heap h')(f:∃q,h'.get? a=Jd q)(c:nJ X.prog X.w (upd H a ob) h' a ob)(h:0<t':=by first|exact cK _|exact Inv.tk ‹_›|assumption|lia):
  Inv X Y1 σ (upd H a ob) { s with heap:=h',toks:=t' }:=
 I.write d (.inl rfl) (λb q g z=>(e.2 b g).trans z) f c
def Kk(z:l_.length<=KM)(c:(a==sysModules)=Jh)(b:KV l_ vs)(d:h'.DictOf (xp P w) a vs):
  nJ P w H' h' a (.dK l_):=⟨z,c,vs,b,d⟩
end
section
variable{X:Cx}{Y1:List (ab×Obj)}{σ:St}{H:Hp}{s:ag}{a:ab}{l_:List (Key×V)}{k:Key}{u:ae}{A:be}{E:ae->ag->Prop}
def zeL(I:Inv X Y1 σ H s)(e:H a=Jd (.dK l_))(g:RelV (kV k) u)(l:(tQ l_ k).isSome=Jg)(h:∀d,Inv X Y1 σ (upd H a (.dK (yZ l_ k))) d->Q () d):
  ay (aC X.prog X.w) A (delItem (.ref a) u) Q E s:=by
 obtain⟨z,i,j,b,c⟩:=JV I.hok e;refine wpAny_delItem_slot c.typeIs 's' jq
  (call_meetsIn jq c.typeIs PySem.F.entry_dict_delitem (PySem.F.args_dict_delitem_2 _ _) (meets_dict_delitem_pairs (xp X.prog X.w) a (JW g)) ⟨j,c,by rw[<- b.length];exact z,by rw[<- (b.val k).isSome_eq];exact l,λm f n=>h _ ?_⟩)
 have o:∃q,m.get? a=Jd q:=let ⟨q,_,_,hq,_⟩:=f;⟨q,hq⟩;exact zev I (by rw[e];exact fL) n o (Kk (aG (zf7 l_ k) z) i (b.drop k) f)
end
def GC(i:aS):Prop:=∀ov iv,subscripted i Jh ov iv=operate [ov,iv] (getItem ov iv)
def Q9{prog:aQ}{w:a8}{A:be}{E:ae->ag->Prop}{s:ag}{c:Env}{b a:aS}{f:Pos}{T l:String}{Q:ae->ag->Prop}
  (m:typeLookup (.type T) "__getitem__" = pure (Jd (.builtin l))) (n:GC a)
  (h:ay (aC prog w) A (eval b c) (λo j=>ay (aC prog w) A (eval a c) (λi e=>e.TypeIs o T/\ay (aC prog w) A (getItem o i) Q E e) E j) E s):
  ay (aC prog w) A (eval (.Subscript b a f) c) Q E s:=by
 refine Subscript_ (cj h (λo j p=>cj p (λi e g=>?_) λ_ _ x=>x) λ_ _ x=>x);obtain⟨q,g⟩:=g;refine aa ?_;refine aa (wpAny_specialOf q m ?_);have d:ay (aC prog w) A (subscripted a Jh o i) (λr k=>ay (aC prog w) A (letTemporaryGo b o r >>= λ_=>pure r) Q E k) E e:=by
  rw[n o i];exact wpAny_operating (cj g (λr k t=>aa (wpAny_letTemporaryGo (aq t))) λ_ _ x=>x)
 first
  |exact aq (aa d)
  |exact aa (aq (aa d))
  |exact aa d
def WT(td ty:TE):TS:=λD σ H=>td σ H λx H1=>ty σ H1 λy H2=>∃a l_ k,x=.ref a/\H2 a=Jd (.dK l_)/\y=kV k/\(tQ l_ k).isSome=Jg/\D.nx σ (upd H2 a (.dK (yZ l_ k)))
section
variable{X:Cx}{o i e:aS}{pos Mn:Pos}{td ty:TE}
def zij(d:PE X o td)(f:PE X i ty):PS X (.Delete [.Subscript o i Mn] pos) (WT td ty):=by intro b s c H D I h;refine wpAny_Delete (wpAny_deleteEach_cons (wpAny_delete_Subscript (o7 (d b s c H _ I h) λu g ⟨x,j,m,n,p⟩=>o7 (f b g c j _ m p) λA B ⟨y,C,q,r,a,E,k,t,e,v,l,w⟩=>?_)));subst t v;obtain rfl:u=fG a:=n;exact zeL q e r l λF z=>wpAny_deleteEach_nil ⟨c,_,z,w⟩
end
structure M1(X:Cx)(o:aS)(m:az)(apos:Pos)(e:aS)(oV:Pos):Prop where
 base:attributeBase o m X.env (eval o X.env)=eval o X.env
 few:((backTo oV (aP [e] X.env)).all (λx=>!x.1)&&(backToKw oV (keywordEach [] X.env)).all (λx=>x.1.isSome)
  && decide (([e]:List aS).length+([]:List eC).length+(if ([]:List eC).isEmpty then 0 else 1)<30))=Jg
 line:(apos.endLine==oV.line)=Jg
 trees:backTo oV (aP [e] X.env)=[(Jh,eval e X.env)]
structure M2(X:Cx)(o:aS)(m:az)(apos:Pos)(e f:aS)(oV:Pos):Prop where
 base:attributeBase o m X.env (eval o X.env)=eval o X.env
 few:((backTo oV (aP [e,f] X.env)).all (λx=>!x.1)&&(backToKw oV (keywordEach [] X.env)).all (λx=>x.1.isSome)
  && decide (([e,f]:List aS).length+([]:List eC).length+(if ([]:List eC).isEmpty then 0 else 1)<30))=Jg
 line:(apos.endLine==oV.line)=Jg
 trees:backTo oV (aP [e,f] X.env)=[(Jh,eval e X.env),(Jh,eval f X.env)]
section
end
section
end
end L2
namespace DL
open PySem L2
def wT{X:Cx}{b:List (ab×Obj)}{d:St}{H:Hp}{s:ag}{α:Type}{M:iw}{A:be}{m:Sem α}{Q:α->ag->Prop}{E:ae->ag->Prop}(I:L2.Inv X b d H s)(h:ay M A m (λa c=>0<c.toks->Q a c) (λe c=>0<c.toks->E e c) s):ay M A m Q E s:=fJ I.tk h
structure Jq(K:ah)(C:ab):Prop where
 ga:ez K (.ref C) "__getattribute__" = Jd (Jd (.builtin "BaseException.__getattribute__"))
 nh:ez K (.ref C) "__getattr__" = Jd Jf
 cl:∃cd,PySem.W.clsIn K C=Jd cd
 at_:ez K (.ref C) "__class__" = Jd (Jd (.builtin "object.__class__"))
 gt:jn K (.builtin "object.__class__") "__get__" = Jd (Jd (.builtin "getset_descriptor.__get__"))
 tk:mE K (.builtin "object.__class__")=Jd Jg
 ob:kP K C (.type "object")=Jd Jg
 bx:kP K C (.type "BaseException")=Jd Jg
 kit:∀c∈(["int", "bool", "str", "list", "tuple", "dict"]:List String),kg K (.ref C) (.type c)=Jd Jh
section
open PySem.W
variable{prog:aQ}{w:a8}{A:be}{E:ae->ag->Prop}{s:ag}{K:ah}{x C:ab}{ox:Obj}
def ziq(X:K.In s.heap)(k:Jq K C)(I:iM s.heap x ox C Jf)(a:Q () s):ay M A (checkBuiltinCall "BaseException.__getattribute__" ⟨[.ref x,Fq],[]⟩) Q E s:=by
 have b:builtinKind "BaseException.__getattribute__" = Jd .slot:=by decide +kernel
 have c:splitId "BaseException.__getattribute__" = Jd ("BaseException", "__getattribute__"):=by decide +kernel
 have g:=F.args_bexc_ga (.ref x) Fq;have d:=I.type (M:=M);have e:=looks_mroIn (M:=M) X k.bx;have f:Looks M s.heap (isInstance (.ref x) (.type "BaseException")) Jg:=d.andThen e;simp only[checkBuiltinCall,b,c];refine aa (f.at ?_)
 repeat (first|wp_step|exact a)
def ZP(X:K.In s.heap)(k:Jq K C)(I:iM s.heap x ox C Jf)(h:Q (Jd (.ref C)) { s with toks:=s.toks+1 }):ay (aC prog w) A (getAttr? (.ref x) "__class__") Q E s:=by
 obtain⟨i,c⟩:=k.cl;have d:findObj K C Jf "__class__" = Jd (.bind (.builtin "getset_descriptor.__get__") (.builtin "object.__class__")):=by
  unfold findObj;rw[c,k.at_];simp only[Option.bind_some,k.gt,k.tk]
 have b:=I.type (M:=aC prog w);have e:=looks_findIn (M:=aC prog w) X k.ga;have f:=looks_findIn (M:=aC prog w) X k.nh;have g:=looks_find (M:=aC prog w) X I d;unfold getAttr? getAttrBy? getAttrBy;refine aa (wpAny_mkText (aa (fD (bK (aa (b.at (aa (e.at ?_))))))));have a:(onTheHeap (fG C)&&gh "BaseException.__getattribute__" == gh "object.__getattribute__")=Jh:=by
  rw[show(gh "BaseException.__getattribute__" == gh "object.__getattribute__")=Jh from by decide +kernel];rfl
 show ay _ _ (if (onTheHeap (fG C)&&gh "BaseException.__getattribute__" == gh "object.__getattribute__")=Jg then _ else _) _ _ _;rw[Jk (by rw[a];decide)];unfold getAttrByItsOwn hookBefore;rw[Ji (by rfl)];refine aa (f.at (aa (fD (bK ?_))));unfold callGetattribute boundAndCalled;rw[Jk 's'];rw[lT.ga.bind (.ref x)];refine aa (aq (kG ?_));refine codeAny_call_builtin lT.ga.plain F.entry_bexc_ga (ziq (s:={ s with toks:=s.toks+1 }) X k I ?_);unfold fY.«object.__getattribute__»;refine aa (aq (aa (aq (aa (b.at (aa (g.at ?_)))))));show ay _ _ (jr _ _ _ _) _ _ _;unfold jr;refine aa (bK (kG (class_get (s:={ s with toks:=s.toks+1 }) X I k.ob ?_)));exact aq (aq (aq h))
def XW(k:Jq K C):KitX K (.ref x) (.ref C) (λh=>∃ox,iM h x ox C Jf) where
 ty:=λ_ _ _ ⟨ox,I⟩=>I.type
 it:=λ_ _ X _=>by
  obtain⟨f,a⟩:=k.cl;unfold clsIn at a;split at a
  ·rename_i g i b j c;intro o p r t l q;unfold isType loadHead;exact aa (wpAny_loadPart (l _ _ (X _ _ c)) (aq q))
  ·cases a
 ne:=λh m u v n y X d=>by
  obtain⟨f,a⟩:=k.cl;refine Bool.eq_false_iff.mpr λq=>?_;have e:C=m:=Value.ref.inj (beq_iff_eq.mp q);subst e;unfold clsIn at a;split at a
  ·rename_i g i b j c;have z:=(X _ _ c).symm.trans d;cases z
  ·cases a
 ca:=λX ⟨ox,I⟩ q=>ZP X k I q
end
end DL
namespace DL
open PySem L2
inductive D where
 |non
 |bl (b:Bool)
 |int (i:Int)
 |str (cs:g_)
 |lst (xs:List D)
 |tup (xs:List D)
 |own (k:Nat)
 |dct
 |exn (C:Nat)
 |tab (P:Nat)
 |map (ks:List (Sum Int g_)) (ds:List D)
 |adr (a:Nat)
 deriving Inhabited
abbrev Ow:=List (List D)
inductive R(α:Type) where
 |ok (a:α) (O:Ow)
 |exc (c:Nat) (O:Ow)
 |bad
 deriving Inhabited
def R.bnd{α β:Type}(r:R α)(k:α->Ow->R β):R β:=match r with
 |.ok a O=>k a O
 |.exc c O=>.exc c O
 |.bad=>.bad
abbrev Sg:=List (Option D)
abbrev DE:=Sg->Ow->R D
abbrev DT:=Sg->Ow->R Bool
abbrev DA:=Sg->Ow->R (List D)
section
variable(K:ah)(H:Hp)(XV μ:List ab)
def Wb(K:ah)(a:ab)(xs:List V):Prop:=∃(o:Obj)(d_:Array ae)(n:Nat),K.lookup a=Jd o/\o.cls=.type "list"/\o.dict=Jf/\o.data=.seq d_ n/\d_.size<=KM/\nu xs d_.toList
def VV(K:ah)(a:ab)(xs:List V):Prop:=∃(o:Obj)(d_:Array ae)(n:Nat),K.lookup a=Jd o/\o.cls=.type "tuple"/\o.data=.seq d_ n/\d_.size<=KM/\nu xs d_.toList
def LstAt(a:ab)(vs:List V):Prop:=(Rd H a (.lst vs)/\a∉XV/\a∉μ)\/Wb K a vs
def TupAt(a:ab)(vs:List V):Prop:=(Rd H a (.tup vs)/\a∉XV/\a∉μ)\/VV K a vs/\∃o,K.lookup a=Jd o/\o.dict=Jf
end
noncomputable def kD:Sum Int g_->Key
 |.inl i=>.inl i
 |.inr cs=>.inr ⟨cs.toArray⟩
def nI(H:Hp)(P:ab):Prop:=∃ps,H P=Jd (.tbl ps)/\TriplesOk ps.toList/\∀pos cv,codeAmong pos ps.toList=Jd cv->∃c φ,cv=.ref c/\H c=Jd (.ext φ)/\∀h:aV,φ h->∃q,h.CodeRec (.ref c) q
def CB(o:HO):Prop:=∀ps,o ≠ .tbl ps
section
variable(K:ah)(H:Hp)(XV μ:List ab)
mutual
def Y2:D->V->Prop
 |.non,v=>v=.non
 |.bl b,v=>v=.bl b
 |.int i,v=>v=.int i
 |.str cs,v=>v=.str ⟨cs.toArray⟩
 |.lst ds,v=>∃a vs,v=.ref a/\LstAt K H XV μ a vs/\np ds vs
 |.tup ds,v=>∃a vs,v=.ref a/\TupAt K H XV μ a vs/\np ds vs
 |.own k,v=>∃a,v=.ref a/\μ[k]?=Jd a
 |.dct,v=>∃a,v=.ref a/\Rd H a (.dK [])/\a∉XV/\a∉μ
 |.exn C,v=>∃a φ,v=.ref a/\(Jq K C/\∀h:aV,φ h->∃ox,iM h a ox C Jf)/\Rd H a (.ext φ)/\a∉XV/\a∉μ
 |.tab P,v=>v=.bl Jh/\nI H P
 |.map ks ds,v=>∃a vs,v=.ref a/\(∃o,H a=Jd (.frz o (.dK ((ks.map kD).zip vs))))/\a∉XV/\a∉μ/\ks.length=vs.length/\np ds vs
 |.adr a,v=>v=.ref a
def np:List D->List V->Prop
 |[],vs=>vs=[]
 |d::ds,vs=>∃v r,vs=v::r/\Y2 d v/\np ds r
end
structure nk(O:Ow):Prop where
 len:μ.length=O.length
 nd:μ.Nodup
 nh:∀a∈μ,a∉XV
 ht:∀a∈XV,H a≠Jf
 at_:∀(k:Nat)a,μ[k]?=Jd a->∃ds vs,O[k]?=Jd ds/\H a=Jd (.lst vs)/\np K H XV μ ds vs
structure nq(σ:Sg)(b_:St):Prop where
 len:σ.length=b_.length
 at_:∀(i:Nat)d,σ[i]?=Jd (Jd d)->∃v,b_[i]?=Jd (Jd v)/\Y2 K H XV μ d v
end
structure Ext(H:Hp)(μ:List ab)(H':Hp)(c_:List ab):Prop where
 pre:∃ν,c_=μ++ν
 kept:∀b o,H b=Jd o->b∉μ->CB o->H' b=Jd o
 fresh:∀b∈c_,b∈μ\/H b=Jf
 there:∀b,H b≠Jf->H' b≠Jf
 tab:∀P,nI H P->nI H' P
structure Mv(H:Hp)(XV μ:List ab)(H':Hp)(oU c_:List ab):Prop where
 pre:∃ν,c_=μ++ν
 kept:∀b o,H b=Jd o->b∉μ->b∉XV->CB o->H' b=Jd o
 fresh:∀b∈c_,b∈μ\/H b=Jf
 hids:∀b∈oU,b∈XV\/H b=Jf
 there:∀b,H b≠Jf->H' b≠Jf
 tab:∀P,nI H P->nI H' P
section
variable{K:ah}{H H' H1 H2:Hp}{XV oU vS F0 μ c_ e_ oW:List ab}
def Ext.keep(e:Ext H μ H' c_)(b:ab)(o:HO)(h:H b=Jd o)(n:b∉μ)(a:CB o:=by intro c z;cases z):H' b=Jd o:=e.kept b o h n a
def nI.upd(t:nI H P)(f:H p=Jf \/ ∃vs,H p=Jd (.lst vs)):nI (L2.upd H p o) P:=by
 obtain⟨g,a,h,i⟩:=t;have j:P≠p:=by
  rintro rfl;rcases f with z|⟨vs,z⟩<;>(rw[z] at a;cases a)
 refine⟨g,by rw[o9 j];exact a,h,λb k e=>?_⟩;obtain⟨c,l,rfl,d,m⟩:=i b k e;have n:c≠p:=by
  rintro rfl;rcases f with z|⟨vs,z⟩<;>(rw[z] at d;cases d)
 exact⟨c,l,rfl,by rw[o9 n];exact d,m⟩
def Ext.refl:Ext H μ H μ:=⟨⟨[],by simp⟩,λ_ _ h _ _=>h,λ_ h=>.inl h,λ_ h=>h,λ_ t=>t⟩
def Ext.trans(a:Ext H μ H1 e_)(b:Ext H1 e_ H2 oW):Ext H μ H2 oW:=by
 refine⟨?_,λc o h n d=>?_,λc h=>?_,λc h=>b.there c (a.there c h),λP t=>b.tab P (a.tab P t)⟩
 ·obtain⟨x,rfl⟩:=a.pre;obtain⟨y,rfl⟩:=b.pre;exact⟨x++y,by simp⟩
 ·refine b.kept c o (a.kept c o h n d) (λm=>?_) d;rcases a.fresh c m with z|z
  ·exact n z
  ·rw[z] at h;cases h
 ·rcases b.fresh c h with z|z
  ·exact a.fresh c z
  ·by_cases f:c∈μ
   ·exact .inl f
   ·cases e:H c with
    |none=>exact .inr rfl
    |some o=>exact absurd z (a.there c (by rw[e];simp))
def Ext.mv(a:Ext H μ H' c_):Mv H XV μ H' XV c_:=⟨a.pre,λb o h n _ c=>a.kept b o h n c,a.fresh,λ_ h=>.inl h,a.there,a.tab⟩
def Mv.refl:Mv H XV μ H XV μ:=Ext.refl.mv
def Mv.trans(a:Mv H XV μ H1 vS e_)(b:Mv H1 vS e_ H2 F0 oW):Mv H XV μ H2 F0 oW:=by
 have d:∀c,H1 c=Jf->H c=Jf:=λc h=>by
  cases e:H c with
  |none=>rfl
  |some o=>exact absurd h (a.there c (by rw[e];simp))
 refine⟨?_,λc o h f g i=>?_,λc h=>?_,λc h=>?_,λc h=>b.there c (a.there c h),λP t=>b.tab P (a.tab P t)⟩
 ·obtain⟨x,rfl⟩:=a.pre;obtain⟨y,rfl⟩:=b.pre;exact⟨x++y,by simp⟩
 ·refine b.kept c o (a.kept c o h f g i) (λm=>?_) (λm=>?_) i
  ·rcases a.fresh c m with z|z
   ·exact f z
   ·rw[z] at h;cases h
  ·rcases a.hids c m with z|z
   ·exact g z
   ·rw[z] at h;cases h
 ·rcases b.fresh c h with z|z
  ·exact a.fresh c z
  ·exact .inr (d c z)
 ·rcases b.hids c h with z|z
  ·exact a.hids c z
  ·exact .inr (d c z)
def Mv.hide(h:H b=Jf):Mv H XV μ H (b::XV) μ:=⟨⟨[],by simp⟩,λ_ _ h _ _ _=>h,λ_ m=>.inl m,λc m=>(ar.mp m).elim (λe=>.inr (by rw[e];exact h)) .inl,λ_ h=>h,λ_ t=>t⟩
def Mv.unhide:Mv H (b::XV) μ H XV μ:=⟨⟨[],by simp⟩,λ_ _ h _ _ _=>h,λ_ m=>.inl m,λ_ m=>.inl (ak _ m),λ_ h=>h,λ_ t=>t⟩
def Rd.mv(r:Rd H a u)(e:Mv H XV μ H' oU c_)(c:a∉XV)(d:a∉μ)(f:CB u:=by intro g z;cases z):Rd H' a u/\a∉oU/\a∉c_:=by
 have b:∀o,H a=Jd o->a∉oU/\a∉c_:=by
  intro o h;constructor
  ·intro m;rcases e.hids a m with z|z
   ·exact c z
   ·rw[z] at h;cases h
  ·intro m;rcases e.fresh a m with z|z
   ·exact d z
   ·rw[z] at h;cases h
 rcases r with r|⟨o,r⟩
 ·exact⟨.inl (e.kept _ _ r d c f),b _ r⟩
 ·exact⟨.inr ⟨o,e.kept _ _ r d c (by intro g z;cases z)⟩,b _ r⟩
def LstAt.mv(h:LstAt K H XV μ a vs)(e:Mv H XV μ H' oU c_):LstAt K H' oU c_ a vs:=
 h.imp (λz=>Rd.mv z.1 e z.2.1 z.2.2) id
def TupAt.mv(h:TupAt K H XV μ a vs)(e:Mv H XV μ H' oU c_):TupAt K H' oU c_ a vs:=
 h.imp (λz=>Rd.mv z.1 e z.2.1 z.2.2) id
def LstAt.sq(h:LstAt K H XV μ a vs):qg K H a vs:=h.elim (λz=>.inl z.1) .inr
def TupAt.sq(h:TupAt K H XV μ a vs):qX K H a vs:=h.elim (λz=>.inl z.1) λz=>.inr z.1
mutual
theorem Y2.mv(e:Mv H XV μ H' oU c_):∀{d:D}{v:V},Y2 K H XV μ d v->Y2 K H' oU c_ d v
 |.non,_,h=>h
 |.bl _,_,h=>h
 |.int _,_,h=>h
 |.str _,_,h=>h
 | .lst ds,v,h=>by
  unfold Y2 at h ⊢;obtain⟨a,f,r,l,q⟩:=h;exact⟨a,f,r,l.mv e,np.mv e q⟩
 | .tup ds,v,h=>by
  unfold Y2 at h ⊢;obtain⟨a,f,r,l,q⟩:=h;exact⟨a,f,r,l.mv e,np.mv e q⟩
 | .own k,v,h=>by
  unfold Y2 at h ⊢;obtain⟨a,r,q⟩:=h;obtain⟨x,rfl⟩:=e.pre;exact⟨a,r,by rw[aF (al.mp q).1];exact q⟩
 | .dct,v,h=>by
  unfold Y2 at h ⊢;obtain⟨a,r,q,b,c⟩:=h;exact⟨a,r,Rd.mv q e b c⟩
 | .exn C,v,h=>by
  unfold Y2 at h ⊢;obtain⟨a,i,r,g,q,b,c⟩:=h;exact⟨a,i,r,g,Rd.mv q e b c⟩
 | .tab P,v,h=>by
  unfold Y2 at h ⊢;exact⟨h.1,e.tab _ h.2⟩
 | .map ks ds,v,h=>by
  unfold Y2 at h ⊢;obtain⟨a,f,r,⟨o,q⟩,b,c,j,d⟩:=h;obtain⟨_,m,n⟩:=Rd.mv (.inr ⟨o,q⟩) e b c;exact⟨a,f,r,⟨o,e.kept a _ q c b (by intro p z;cases z)⟩,m,n,j,np.mv e d⟩
 |.adr _,_,h=>h
theorem np.mv(e:Mv H XV μ H' oU c_):∀{ds:List D}{vs:List V},np K H XV μ ds vs->np K H' oU c_ ds vs
 |[],_,h=>h
 | d::ds,vs,h=>by
  unfold np at h ⊢;obtain⟨v,r,a,b,c⟩:=h;exact⟨v,r,a,Y2.mv e b,np.mv e c⟩
end
def Y2.ext(e:Ext H μ H' c_)(h:Y2 K H XV μ d v):Y2 K H' XV c_ d v:=h.mv e.mv
def np.ext(e:Ext H μ H' c_)(h:np K H XV μ ds vs):np K H' XV c_ ds vs:=h.mv e.mv
def nq.mv(h:nq K H XV μ σ b_)(e:Mv H XV μ H' oU c_):nq K H' oU c_ σ b_:=
 ⟨h.len,λi d q=>let ⟨v,a,b⟩:=h.at_ i d q;⟨v,a,b.mv e⟩⟩
def nq.ext(h:nq K H XV μ σ b_)(e:Ext H μ H' c_):nq K H' XV c_ σ b_:=h.mv e.mv
def nq.set(h:nq K H XV μ σ b_)(q:Y2 K H XV μ d v)(i:Nat):nq K H XV μ (σ.set i (Jd d)) (b_.set i (Jd v)):=by
 refine⟨by simp[h.len],λj x e=>?_⟩;by_cases c:i=j
 ·subst c;have f:i<σ.length:=by have:=(al.mp e).1;simpa using this
  rw[bq f] at e;cases e;exact⟨v,by rw[bq (by rw[<- h.len];exact f)],q⟩
 ·rw[bj c] at e;obtain⟨w,a,b⟩:=h.at_ j x e;exact⟨w,by rw[bj c];exact a,b⟩
theorem np.length:∀{ds:List D}{vs:List V},np K H XV μ ds vs->ds.length=vs.length
 |[],_,h=>by unfold np at h;subst h;rfl
 | d::ds,vs,h=>by
  obtain⟨v,r,rfl,_,a⟩:=h;simp[np.length a]
def np.nil:np K H XV μ [] []:=by unfold np;rfl
def np.cons(h:Y2 K H XV μ d v)(t:np K H XV μ ds vs):np K H XV μ (d::ds) (v::vs):=by unfold np;exact⟨v,vs,rfl,h,t⟩
theorem np.append:∀{ds a:List D}{vs b:List V},np K H XV μ ds vs->np K H XV μ a b->np K H XV μ (ds++a) (vs++b)
 |[],_,_,_,h,t=>by unfold np at h;subst h;exact t
 | d::ds,a,vs,b,h,t=>by
  obtain⟨v,r,rfl,c,e⟩:=h;exact .cons c (np.append e t)
theorem np.get:∀{ds:List D}{vs:List V}{i:Nat}{d:D},np K H XV μ ds vs->ds[i]?=Jd d->∃v,vs[i]?=Jd v/\Y2 K H XV μ d v
 |[],_,_,_,_,e=>by simp at e
 | d::ds,vs,0,x,h,e=>by
  obtain⟨v,r,rfl,c,f⟩:=h;simp at e;subst e;exact⟨v,by simp,c⟩
 | d::ds,vs,i+1,x,h,e=>by
  obtain⟨v,r,rfl,c,f⟩:=h;obtain⟨z,a,b⟩:=np.get f ⇑e;exact⟨z,by simpa using a,b⟩
theorem np.take:∀{ds:List D}{vs:List V}(n:Nat),np K H XV μ ds vs->np K H XV μ (ds.take n) (vs.take n)
 |_,_,0,_=>by simpa using np.nil
 |[],_,n+1,h=>by unfold np at h;subst h;simpa using np.nil
 | d::ds,vs,n+1,h=>by
  obtain⟨v,r,rfl,a,b⟩:=h;simpa using np.cons a (np.take n b)
theorem np.drop:∀{ds:List D}{vs:List V}(n:Nat),np K H XV μ ds vs->np K H XV μ (ds.drop n) (vs.drop n)
 |_,_,0,h=>by simpa using h
 |[],_,n+1,h=>by unfold np at h;subst h;simpa using np.nil
 | d::ds,vs,n+1,h=>by
  obtain⟨v,r,rfl,b,a⟩:=h;simpa using np.drop n a
theorem np.set(q:Y2 K H XV μ d v):∀{ds:List D}{vs:List V}(i:Nat),np K H XV μ ds vs->np K H XV μ (ds.set i d) (vs.set i v)
 |[],_,i,h=>by unfold np at h;subst h;simpa using np.nil
 | x::ds,vs,0,h=>by
  obtain⟨w,r,rfl,b,a⟩:=h;simpa using np.cons q a
 | x::ds,vs,i+1,h=>by
  obtain⟨w,r,rfl,b,a⟩:=h;simpa using np.cons b (np.set q i a)
theorem np.rev:∀{ds:List D}{vs:List V},np K H XV μ ds vs->np K H XV μ ds.reverse vs.reverse
 |[],_,h=>by unfold np at h;subst h;simpa using np.nil
 | d::ds,vs,h=>by
  unfold np at h;obtain⟨v,r,rfl,a,b⟩:=h;simpa using np.append (np.rev b) (.cons a .nil)
def xq(b:ab)(h:H b≠Jf):upd H p o b≠Jf:=by
 by_cases e:b=p
 ·subst e;rw[qP];simp
 ·rw[o9 e];exact h
def Ext.laid(h:H p=Jf):Ext H μ (upd H p o) μ:=
 ⟨⟨[],by simp⟩,λb u e _ _=>by rw[o9 (rf e h)];exact e,λ_ m=>.inl m,xq,λ_ t=>t.upd (.inl h)⟩
def nk.laid(c:nk K H XV μ O)(h:H p=Jf):nk K (upd H p o) XV μ O:=by
 refine⟨c.len,c.nd,c.nh,λa m=>?_,λk a e=>?_⟩
 ·by_cases q:a=p
  ·subst q;rw[qP];simp
  ·rw[o9 q];exact c.ht a m
 ·obtain⟨d,f,g,b,i⟩:=c.at_ k a e;exact⟨d,f,g,by rw[o9 (rf b h)];exact b,i.ext (.laid h)⟩
def nk.not_in(c:nk K H XV μ O)(h:H p=Jf):p∉XV/\p∉μ:=by refine⟨λm=>c.ht p m h,λm=>?_⟩;obtain⟨k,b,e⟩:=c8.mp m;obtain⟨d,f,_,a,_⟩:=c.at_ k p (by rw[al];exact⟨b,e⟩);rw[h] at a;cases a
def Y2.newL(c:nk K H XV μ O)(h:H p=Jf)(q:np K H XV μ ds vs):Y2 K (upd H p (.lst vs)) XV μ (.lst ds) (.ref p):=by exact⟨p,vs,rfl,.inl ⟨.inl qP,c.not_in h⟩,q.ext (.laid h)⟩
def Y2.newT(c:nk K H XV μ O)(h:H p=Jf)(q:np K H XV μ ds vs):Y2 K (upd H p (.tup vs)) XV μ (.tup ds) (.ref p):=by exact⟨p,vs,rfl,.inl ⟨.inl qP,c.not_in h⟩,q.ext (.laid h)⟩
def Ext.cell(h:H p=Jf):Ext H μ (upd H p o) (μ++[p]):=
 ⟨⟨[p],rfl⟩,λb u e _ _=>by rw[o9 (rf e h)];exact e,λb m=>by
  rcases aK.mp m with m|m
  ·exact .inl m
  ·have:b=p:=⇑m
   subst this;exact .inr h,xq,λ_ t=>t.upd (.inl h)⟩
def nk.cell(c:nk K H XV μ O)(h:H p=Jf)(q:np K H XV μ ds vs):nk K (upd H p (.lst vs)) XV (μ++[p]) (O++[ds]):=by
 have d:=c.not_in h;refine⟨by simp[c.len],?_,λa m=>?_,λa m=>?_,λk a e=>?_⟩
 ·rw[e8];refine⟨c.nd,by simp,λa i b j=>?_⟩;have:b=p:=⇑j
  subst this;rintro rfl;exact d.2 i
 ·rcases aK.mp m with m|m
  ·exact c.nh a m
  ·have:a=p:=⇑m
   subst this;exact d.1
 ·by_cases q:a=p
  ·subst q;rw[qP];simp
  ·rw[o9 q];exact c.ht a m
 ·by_cases f:k<μ.length
  ·rw[aF f] at e;obtain⟨l,n,o,g,r⟩:=c.at_ k a e;exact⟨l,n,by rw[aF (by rw[<- c.len];exact f)];exact o,by rw[o9 (rf g h)];exact g,r.ext (.cell h)⟩
  ·rw[bb 'o'] at e;have s:k-μ.length=0:=by
    have:=(al.mp e).1;simp at this;lia
   rw[s] at e;simp at e;subst e;refine⟨ds,vs,?_,qP,q.ext (.cell h)⟩;have:k=O.length:=by have:=c.len;lia
   subst this;simp
def Ext.put(h:p∈μ)(a:∃vs,H p=Jd (.lst vs)):Ext H μ (upd H p o) μ:=
 ⟨⟨[],by simp⟩,λb u e n _=>by rw[o9 (by rintro rfl;exact n h)];exact e,λ_ m=>.inl m,xq,λ_ t=>t.upd (.inr a)⟩
def nk.put(c:nk K H XV μ O)(b:μ[k]?=Jd p)(q:np K H XV μ ds vs):nk K (upd H p (.lst vs)) XV μ (O.set k ds):=by
 have g:=aN b;have h:∃vs,H p=Jd (.lst vs):=let ⟨_,vs,_,d,_⟩:=c.at_ k p b;⟨vs,d⟩;refine⟨by simp[c.len],c.nd,c.nh,λa m=>?_,λj a e=>?_⟩
 ·by_cases q:a=p
  ·subst q;rw[qP];simp
  ·rw[o9 q];exact c.ht a m
 ·by_cases f:j=k
  ·subst f;rw[b] at e;cases e;refine⟨ds,vs,?_,qP,q.ext (.put g h)⟩;rw[bq (by rw[<- c.len];exact(al.mp b).1)]
  ·have l:a≠p:=by
    rintro rfl;obtain⟨i,n⟩:=al.mp e;obtain⟨d,o⟩:=al.mp b;exact f ((jw c.nd).mp (n.trans o.symm))
   obtain⟨r,s,i,d,t⟩:=c.at_ j a e;exact⟨r,s,by rw[bj (bI f)];exact i,by rw[o9 l];exact d,t.ext (.put g h)⟩
end
section
variable(Ex:Nat->Hp->Prop)(K:ah)
def post{α β:Type}(rel:Hp->List ab->α->β->Prop)(H:Hp)(XV μ:List ab)(r:R α)(Q:β->Hp->Prop):Prop:=match r with
 |.ok d O'=>∀v H' c_,Ext H μ H' c_->nk K H' XV c_ O'->rel H' c_ d v->Q v H'
 |.exc c O'=>∀H' c_,Ext H μ H' c_->nk K H' XV c_ O'->Ex c H'
 |.bad=>False
abbrev qC(H:Hp)(XV μ:List ab)(r:R D)(Q:VK):Prop:=post Ex K (λH' c_ d v=>Y2 K H' XV c_ d v) H XV μ r Q
abbrev xk(H:Hp)(XV μ:List ab)(r:R Bool)(Q:Bool->Hp->Prop):Prop:=post Ex K (λ_ _ d v=>d=v) H XV μ r Q
abbrev OZ(H:Hp)(XV μ:List ab)(r:R (List D))(Q:List V->Hp->Prop):Prop:=post Ex K (λH' c_ d v=>np K H' XV c_ d v) H XV μ r Q
def rd(t:DE):TE:=λb_ H Q=>∃XV μ σ O,nq K H XV μ σ b_/\nk K H XV μ O/\qC Ex K H XV μ (t σ O) Q
def vK(t:DT):TT:=λb_ H Q=>∃XV μ σ O,nq K H XV μ σ b_/\nk K H XV μ O/\xk Ex K H XV μ (t σ O) Q
def sY(t:DA):TA:=λb_ H Q=>∃XV μ σ O,nq K H XV μ σ b_/\nk K H XV μ O/\OZ Ex K H XV μ (t σ O) Q
end
section
variable{Ex:Nat->Hp->Prop}{K:ah}{H H1:Hp}{XV μ e_:List ab}
def post.ext{α β:Type}{a:Hp->List ab->α->β->Prop}{r:R α}{Q:β->Hp->Prop}(h:post Ex K a H XV μ r Q)(e:Ext H μ H1 e_):post Ex K a H1 XV e_ r Q:=by
 cases r with
 |ok d O'=>exact λv b f g c q=>h v b f (e.trans g) c q
 |exc c O'=>exact λb f g c=>h b f (e.trans g) c
 |bad=>exact h
def post.bnd{α β b f:Type}{a:Hp->List ab->α->β->Prop}{g:Hp->List ab->b->f->Prop}{r:R α}{k:α->Ow->R b}{Q:f->Hp->Prop}{Q1:β->Hp->Prop}
  (h:post Ex K g H XV μ (r.bnd k) Q)
  (i:∀d O1 v H1 e_,Ext H μ H1 e_->nk K H1 XV e_ O1->a H1 e_ d v->post Ex K g H1 XV e_ (k d O1) Q->Q1 v H1):post Ex K a H XV μ r Q1:=by
 cases r with
 |ok d O'=>exact λv j l e c q=>i d O' v j l e c q (post.ext (h) e)
 |exc c O'=>exact h
 |bad=>exact h
def post.ok{α β:Type}{a:Hp->List ab->α->β->Prop}{d:α}{O:Ow}{Q:β->Hp->Prop}{v:β}(h:post Ex K a H XV μ (.ok d O) Q){H':Hp}{b:List ab}(e:Ext H μ H' b)(c:nk K H' XV b O)(q:a H' b d v):Q v H':=h v H' b e c q
def post.here{α β:Type}{a:Hp->List ab->α->β->Prop}{d:α}{O:Ow}{Q:β->Hp->Prop}{v:β}(h:post Ex K a H XV μ (.ok d O) Q)(c:nk K H XV μ O)(q:a H μ d v):Q v H:=h v H μ .refl c q
end
structure PD(X:Cx)(Ex:Nat->Hp->Prop)(e:aS)(t:DE):Prop where
 out:PE X e (rd Ex X.K t)
structure qM(X:Cx)(Ex:Nat->Hp->Prop)(e:aS)(t:DT):Prop where
 out:PT X e (vK Ex X.K t)
structure sE(X:Cx)(Ex:Nat->Hp->Prop)(es:List aS)(t:DA):Prop where
 out:PA X es (sY Ex X.K t)
def PE.imp(h:PE X e t)(f:∀σ H Q,t' σ H Q->t σ H Q):PE X e t':=λa s σ H Q I q=>h a s σ H Q I (f σ H Q q)
def PT.imp(h:PT X e t)(f:∀σ H Q,t' σ H Q->t σ H Q):PT X e t':=λa s σ H Q I q=>h a s σ H Q I (f σ H Q q)
def PA.imp(h:PA X e t)(f:∀σ H Q,t' σ H Q->t σ H Q):PA X e t':=λb a s σ H Q I q=>h b a s σ H Q I (f σ H Q q)
def PW.imp(h:PW X e t)(f:∀σ H Q,t' σ H Q->t σ H Q):PW X e t':=λw a s σ H Q I q=>h w a s σ H Q I (f σ H Q q)
end DL
namespace DL
open PySem L2
def pG(i:Nat):DE:=λσ O=>match σ[i]? with
 |some (Jd d)=>.ok d O
 |_=>.bad
def dC(d:D):DE:=λ_ O=>.ok d O
section
variable{X:Cx}{Ex:Nat->Hp->Prop}{pos:Pos}{a b c:aS}{ta tb tc:DE}
def qN{e:aS}{t:TE}{t':DE}(h:PE X e t)(f:∀XV d σ O g H Q,nq X.K H XV d σ g->nk X.K H XV d O->qC Ex X.K H XV d (t' σ O) Q->t g H Q):PD X Ex e t':=
 ⟨PE.imp h λg H Q ⟨XV,d,σ,O,i,j,q⟩=>f XV d σ O g H Q i j q⟩
def G4{e:aS}{t:TT}{t':DT}(h:PT X e t)(f:∀XV d σ O g H Q,nq X.K H XV d σ g->nk X.K H XV d O->xk Ex X.K H XV d (t' σ O) Q->t g H Q):qM X Ex e t':=
 ⟨PT.imp h λg H Q ⟨XV,d,σ,O,i,j,q⟩=>f XV d σ O g H Q i j q⟩
def P5(h:PA X e t)(f:∀XV d σ O g H Q,nq X.K H XV d σ g->nk X.K H XV d O->OZ Ex X.K H XV d (t' σ O) Q->t g H Q):sE X Ex e t':=
 ⟨PA.imp h λg H Q ⟨XV,d,σ,O,i,j,q⟩=>f XV d σ O g H Q i j q⟩
def rd.go{j l:Type}{m:Hp->List ab->j->l->Prop}{t:DE}{XV h:List ab}{σ:Sg}{O:Ow}{i:St}{H:Hp}{Q1:VK}{k:D->Ow->R j}{Q:l->Hp->Prop}(n:nq X.K H XV h σ i)(o:nk X.K H XV h O)
  (q:post Ex X.K m H XV h ((t σ O).bnd k) Q)
  (f:∀d O1 v e g,nq X.K e XV g σ i->Ext H h e g->nk X.K e XV g O1->Y2 X.K e XV g d v->post Ex X.K m e XV g (k d O1) Q->Q1 v e):rd Ex X.K t i H Q1:=
 ⟨XV,h,σ,O,n,o,post.bnd q λd O1 v e g x c r p=>f d O1 v e g (n.ext x) x c r p⟩
def vK.go{j l:Type}{m:Hp->List ab->j->l->Prop}{t:DT}{XV h:List ab}{σ:Sg}{O:Ow}{i:St}{H:Hp}{Q1:Bool->Hp->Prop}{k:Bool->Ow->R j}{Q:l->Hp->Prop}(n:nq X.K H XV h σ i)(o:nk X.K H XV h O)
  (q:post Ex X.K m H XV h ((t σ O).bnd k) Q)
  (f:∀v O1 e g,nq X.K e XV g σ i->Ext H h e g->nk X.K e XV g O1->post Ex X.K m e XV g (k v O1) Q->Q1 v e):vK Ex X.K t i H Q1:=
 ⟨XV,h,σ,O,n,o,post.bnd q λd O1 v e g x c r p=>by
  subst r;exact f d O1 e g (n.ext x) x c p⟩
def sY.go{j l:Type}{m:Hp->List ab->j->l->Prop}{t:DA}{XV h:List ab}{σ:Sg}{O:Ow}{i:St}{H:Hp}{Q1:List V->Hp->Prop}{k:List D->Ow->R j}{Q:l->Hp->Prop}(n:nq X.K H XV h σ i)(o:nk X.K H XV h O)
  (q:post Ex X.K m H XV h ((t σ O).bnd k) Q)
  (f:∀d O1 v e g,nq X.K e XV g σ i->Ext H h e g->nk X.K e XV g O1->np X.K e XV g d v->post Ex X.K m e XV g (k d O1) Q->Q1 v e):sY Ex X.K t i H Q1:=
 ⟨XV,h,σ,O,n,o,post.bnd q λd O1 v e g x c r p=>f d O1 v e g (n.ext x) x c r p⟩
def Yn(f:X.N[i]?=Jd x)(g:uA X.env.scope x)(e:rG x:=by decide)(h:(x==("__classdict__":az))=Jh:=by decide):PD X Ex (.Name x pos) (pG i):=
 qN (J_ f g e h) λj o p O r H Q k l q=>by
  unfold pG at q;split at q
  ·rename_i d e;obtain⟨v,m,n⟩:=k.at_ i d e;exact⟨v,m,post.here q l n⟩
  ·exact aj q
def Yk:PD X Ex (.Constant (.int i) j pos) (dC (.int i)):=qN Y0 λd f g O h H Q k e q=>post.here q e (by unfold Y2;rfl)
def W7:PD X Ex (.Constant (.bool i) j pos) (dC (.bl i)):=qN Ws λd f g O h H Q k e q=>post.here q e (by unfold Y2;rfl)
def YB:PD X Ex (.Constant .none j pos) (dC .non):=qN Yy λd f g O h H Q i e q=>post.here q e (by unfold Y2;rfl)
def Y3(cs:g_)(h:x=⟨cs.toArray⟩):PD X Ex (.Constant (.str x) j pos) (dC (.str cs)):=qN XR λd f g O i H Q k e q=>post.here q e (by unfold Y2;rw[h])
def zfh(cs:g_)(d:Gl X x)(e:X.mg x=Jd (.str y t))(h:y=⟨cs.toArray⟩)(f:rG x:=by decide):PD X Ex (.Name x pos) (dC (.str cs)):=
 qN (Ei (v:=.str y) d e ⟨t,rfl⟩ f) λg j k O l H Q m i q=>post.here q i (by unfold Y2;rw[h])
def h_(f:Ow->D->D->R D)(ta tb:DE):DE:=λσ O=>(ta σ O).bnd λx O1=>(tb σ O1).bnd λy O2=>f O2 x y
def rp(X:Cx)(Ex:Nat->Hp->Prop)(r:R2)(f:Ow->D->D->R D):Prop:=∀(H:Hp)(XV μ:List ab)(O:Ow)(x y:D)(v w:V)(Q:VK),nk X.K H XV μ O->Y2 X.K H XV μ x v->Y2 X.K H XV μ y w->qC Ex X.K H XV μ (f O x y) Q->r v w H Q
def GZ{r:R2}{f:Ow->D->D->R D}(h:rp X Ex r f)(XV d:List ab)(σ:Sg)(O:Ow)(e:St)(H:Hp)(Q:VK)(g:nq X.K H XV d σ e)(i:nk X.K H XV d O)(q:qC Ex X.K H XV d (h_ f ta tb σ O) Q):
  E6 r (rd Ex X.K ta) (rd Ex X.K tb) e H Q:=
 rd.go g i q λx A v B C j E k l m=>rd.go j k m λy n w o p F s t u z=>h o XV p n x y v w Q t (l.ext s) u z
def J4(d:pZ X (dZ op) r)(h:rp X Ex r f)(e:PD X Ex a ta)(g:PD X Ex b tb):PD X Ex (.BinOp a op b pos) (h_ f ta tb):=
 qN (Wz d e.out g.out) (GZ h)
def Ka(d:pZ X (bX op) r)(h:rp X Ex r f)(e:PD X Ex a ta)(g:PD X Ex b tb)(i:behindInMarks op b=Jh):PD X Ex (.Compare a [op] [b] pos) (h_ f ta tb):=
 qN (ziW d e.out g.out i) (GZ h)
def o8(t:DE):DT:=λσ O=>(t σ O).bnd λx O1=>match x with
 |.bl k=>.ok k O1
 |_=>.bad
def RV(f:∀XV e σ O g H Q,nq X.K H XV e σ g->nk X.K H XV e O->qC Ex X.K H XV e (td σ O) Q->t g H Q)(XV e:List ab)(σ:Sg)(O:Ow)(g:St)(H:Hp)(Q:Bool->Hp->Prop)
  (h:nq X.K H XV e σ g) (i:nk X.K H XV e O) (q:xk Ex X.K H XV e (o8 td σ O) Q):OK t g H Q:=by
 refine f XV e σ O g H _ h i (post.bnd q λd j v l m x c r p=>?_);cases d with
 | bl k=>
  exact⟨k,r,post.here p c rfl⟩
 |_=>exact aj p
def zq(d:pZ X (bX op) r)(h:rp X Ex r f)(e:PD X Ex a ta)(g:PD X Ex b tb)(i:behindInMarks op b=Jh):qM X Ex (.Compare a [op] [b] pos) (o8 (h_ f ta tb)):=
 G4 (zhJ d e.out g.out i) (RV (GZ h))
noncomputable def DN(O:Ow):D->R Bool
 |.non=>.ok Jh O
 |.bl b=>.ok b O
 |.int i=>.ok (i !=0) O
 |.str cs=>if cs.length<=4000000 then .ok (!cs.isEmpty) O else .bad
 |.lst ds=>.ok (!ds.isEmpty) O
 |.tup ds=>.ok (!ds.isEmpty) O
 | .own k=>match O[k]? with
  |some ds=>.ok (!ds.isEmpty) O
  |none=>.bad
 |.dct=>.bad
 |.exn _=>.bad
 |.tab _=>.bad
 |.map _ _=>.bad
 |.adr _=>.bad
def qk(t:DE):DT:=λσ O=>(t σ O).bnd λx O1=>DN O1 x
def xN{n:Nat}(h:n<=4000000):n<=KM:=aG h 's'
def Mf{K:ah}{H:Hp}{XV d:List ab}{ds:List D}{vs:List V}(h:np K H XV d ds vs):(!ds.isEmpty) = !vs.isEmpty:=by have e:=h.length;cases ds<;>cases vs<;>simp_all
def Zx(u:PD X Ex a ta)(w:∀t,isTrue a X.env t=(do let v <- t;standAt a.pos;holding [v] (truthy v))):qM X Ex a (qk ta):=
 G4 (zfl u.out w) λf E F O G H Q y z q=>rd.go y z q λd h v i j I x c r p=>by
  cases d with
  |non=>unfold Y2 at r;subst r;exact⟨_,rfl,post.here p c rfl⟩
  |bl b=>unfold Y2 at r;subst r;exact⟨_,rfl,post.here p c rfl⟩
  |int b=>unfold Y2 at r;subst r;exact⟨_,rfl,post.here p c rfl⟩
  | str cs=>
   unfold Y2 at r;subst r;by_cases o:cs.length<=4000000
   ·have s:xk Ex X.K i f j (.ok (!cs.isEmpty) h) Q:=by
     have g:xk Ex X.K i f j (if cs.length<=4000000 then .ok (!cs.isEmpty) h else .bad) Q:=p;rw[Ji o] at g;exact g
    refine⟨_,⟨?_,rfl⟩,?_⟩
    ·show cs.toArray.size<=_;rw[aJ];exact xN o
    ·have e:(((⟨cs.toArray⟩:az).length:Int) !=0) = !cs.isEmpty:=by
      show((cs.toArray.size:Int) !=0)=_;cases cs<;>simp[bne];lia
     rw[e];exact post.here s c rfl
   ·have g:xk Ex X.K i f j (if cs.length<=4000000 then .ok (!cs.isEmpty) h else .bad) Q:=p;rw[Jk o] at g;exact aj g
  | lst m=>
   obtain⟨a,n,rfl,l,q⟩:=r;exact⟨_,.inl ⟨n,l.sq,rfl⟩,by rw[<- Mf q];exact post.here p c rfl⟩
  | tup m=>
   obtain⟨a,n,rfl,l,q⟩:=r;exact⟨_,.inr (.inl ⟨n,l.sq,rfl⟩),by rw[<- Mf q];exact post.here p c rfl⟩
  | own k=>
   obtain⟨a,rfl,A⟩:=r;obtain⟨m,n,B,C,D⟩:=c.at_ k a A;have s:xk Ex X.K i f j (.ok (!m.isEmpty) h) Q:=by
    have g:xk Ex X.K i f j (match h[k]? with|some m=>.ok (!m.isEmpty) h|none=>.bad) Q:=p;rw[B] at g;exact g
   exact⟨_,.inl ⟨n,.of C,rfl⟩,by rw[<- Mf D];exact post.here s c rfl⟩
  |dct=>exact aj p
  |exn _=>exact aj p
  |tab _=>exact aj p
  |map _ _=>exact aj p
  |adr _=>exact aj p
noncomputable def fI(g:Int->Int->Option D):Ow->D->D->R D:=λO x y=>match x,y with
 | .int i,.int j=>match g i j with
  |some d=>.ok d O
  |none=>.bad
 |_,_=>.bad
def En(h:∀i j d,g i j=Jd d->C i j/\∀K H XV e,Y2 K H XV e d (gv i j)):rp X Ex (rI C gv) (fI g):=by
 intro H XV e O x y v w Q c f k q;unfold fI at q;split at q
 ·rename_i i j;subst f;subst k;split at q
  ·rename_i d l;obtain⟨m,n⟩:=h i j d l;exact⟨i,j,rfl,rfl,m,post.here q c (n _ _ _ _)⟩
  ·exact aj q
 ·exact aj q
def Eu(h:∀i j d,g i j=Jd d->∀K H XV e,Y2 K H XV e d (gv i j)):rp X Ex (uD gv) (fI g):=by
 intro H XV e O x y v w Q c f k q;unfold fI at q;split at q
 ·rename_i i j;subst f;subst k;split at q
  ·rename_i d l;exact⟨i,j,rfl,rfl,post.here q c (h i j d l _ _ _ _)⟩
  ·exact aj q
 ·exact aj q
def rD:Y2 K H XV μ (.int i) (.int i):=by unfold Y2;rfl
def tV{K H XV μ}{i:Bool}:Y2 K H XV μ (.bl i) (.bl i):=by unfold Y2;rfl
def Hn:Y2 K H XV μ .non .non:=by unfold Y2;rfl
def KQ:Y2 K H XV μ (.str cs) (.str ⟨cs.toArray⟩):=by unfold Y2;rfl
def gB(p:Int->Int->Bool):Int->Int->Option D:=λi j=>Jd (.bl (p i j))
noncomputable def gI(p:Int->Int->Int):Int->Int->Option D:=λi j=>Jd (.int (p i j))
def u9:Int->Int->Option D:=gI λi j=>i-j
noncomputable def sT:Int->Int->Option D:=λi j=>if (-1000000000000000<i/\i<1000000000000000)\/(-1000000000000000<j/\j<1000000000000000) then Jd (.int (i*j)) else Jf
def v_:Int->Int->Option D:=λi j=>if 0<j/\j<1073741824 then Jd (.int (i/j)) else Jf
def sU:Int->Int->Option D:=λi j=>if 0<j then Jd (.int (i%j)) else Jf
def DR:Int->Int->Option D:=λi j=>if 0<=j/\j<=1000000/\i.natAbs<2 ^ 64 then Jd (.int (i ^ j.toNat)) else Jf
def A3:Int->Int->Option D:=λi j=>if 0<=j/\j<=1000000/\i.natAbs<2 ^ 64 then Jd (.int (i*2 ^ j.toNat)) else Jf
def zi1:rp X Ex (uD λi j=>.int (i-j)) (fI u9):=Eu λi j d h _ _ _ _=>by cases h;exact rD
def ziL:rp X Ex (rI oy λi j=>.int (i*j)) (fI sT):=En λi j d h=>by
 unfold sT at h;split at h
 ·rename_i e;cases h;exact⟨e.imp (λz=>⟨by lia,by lia⟩) λz=>⟨by lia,by lia⟩,λ_ _ _ _=>rD⟩
 ·cases h
def Zi:rp X Ex (rI Oh λi j=>.int (i/j)) (fI v_):=En λi j d h=>by
 unfold v_ at h;split at h
 ·rename_i e;cases h;exact⟨e,λ_ _ _ _=>rD⟩
 ·cases h
def zin:rp X Ex (rI (λ_ j=>0<j) λi j=>.int (i%j)) (fI sU):=En λi j d h=>by
 unfold sU at h;split at h
 ·rename_i e;cases h;exact⟨e,λ_ _ _ _=>rD⟩
 ·cases h
def zhX:rp X Ex (rI GF λi j=>.int (i ^ j.toNat)) (fI DR):=En λi j d h=>by
 unfold DR at h;split at h
 ·rename_i e;cases h;exact⟨e,λ_ _ _ _=>rD⟩
 ·cases h
def Y9:rp X Ex (rI GF λi j=>.int (i*2 ^ j.toNat)) (fI A3):=En λi j d h=>by
 unfold A3 at h;split at h
 ·rename_i e;cases h;exact⟨e,λ_ _ _ _=>rD⟩
 ·cases h
def vV:Ow->D->D->R D:=fI (gB λi j=>decide (i<j))
def yL:Ow->D->D->R D:=fI (gB λi j=>decide (i<=j))
def Ce:Ow->D->D->R D:=fI (gB λi j=>decide (j<=i))
def Km:rp X Ex (uD λi j=>.bl (decide (i<j))) vV:=Eu λi j d h _ _ _ _=>by cases h;exact tV
def PL:rp X Ex (uD λi j=>.bl (decide (i<=j))) yL:=Eu λi j d h _ _ _ _=>by cases h;exact tV
def Po:rp X Ex (uD λi j=>.bl (decide (j<=i))) Ce:=Eu λi j d h _ _ _ _=>by cases h;exact tV
def Ox:D->Bool
 |.non=>Jg
 |_=>Jh
def DU:Ow->D->D->R D:=λO x y=>match y with
 |.non=>.ok (.bl (Ox x)) O
 |_=>.bad
def Z7(h:Y2 K H XV μ x v):decide (v=.non)=Ox x:=by
 cases x with
 |non=>unfold Y2 at h;subst h;rfl
 |bl _=>unfold Y2 at h;subst h;rfl
 |int _=>unfold Y2 at h;subst h;rfl
 |str _=>unfold Y2 at h;subst h;rfl
 |lst _=>unfold Y2 at h;obtain⟨_,_,rfl,_⟩:=h;rfl
 |tup _=>unfold Y2 at h;obtain⟨_,_,rfl,_⟩:=h;rfl
 |own _=>unfold Y2 at h;obtain⟨_,rfl,_⟩:=h;rfl
 |dct=>unfold Y2 at h;obtain⟨_,rfl,_⟩:=h;rfl
 |exn _=>unfold Y2 at h;obtain⟨_,_,rfl,_⟩:=h;rfl
 |tab _=>unfold Y2 at h;obtain⟨rfl,_⟩:=h;rfl
 |map _ _=>unfold Y2 at h;obtain⟨_,_,rfl,_⟩:=h;rfl
 |adr _=>unfold Y2 at h;subst h;rfl
def Qk:rp X Ex (λx y H Q=>y=.non/\Q (.bl (decide (x=.non))) H) DU:=by
 intro H e g O x y v w Q c f d q;cases y with
 | non=>
  unfold Y2 at d;subst d;refine⟨rfl,?_⟩;rw[Z7 f];exact post.here (q) c tV
 |_=>exact aj q
def xD(t u:DE):DE:=λσ O=>(t σ O).bnd λx O1=>match x with
 |.bl Jg=>u σ O1
 |.bl Jh=>.ok (.bl Jh) O1
 |_=>.bad
def NP(t u:DE):DE:=λσ O=>(t σ O).bnd λx O1=>match x with
 |.bl Jg=>.ok (.bl Jg) O1
 |.bl Jh=>u σ O1
 |_=>.bad
def DJ(t:DE):DE:=λσ O=>(t σ O).bnd λx O1=>match x with
 |.bl b=>.ok (.bl (!b)) O1
 |_=>.bad
def yn(t u:DT):DT:=λσ O=>(t σ O).bnd λx O1=>if x=Jg then u σ O1 else .ok Jh O1
def ud(t u:DT):DT:=λσ O=>(t σ O).bnd λx O1=>if x=Jg then .ok Jg O1 else u σ O1
def qS(t:DT):DT:=λσ O=>(t σ O).bnd λx O1=>.ok (!x) O1
def AS(t:DT)(u v:DE):DE:=λσ O=>(t σ O).bnd λx O1=>if x=Jg then u σ O1 else v σ O1
def Y7(d:PD X Ex a ta):PD X Ex (.BoolOp op [a] pos) ta:=⟨XG d.out⟩
def Ye{e:List aS}(g:PD X Ex a ta)(h:PD X Ex (.BoolOp .And (b::e) pos) tb):PD X Ex (.BoolOp .And (a::b::e) pos) (xD ta tb):=
 qN (XM g.out h.out) λf s i O t H Q j l q=>rd.go j l q λd m v u n o x c r p=>by
  cases d with
  | bl k=>
   unfold Y2 at r;subst r;refine⟨k,rfl,?_⟩;cases k with
   |true=>rw[Ji rfl];exact⟨f,n,i,m,o,c,p⟩
   |false=>rw[Jk bU];exact post.here p c tV
  |_=>exact aj p
def Ww{e:List aS}(g:PD X Ex a ta)(h:PD X Ex (.BoolOp .Or (b::e) pos) tb):PD X Ex (.BoolOp .Or (a::b::e) pos) (NP ta tb):=
 qN (WQ g.out h.out) λf s i O t H Q j l q=>rd.go j l q λd m v u n o x c r p=>by
  cases d with
  | bl k=>
   unfold Y2 at r;subst r;refine⟨k,rfl,?_⟩;cases k with
   |true=>rw[Ji rfl];exact post.here p c tV
   |false=>rw[Jk bU];exact⟨f,n,i,m,o,c,p⟩
  |_=>exact aj p
def Yo(e:PD X Ex a ta):PD X Ex (.UnaryOp .Not a pos) (DJ ta):=
 qN (X8 e.out) λf i j O l H Q g h q=>rd.go g h q λd m v n o s x c r p=>by
  cases d with
  |bl k=>unfold Y2 at r;subst r;exact⟨k,rfl,post.here p c tV⟩
  |_=>exact aj p
structure vm(X:Cx)(Ex:Nat->Hp->Prop)(e:aS)(t:DT):Prop where
 out:PW X e (vK Ex X.K t)
def vm.pt(h:vm X Ex e t):qM X Ex e t:=⟨L2.PW.pt h.out⟩
def Ph{e:aS}{t:TT}{t':DT}(h:PW X e t)(f:∀XV d σ O g H Q,nq X.K H XV d σ g->nk X.K H XV d O->xk Ex X.K H XV d (t' σ O) Q->t g H Q):vm X Ex e t':=
 ⟨PW.imp h λg H Q ⟨XV,d,σ,O,i,j,q⟩=>f XV d σ O g H Q i j q⟩
def ZF{d:List aS}{f g:DT}(h:qM X Ex a f)(i:vm X Ex (.BoolOp .And (b::d) pos) g):vm X Ex (.BoolOp .And (a::b::d) pos) (yn f g):=
 Ph (Yl h.out i.out) λe s j O t H Q l m q=>vK.go l m q λk n u o r x c p=>by
  cases k with
  |true=>rw[Ji rfl];exact⟨e,o,j,n,r,c,p⟩
  |false=>rw[Jk bU];exact post.here p c rfl
def Yd{d:List aS}{f g:DT}(h:qM X Ex a f)(i:vm X Ex (.BoolOp .Or (b::d) pos) g):vm X Ex (.BoolOp .Or (a::b::d) pos) (ud f g):=
 Ph (W1 h.out i.out) λe s j O t H Q l m q=>vK.go l m q λk n u o r x c p=>by
  cases k with
  |true=>rw[Ji rfl];exact post.here p c rfl
  |false=>rw[Jk bU];exact⟨e,o,j,n,r,c,p⟩
def zfY(d:qM X Ex a tA):vm X Ex (.BoolOp .And [a] pos) tA:=⟨ziU d.out⟩
def ZJ(d:qM X Ex a tA):vm X Ex (.BoolOp .Or [a] pos) tA:=⟨Xr d.out⟩
def ziB{d:DT}(e:qM X Ex a d):qM X Ex (.UnaryOp .Not a pos) (qS d):=
 G4 (Yj e.out) λf i j O l H Q g h q=>vK.go g h q λk m n o r x c p=>post.here p c rfl
def zgg{e:DT}(j:qM X Ex c e)(l:PD X Ex a ta)(m:PD X Ex b tb):PD X Ex (.IfExp c a b pos) (AS e ta tb):=
 qN (zf3 j.out l.out m.out) λd r f O s H Q n o q=>vK.go n o q λk g t h i x c p=>by
  cases k with
  |true=>rw[Ji rfl];exact⟨d,h,f,g,i,c,p⟩
  |false=>rw[Jk bU];exact⟨d,h,f,g,i,c,p⟩
noncomputable def CP(f g:Ow->D->D->R D)(ta tb tc:DE):DE:=λσ O=>(ta σ O).bnd λx O1=>(tb σ O1).bnd λy O2=>(f O2 x y).bnd λz O3=>match z with
 |.bl Jg=>(tc σ O3).bnd λw O4=>g O4 y w
 |.bl Jh=>.ok (.bl Jh) O3
 |_=>.bad
def zfI{e i:CmpOp}{r j:R2}{f g:Ow->D->D->R D}(s:pZ X (bX e) r)(h:rp X Ex r f)(t:pZ X (bX i) j)(h':rp X Ex j g)(A:PD X Ex a ta)(B:PD X Ex b tb)(C:PD X Ex c tc)
  (E:lastMarks [e,i] [b,c]=Jh:=by with_unfolding_all rfl):PD X Ex (.Compare a [e,i] [b,c] pos) (CP f g ta tb tc):=
 qN (zgA s t A.out B.out C.out E) λd μ σ O b_ H Q F G q=>rd.go F G q λx O1 v H1 e_ I x2 J K L=>rd.go I J L λy M w N P S T U l V=>
  h N d P M x y v w _ U (K.ext T) l (post.bnd V λz O3 u H3 Ck m n o p=>by
   cases z with
   | bl k=>
    unfold Y2 at o;subst o;refine⟨k,rfl,?_⟩;cases k with
    |true=>rw[Ji rfl];exact rd.go (S.ext m) n p λW Y Z H4 VS e5 x5 c5 d5 q5=>h' H4 d VS Y y W w Z Q c5 ((l.ext m).ext x5) d5 q5
    |false=>rw[Jk bU];exact post.here p n tV
   |_=>exact aj p)
def f_:DA:=λ_ O=>.ok [] O
def a_(t:DE)(u:DA):DA:=λσ O=>(t σ O).bnd λx O1=>(u σ O1).bnd λxs O2=>.ok (x::xs) O2
def ZH:sE X Ex [] f_:=P5 G6 λd f g O h H Q i e q=>post.here q e .nil
def zg8{d:List aS}{t:DA}(e:PD X Ex a ta)(f:sE X Ex d t)(g:aP (a::d) X.env=(Jh,eval a X.env)::aP d X.env:=by rfl):sE X Ex (a::d) (a_ ta t):=
 P5 (Ej e.out f.out g) λh u z O A H Q i j q=>rd.go i j q λx B v C D k E l m n=>sY.go k l n λy F w G I J o p r s=>post.here s p (.cons (m.ext o) r)
def uc(t:DA):DE:=λσ O=>(t σ O).bnd λxs O1=>if xs.length<=4000000 then .ok (.tup xs) O1 else .bad
def uK(t:DA):DE:=λσ O=>(t σ O).bnd λxs O1=>if xs.length<=4000000 then .ok (.lst xs) O1 else .bad
def ym(t:DA):DE:=λσ O=>(t σ O).bnd λxs O1=>if xs.length<=4000000 then .ok (.own O1.length) (O1++[xs]) else .bad
def post.iteN{α β:Type}{K:ah}{H:Hp}{XV e:List ab}{d:Hp->List ab->α->β->Prop}{Q:β->Hp->Prop}{b:Bool}{r:R α}(h:post Ex K d H XV e (if b=Jg then .bad else r) Q):b=Jh/\post Ex K d H XV e r Q:=by
 cases b with
 |true=>exact aj h
 |false=>exact⟨rfl,h⟩
def post.ite{α β:Type}{K:ah}{H:Hp}{XV f:List ab}{d:Hp->List ab->α->β->Prop}{Q:β->Hp->Prop}{c:Prop}[Decidable c]{r:R α}(h:post Ex K d H XV f (if c then r else .bad) Q):c/\post Ex K d H XV f r Q:=by
 by_cases e:c
 ·rw[Ji e] at h;exact⟨e,h⟩
 ·rw[Jk e] at h;exact aj h
def YI(h:sE X Ex es t):PD X Ex (.Tuple es x1 pos) (uc t):=
 qN (YS h.out) λi m n O o H Q j k q=>sY.go j k q λr s u v w x y f g d=>by
  obtain⟨l,d⟩:=post.ite d;exact⟨by rw[<- g.length];exact xN l,λp e=>post.ok d (.laid e) (f.laid e) (Y2.newT f e g)⟩
def XJ(h:sE X Ex es t):PD X Ex (.List es pos) (uK t):=
 qN (PF h.out) λi m n O o H Q j k q=>sY.go j k q λr s u v w x y f g d=>by
  obtain⟨l,d⟩:=post.ite d;exact⟨by rw[<- g.length];exact xN l,λp e=>post.ok d (.laid e) (f.laid e) (Y2.newL f e g)⟩
def Ie(h:μ.length=n):Y2 K H XV (μ++[p]) (.own n) (.ref p):=by exact⟨p,rfl,by rw[<- h];simp⟩
def zi8(h:sE X Ex es t):PD X Ex (.List es pos) (ym t):=
 qN (PF h.out) λi m n O o H Q j k q=>sY.go j k q λr s u v w x y e f d=>by
  obtain⟨l,d⟩:=post.ite d;exact⟨by rw[<- f.length];exact xN l,λp g=>post.ok d (.cell g) (e.cell g f) (Ie e.len)⟩
end
inductive Src where
 |val (ds:List D)
 |own (k:Nat)
 |zip (a b:Src)
 deriving Inhabited
noncomputable def Src.get:Src->Ow->Nat->Option D
 |.val ds,_,i=>ds[i]?
 | .own k,O,i=>match O[k]? with
  |some ds=>ds[i]?
  |none=>Jf
 | .zip a b,O,i=>match a.get O i,b.get O i with
  |some x,Jd y=>Jd (.tup [x,y])
  |_,_=>Jf
noncomputable def Src.size:Src->Ow->Nat
 |.val ds,_=>ds.length
 | .own k,O=>match O[k]? with
  |some ds=>ds.length
  |none=>0
 |.zip a b,O=>min (a.size O) (b.size O)
abbrev DI:=Sg->Ow->R Src
def ny(K:ah)(J:It)(src:Src)(H:Hp)(XV μ:List ab):Prop:=∀oU H' c_ O',Mv H XV μ H' oU c_->nk K H' oU c_ O'->∀i,
 match src.get O' i with
 |some d=>J.go i H'/\∀x sG,J.yld i H' x sG->Ext H' c_ sG c_/\nk K sG oU c_ O'/\Y2 K sG oU c_ d x
 |none=>J.stop i H'
noncomputable def rdI(Ex:Nat->Hp->Prop)(K:ah)(t:DI):TI:=λb_ H Rr=>∃XV μ σ O,nq K H XV μ σ b_/\nk K H XV μ O/\post Ex K (λH' c_ s J=>ny K J s H' XV c_) H XV μ (t σ O) Rr
structure sD(X:Cx)(Ex:Nat->Hp->Prop)(tg iter:aS)(t:DI):Prop where
 out:PI X tg iter (rdI Ex X.K t)
def ny.mv(h:ny K J src H XV μ)(e:Mv H XV μ H1 vS e_):ny K J src H1 vS e_:=
 λa b d f m c=>h a b d f (e.trans m) c
def ny.val(l:LstAt K H XV μ a vs)(q:np K H XV μ ds vs):ny K (NU K a) (.val ds) H XV μ:=by
 intro j k n o m c i;have b:=(l.mv m).sq;have g:=q.mv m;show match ds[i]? with|some d=>_|none=>_
 cases e:ds[i]? with
 | some d=>
  obtain⟨v,f,h⟩:=g.get e;refine⟨⟨vs,v,b,f⟩,λx p y=>?_⟩;obtain⟨rfl,y⟩:=y;have:=y vs b;rw[f] at this;cases this;exact⟨.refl,c,h⟩
 | none=>
  refine⟨vs,b,?_⟩;have:=aY.mp e;rw[<- q.length];exact this
def ny.tup(l:TupAt K H XV μ a vs)(q:np K H XV μ ds vs):ny K (NS K a) (.val ds) H XV μ:=by
 intro j k n o m c i;have b:=(l.mv m).sq;have g:=q.mv m;show match ds[i]? with|some d=>_|none=>_
 cases e:ds[i]? with
 | some d=>
  obtain⟨v,f,h⟩:=g.get e;refine⟨⟨vs,v,b,f⟩,λx p y=>?_⟩;obtain⟨rfl,y⟩:=y;have:=y vs b;rw[f] at this;cases this;exact⟨.refl,c,h⟩
 | none=>
  refine⟨vs,b,?_⟩;have:=aY.mp e;rw[<- q.length];exact this
def ny.own(h:μ[k]?=Jd a):ny K (NU K a) (.own k) H XV μ:=by
 intro u n w o m c i;obtain⟨p,rfl⟩:=m.pre;have q:(μ++p)[k]?=Jd a:=by rw[aF (al.mp h).1];exact h
 obtain⟨b,f,r,s,j⟩:=c.at_ k a q;have g:qg K n a f:=.of s;show match (match o[k]? with|some b=>b[i]?|none=>Jf) with|some d=>_|none=>_
 rw[r];show match b[i]? with|some d=>_|none=>_
 cases e:b[i]? with
 | some d=>
  obtain⟨v,l,t⟩:=j.get e;refine⟨⟨f,v,g,l⟩,λx z y=>?_⟩;obtain⟨rfl,y⟩:=y;have:=y f g;rw[l] at this;cases this;exact⟨.refl,c,t⟩
 | none=>
  refine⟨f,g,?_⟩;have:=aY.mp e;rw[<- j.length];exact this
def NT(x:az):It:=⟨λi _=>i<x.cps.size,λi H v H'=>H'=H/\∃c,x.cps[i]?=Jd c/\v=.str ⟨#[c]⟩,λi _=>x.cps.size<=i⟩
def ny.str{K:ah}{H:Hp}{XV b:List ab}{cs:g_}:ny K (NT ⟨cs.toArray⟩) (.val (cs.map λc=>.str [c])) H XV b:=by
 intro h j k l m c i;show match (cs.map λc=>D.str [c])[i]? with|some d=>_|none=>_
 rw[bd];cases e:cs[i]? with
 | some d=>
  have f:=(al.mp e).1;refine⟨by show i<cs.toArray.size;simpa using f,λx n y=>?_⟩;obtain⟨rfl,z,g,rfl⟩:=y;have a:=g;rw[List.getElem?_toArray,e] at a;cases a;refine⟨.refl,c,?_⟩;rfl
 | none=>
  have:=aY.mp e;show cs.toArray.size<=i;simpa using this
def ny.rng:ny K (Jw lo n) (.val ((aM n).map λi=>.int (lo+(i:Nat)))) H XV μ:=by
 intro b e f g m c i;show match ((aM n).map λi=>D.int (lo+(i:Nat)))[i]? with|some d=>_|none=>_
 rw[bd];by_cases a:i<n
 ·rw[er a];refine⟨a,λx h y=>?_⟩;obtain⟨rfl,rfl⟩:=y;exact⟨.refl,c,rD⟩
 ·rw[aY.mpr ⇑a];exact Nat.not_lt.mp a
def zfp(x:az)(t:Tok)(it:ab):v9 P w K tg (NT x) [it] it (λi h=>h.IsStrIter it (strIterType x) x t i) where
 mem:=by simp
 obj:=λi h a b j=>by
  have e:b=it:=⇑j
  subst e;obtain⟨o,e,c,d⟩:=a;exact⟨o,e,λv z=>by rw[d] at z;cases z⟩
 keep:=λi h f a k=>by
  obtain⟨o,e,c,d⟩:=a;exact⟨o,k it 'd' o e,c,d⟩
 item:=by
  intro X R S T G i g s J H E I p a L;subst R S T;obtain⟨q,r,W,B,C,D⟩:=p it 'd';obtain⟨U,l⟩:∃c,x.cps[i]?=Jd c:=⟨_,dk (L)⟩;have M:∀(F:String),(["enumerate", "zip", "dict_itemiterator", "dict_reverseitemiterator", "odict_iterator", "itertools.zip_longest", "itertools.pairwise"].contains F=Jh)->strIterType x=F->∀f,f.IsStrIter it F x t (i+1)->dB it s.heap f->
    ∃u,Jd (mV ⟨#[U]⟩ s.toks)=Jd u/\ay (aC X.prog X.w) X.A (letOwnedTupleGo tg (.ref it) u) (λ_ V=>∃y N,Inv X g J N V/\RelV y u/\(NT x).yld i H y N/\V.heap.IsStrIter it (strIterType x) x t (i+1)/\∀b∈[it],N b=Jf) E { s with heap:=f,toks:=s.toks+1 }:=by
   intro F Y Z f m n;have I1:Inv X g J H { s with heap:=f,toks:=s.toks+1 }:=I.turned (λb o j e=>(n.2 b j).trans e) q r B C D;obtain⟨o,e,c,d⟩:=id m;refine⟨_,rfl,DY e c d Y ⟨.str ⟨#[U]⟩,H,I1,⟨_,rfl⟩,⟨rfl,_,l,rfl⟩,?_,λb j=>(p b j).1⟩⟩;rw[Z];exact m
  unfold strIterType at a M ⊢;split at a
  ·rename_i O;exact wpAny_pyNext_ascii_item a l λf m n=>M "str_ascii_iterator" 's' (by rw[Ji O]) f m n
  ·rename_i O;exact wpAny_pyNext_wide_item a l λf m n=>M "str_iterator" 's' (by rw[Jk O]) f m n
 done:=by
  intro X R S T G i g s J H E I p a L;obtain⟨q,r,W,B,C,D⟩:=p it 'd';have l:x.cps[i]?=Jf:=by
   have:x.cps.size<=i:=L;simp[this]
  unfold strIterType at a;split at a
  ·exact wpAny_pyNext_ascii_end (I.ok.hd G) a l λf Q=>⟨rfl,I.turned (λb o j e=>Q b o j e) q r B C D⟩
  ·exact wpAny_pyNext_wide_end (I.ok.hd G) a l λf Q=>⟨rfl,I.turned (λb o j e=>Q b o j e) q r B C D⟩
 self:=λ_ _ s _ _ a h=>by
  unfold strIterType at a;split at a
  ·exact wpAny_pyIter_striter_ascii a h
  ·exact wpAny_pyIter_striter_wide a h
section
variable{X:Cx}{Ex:Nat->Hp->Prop}{pos:Pos}{a b c tg:aS}{ta:DE}
noncomputable def Oz(O:Ow):D->R Src
 |.lst ds=>.ok (.val ds) O
 |.tup ds=>.ok (.val ds) O
 |.str cs=>.ok (.val (cs.map λc=>.str [c])) O
 |.own k=>.ok (.own k) O
 |_=>.bad
def pA(t:DE):DI:=λσ O=>(t σ O).bnd λx O1=>Oz O1 x
def zhG(G:PD X Ex a ta):sD X Ex tg a (pA ta):=by
 refine⟨?_⟩;rintro m s L H M I ⟨f,U,V,O,N,P,q⟩;refine o7 (G.out m s L H _ I (rd.go N P q (Q1:=λv g=>∃f n w d,nk X.K g f n w/\Y2 X.K g f n d v/\post Ex X.K (λQ R s J=>ny X.K J s Q f R) g f n (Oz w d) M)
  λd w v g n W x c r p=>⟨f,n,w,d,c,r,p⟩)) λu h ⟨v,g,i,z,f,n,w,d,c,r,p⟩=>?_
 have j:∀(b:ab),b∈[h.heap.objs.size]->rC X m g b:=λb S=>by
  have e:b=h.heap.objs.size:=⇑S
  subst e;exact i.fpOk (aE _) (i.hok.fresh (aE _))
 cases d with
 | lst A=>
  obtain⟨a,B,rfl,l,q⟩:=r;cases z;obtain⟨C,D,y,E⟩:=i.list l.sq;refine e9 y.isList ?_;exact⟨h.heap.objs.size,[h.heap.objs.size],_,_,g,rfl,i.kept λb o e=>ai _ e,Tn a _,⟨_,aO _ rfl,rfl,rfl⟩,j,post.here p c (.val l q)⟩
 | tup A=>
  obtain⟨a,B,rfl,l,q⟩:=r;cases z;obtain⟨C,D,y,E⟩:=i.tuple l.sq;refine lu (y) ?_;exact⟨h.heap.objs.size,[h.heap.objs.size],_,_,g,rfl,i.kept λb o e=>ai _ e,zbB a _,⟨_,aO _ rfl,rfl,rfl⟩,j,post.here p c (.tup l q)⟩
 | str cs=>
  subst r;obtain⟨t,rfl⟩:=z;refine wpAny_pyIter_strU ?_;exact⟨h.heap.objs.size,[h.heap.objs.size],_,_,g,rfl,i.kept λb o e=>ai _ e,zfp ⟨cs.toArray⟩ t _,⟨_,aO _ rfl,rfl,rfl⟩,j,post.here p c .str⟩
 | own k=>
  obtain⟨a,rfl,F⟩:=r;cases z;obtain⟨A,B,Y,T,Z⟩:=c.at_ k a F;obtain⟨C,D,y,E⟩:=i.list (.of T);refine e9 y.isList ?_;exact⟨h.heap.objs.size,[h.heap.objs.size],_,_,g,rfl,i.kept λb o e=>ai _ e,Tn a _,⟨_,aO _ rfl,rfl,rfl⟩,j,post.here p c (.own F)⟩
 |_=>exact aj p
noncomputable def PB(lo hi:Int):Src:=.val ((aM (hi-lo).toNat).map λi=>.int (lo+(i:Nat)))
def vf(t:DA):DI:=λσ O=>(t σ O).bnd λxs O1=>match xs with
 |[.int j]=>if -1000000<=j/\j<=1000000 then .ok (PB 0 j) O1 else .bad
 |_=>.bad
def PI.imp(h:PI X tg iter t)(f:∀σ H Q,t' σ H Q->t σ H Q):PI X tg iter t':=λd s σ H Q I q=>h d s σ H Q I (f σ H Q q)
def sI(h:np K H XV μ [d] vs):∃v,vs=[v]/\Y2 K H XV μ d v:=by obtain⟨v,r,rfl,e,f⟩:=h;subst f;exact⟨v,rfl,e⟩
def A9(h:np K H XV μ [d,e] vs):∃v w,vs=[v,w]/\Y2 K H XV μ d v/\Y2 K H XV μ e w:=by obtain⟨v,r,rfl,f,g⟩:=h;obtain⟨w,rfl,i⟩:=sI g;exact⟨v,w,rfl,f,i⟩
def zb6(f:Gl X "range")(g:X.mg "range" = Jf)(h:sE X Ex [a] t)(i:aP [a] X.env=[(Jh,eval a X.env)]:=by rfl):sD X Ex tg (.Call (.Name "range" p) [a] [] pos) (vf t):=
 sD.mk <| PI.imp (zdX f g h.out i) λn H Q ⟨k,o,s,O,l,m,q⟩=>sY.go l m q λd u w y z A x c r p=>by
  split at p
  ·rename_i j;obtain⟨⟨B,C⟩,p⟩:=post.ite p;obtain⟨v,rfl,e⟩:=sI r;unfold Y2 at e;subst e;refine⟨j,rfl,by lia,by lia,?_⟩;have:=post.here p c (ny.rng);simpa using this
  ·exact aj p
end
inductive RS where
 |nx (σ:Sg) (O:Ow)
 |rt (d:D) (O:Ow)
 |bk (σ:Sg) (O:Ow)
 |ct (σ:Sg) (O:Ow)
 |exc (c:Nat) (O:Ow)
 |bad
 deriving Inhabited
abbrev DS:=Sg->Ow->RS
def R.bnS{α:Type}(r:R α)(k:α->Ow->RS):RS:=match r with
 |.ok a O=>k a O
 |.exc c O=>.exc c O
 |.bad=>.bad
section
variable(Ex:Nat->Hp->Prop)(K:ah)
def nw(H:Hp)(XV μ:List ab)(r:RS)(E:ye):Prop:=match r with
 |.nx σ O=>∀b_ H' c_,Ext H μ H' c_->nq K H' XV c_ σ b_->nk K H' XV c_ O->E.nx b_ H'
 |.rt d O=>∀v H' c_,Ext H μ H' c_->nk K H' XV c_ O->Y2 K H' XV c_ d v->E.rt v H'
 |.bk σ O=>∀b_ H' c_,Ext H μ H' c_->nq K H' XV c_ σ b_->nk K H' XV c_ O->E.bk b_ H'
 |.ct σ O=>∀b_ H' c_,Ext H μ H' c_->nq K H' XV c_ σ b_->nk K H' XV c_ O->E.ct b_ H'
 |.exc c O=>∀H' c_,Ext H μ H' c_->nk K H' XV c_ O->Ex c H'
 |.bad=>False
def Mt(t:DS):TS:=λE b_ H=>∃XV μ σ O,nq K H XV μ σ b_/\nk K H XV μ O/\nw Ex K H XV μ (t σ O) E
end
structure sS(X:Cx)(Ex:Nat->Hp->Prop)(st:dW)(t:DS):Prop where
 out:PS X st (Mt Ex X.K t)
structure r9(X:Cx)(Ex:Nat->Hp->Prop)(st:List dW)(t:DS):Prop where
 out:rZ X st (Mt Ex X.K t)
def PS.imp(h:PS X st t)(f:∀E σ H,t' E σ H->t E σ H):PS X st t':=λa s σ H D I q=>h a s σ H D I (f D σ H q)
def rZ.imp(h:rZ X st t)(f:∀E σ H,t' E σ H->t E σ H):rZ X st t':=λa s σ H D I q=>h a s σ H D I (f D σ H q)
section
variable{Ex:Nat->Hp->Prop}{K:ah}{H H1:Hp}{XV μ e_:List ab}
def nw.ext{r:RS}{E:ye}(h:nw Ex K H XV μ r E)(e:Ext H μ H1 e_):nw Ex K H1 XV e_ r E:=by
 cases r with
 |nx σ O=>exact λj f g i a b=>h j f g (e.trans i) a b
 |bk σ O=>exact λj f g i a b=>h j f g (e.trans i) a b
 |ct σ O=>exact λj f g i a b=>h j f g (e.trans i) a b
 |rt d O=>exact λv f g i a b=>h v f g (e.trans i) a b
 |exc c O=>exact λf g i a=>h f g (e.trans i) a
 |bad=>exact h
def nw.bnS{α β:Type}{a:Hp->List ab->α->β->Prop}{r:R α}{k:α->Ow->RS}{E:ye}{Q1:β->Hp->Prop}(h:nw Ex K H XV μ (r.bnS k) E)
  (b:∀d O1 v H1 e_,Ext H μ H1 e_->nk K H1 XV e_ O1->a H1 e_ d v->nw Ex K H1 XV e_ (k d O1) E->Q1 v H1):post Ex K a H XV μ r Q1:=by
 cases r with
 |ok d O'=>exact λv f g e c q=>b d O' v f g e c q (nw.ext (h) e)
 |exc c O'=>exact h
 |bad=>exact h
end
section
variable{X:Cx}{Ex:Nat->Hp->Prop}{pos:Pos}{a b c e tg:aS}{tb tc te:DE}
def xm{i:dW}{t:TS}{t':DS}(h:PS X i t)(f:∀XV d σ O E g H,nq X.K H XV d σ g->nk X.K H XV d O->nw Ex X.K H XV d (t' σ O) E->t E g H):sS X Ex i t':=
 ⟨PS.imp h λE g H ⟨XV,d,σ,O,j,k,q⟩=>f XV d σ O E g H j k q⟩
def KU(h:rZ X st t)(f:∀XV d σ O E g H,nq X.K H XV d σ g->nk X.K H XV d O->nw Ex X.K H XV d (t' σ O) E->t E g H):r9 X Ex st t':=
 ⟨rZ.imp h λE g H ⟨XV,d,σ,O,i,j,q⟩=>f XV d σ O E g H i j q⟩
def rd.goS{t:DE}{XV i:List ab}{σ:Sg}{O:Ow}{j:St}{H:Hp}{Q1:VK}{k:D->Ow->RS}{E:ye}(l:nq X.K H XV i σ j)(m:nk X.K H XV i O)
  (q:nw Ex X.K H XV i ((t σ O).bnS k) E)
  (f:∀d O1 v g h,nq X.K g XV h σ j->Ext H i g h->nk X.K g XV h O1->Y2 X.K g XV h d v->nw Ex X.K g XV h (k d O1) E->Q1 v g):rd Ex X.K t j H Q1:=
 ⟨XV,i,σ,O,l,m,nw.bnS q λd O1 v g h x c r p=>f d O1 v g h (l.ext x) x c r p⟩
def vK.goS{t:DT}{XV i:List ab}{σ:Sg}{O:Ow}{j:St}{H:Hp}{Q1:Bool->Hp->Prop}{k:Bool->Ow->RS}{E:ye}(l:nq X.K H XV i σ j)(m:nk X.K H XV i O)
  (q:nw Ex X.K H XV i ((t σ O).bnS k) E)
  (f:∀v O1 g h,nq X.K g XV h σ j->Ext H i g h->nk X.K g XV h O1->nw Ex X.K g XV h (k v O1) E->Q1 v g):vK Ex X.K t j H Q1:=
 ⟨XV,i,σ,O,l,m,nw.bnS q λd O1 v g h x c r p=>by
  subst r;exact f d O1 g h (l.ext x) x c p⟩
def qe:DS:=λσ O=>.nx σ O
def oM(t u:DS):DS:=λσ O=>match t σ O with
 |.nx σ' O'=>u σ' O'
 |r=>r
def zg7:r9 X Ex [] qe:=KU Z0 λd f j O E g H h i q=>q g H f .refl h i
def pF{i:dW}{f:List dW}{t u:DS}(k:sS X Ex i t)(l:r9 X Ex f u):r9 X Ex (i::f) (oM t u):=
 KU (EC k.out l.out) λh m j O E s H n o q=>by
  refine⟨h,m,j,O,n,o,?_⟩;unfold oM at q;cases g:t j O with
  | nx σ' O'=>
   rw[g] at q;exact λv w p r a b=>⟨h,p,σ',O',a,b,q.ext r⟩
  |rt d O'=>rw[g] at q;exact q
  |bk σ' O'=>rw[g] at q;exact q
  |ct σ' O'=>rw[g] at q;exact q
  |exc c O'=>rw[g] at q;exact q
  |bad=>rw[g] at q;exact q
def pH(d:sS X Ex st t):r9 X Ex [st] t:=⟨Qr d.out⟩
def oX(t:DE):DS:=λσ O=>(t σ O).bnS λd O1=>.rt d O1
def Z5(f:PD X Ex e te):sS X Ex (.Return (Jd e) pos) (oX te):=
 xm (Xw f.out) λg l m O E n H h i q=>rd.goS h i q λd o v j k s x c r p=>p v j k .refl c r
def qc(c:DT)(t u:DS):DS:=λσ O=>(c σ O).bnS λb O1=>if b=Jg then t σ O1 else u σ O1
def YJ{c:aS}{x y:List dW}{tc:DT}{t u:DS}(j:qM X Ex c tc)(l:r9 X Ex x t)(m:r9 X Ex y u):sS X Ex (.If c x y pos) (qc tc t u):=
 xm (WU j.out l.out m.out) λd r f O E s H n o q=>vK.goS n o q λk g v h i x c p=>by
  cases k with
  |true=>rw[Ji rfl];exact⟨d,h,f,g,i,c,p⟩
  |false=>rw[Jk bU];exact⟨d,h,f,g,i,c,p⟩
def Ac:DS:=λ_ _=>.bad
def RM:r9 X Ex st Ac:=KU zcS λd f g O E h H i j q=>q
def rg(t:DE):DS:=λσ O=>(t σ O).bnS λ_ O1=>.nx σ O1
def zfN(f:PD X Ex e te)(g:swapsWith e Jf pos.line X.env=pure Jh:=by rfl):sS X Ex (.Expr e pos) (rg te):=
 xm (QJ f.out g) λh o s O E i H j k q=>rd.goS j k q λd t v l m n x c r p=>p i l m .refl n c
def pN(i:Nat)(t:DE):DS:=λσ O=>(t σ O).bnS λd O1=>.nx (σ.set i (Jd d)) O1
def Kv(f:X.N.Nodup)(g:X.N[i]?=Jd x)(h:Loc X.env.scope x)(j:PD X Ex e te)(k:swapsWith e (Jd (.Name x pos')) pos.line X.env=pure Jh:=by rfl)
  (l:X.fn x=Jg\/X.env.scope.names.lookup x=Jd .local:=by first|exact .inl rfl|exact .inr rfl):sS X Ex (.Assign [.Name x pos'] e pos) (pN i te):=
 xm (PJ f g h j.out k l) λm y z O E n H o s q=>rd.goS o s q λd A v t u w x c r p=>p (n.set i (Jd v)) t u .refl (w.set r i) c
def DM(i j:Nat)(t:DA):DS:=λσ O=>(t σ O).bnS λds O1=>match ds with
 |[x,y]=>.nx ((σ.set i (Jd x)).set j (Jd y)) O1
 |_=>.bad
inductive Tg where
 |one (i:Nat)
 |two (i j:Nat)
noncomputable def Tg.put:Tg->D->Sg->Option Sg
 |.one i,d,σ=>Jd (σ.set i (Jd d))
 | .two i j,d,σ=>match d with
  |.tup [x,y]=>Jd ((σ.set i (Jd x)).set j (Jd y))
  |_=>Jf
def Tg.rd(K:ah):Tg->TG
 |.one i=>uQ i
 |.two i j=>DQ K 2 (y_ (uQ i) (y_ (uQ j) Gz))
def Tg.slots:Tg->g_
 |.one i=>[i]
 |.two i j=>[i,j]
def Tg.ok2(g:Tg)(n:nq K H XV μ σ b_)(q:Y2 K H XV μ d v)(h:g.put d σ=Jd σ')
  (k:∀f,nq K H XV μ σ' f->(∀i,i∉g.slots->f[i]?=b_[i]?)->Q f H):g.rd K v b_ H Q:=by
 cases g with
 | one i=>
  cases h;exact k _ (n.set q i) λj p=>bj (λe=>p (by simp[Tg.slots,e]))
 | two i j=>
  unfold Tg.put at h;dsimp only at h;split at h
  ·rename_i x y;cases h;obtain⟨a,t,rfl,l,q⟩:=q;obtain⟨u,w,rfl,r,s⟩:=A9 q;refine⟨a,[u,w],rfl,l.sq,rfl,u,[w],rfl,w,[],rfl,rfl,k _ ((n.set r i).set s j) λm o=>?_⟩;rw[bj (λe=>o (by simp[Tg.slots,e])),bj (λe=>o (by simp[Tg.slots,e]))]
  ·cases h
def Tg.ok{K:ah}{H:Hp}{XV f:List ab}{σ σ':Sg}{m:St}{d:D}{v:V}{Q:St->Hp->Prop}(g:Tg)(n:nq K H XV f σ m)(q:Y2 K H XV f d v)(h:g.put d σ=Jd σ')(k:∀o,nq K H XV f σ' o->Q o H):g.rd K v m H Q:=by
 cases g with
 |one i=>cases h;exact k _ (n.set q i)
 | two i j=>
  unfold Tg.put at h;dsimp only at h;split at h
  ·rename_i x y;cases h;obtain⟨a,s,rfl,l,q⟩:=q;obtain⟨u,w,rfl,p,r⟩:=A9 q;exact⟨a,[u,w],rfl,l.sq,rfl,u,[w],rfl,w,[],rfl,rfl,k _ ((n.set p i).set r j)⟩
  ·cases h
def YE(d:X.N.Nodup)(f:X.N[i]?=Jd x)(g:Loc X.env.scope x)(h:X.fn x=Jg\/X.env.scope.names.lookup x=Jd .local:=by first|exact .inl rfl|exact .inr rfl|assumption):PG X (.Name x pos) ((Tg.one i).rd X.K):=CY d f g h
noncomputable def uf(src:Src)(step:D->Sg->Ow->RS):Nat->Nat->Sg->Ow->RS
 | 0,i,σ,O=>match src.get O i with
  |none=>.nx σ O
  |some _=>.bad
 | f+1,i,σ,O=>match src.get O i with
  |none=>.nx σ O
  | some d=>match step d σ O with
   |.nx σ' O'=>uf src step f (i+1) σ' O'
   |.ct σ' O'=>uf src step f (i+1) σ' O'
   |.bk σ' O'=>.nx σ' O'
   |r=>r
def yg(it:DI)(g:Tg)(body:DS):DS:=λσ O=>(it σ O).bnS λsrc O1=>uf src (λd σ O=>match g.put d σ with|some σ'=>body σ' O|none=>.bad) (src.size O1) 0 σ O1
def Zh{u:aS}{body:List dW}{it:DI}{g:Tg}{tb:DS}(hp:jN (aC X.prog X.w) X.A X.env X.xe)(hc:X.calm=Jg)(hi:sD X Ex tg u it)(hg:PG X tg (g.rd X.K))(hb:r9 X Ex body tb)
  (hs:∀x,bM u X.env x=pure x:=by intro _;rfl):sS X Ex (.For tg u body [] pos) (yg it g tb):=
 xm (O8 hp hc hi.out hg hb.out hs) λk μ Q O E b_ H Y c1 q=>by
  refine⟨k,μ,Q,O,Y,c1,nw.bnS q λo O1 J Z S x1 c2 sa p=>?_⟩;generalize yH:(λ(d:D)(Q:Sg)(O:Ow)=>match g.put d Q with|some j=>tb j O|none=>RS.bad)=n at p;refine⟨λi m L t=>∃s j z,Ext Z S t s/\nq X.K t k s j L/\nk X.K t k s z/\nw Ex X.K t k s (uf o n m i j z) E,⟨_,S,Q,O1,.refl,Y.ext x1,c2,p⟩,?_⟩;rintro i m vn M ⟨F,N,B,x2,T,U,C⟩;have R:=sa k M F B x2.mv U i;cases G:o.get B i with
  | none=>
   rw[G] at R;refine .inl ⟨R,?_⟩;cases m with
   | zero=>
    have l:nw Ex X.K M k F (match o.get B i with|none=>.nx N B|some _=>.bad) E:=C;rw[G] at l;exact l vn M F .refl T U
   | succ f=>
    unfold uf at C;rw[G] at C;exact C vn M F .refl T U
  | some d=>
   rw[G] at R;obtain⟨go,yl⟩:=R;cases m with
   | zero=>
    have l:nw Ex X.K M k F (match o.get B i with|none=>.nx N B|some _=>.bad) E:=C;rw[G] at l;exact aj l
   | succ f=>
    refine .inr ⟨go,λL t=>∃s j z,Ext Z S t s/\nq X.K t k s j L/\nk X.K t k s z/\nw Ex X.K t k s (uf o n f (i+1) j z) E,λj t h=>⟨f,fu f,h⟩,λv H3 y=>?_⟩;obtain⟨V,c4,r⟩:=yl v H3 y;unfold uf at C;rw[G] at C;have l:nw Ex X.K H3 k F (match n d N B with
     |.nx j z=>uf o n f (i+1) j z
     |.ct j z=>uf o n f (i+1) j z
     |.bk j z=>.nx j z
     |r=>r) E:=nw.ext C V
    cases W:g.put d N with
    | none=>
     rw[<- yH] at l;simp only[W] at l;exact aj l
    | some rB=>
     refine Tg.ok g (T.ext V) r W λVQ e3=>⟨k,F,rB,B,e3,c4,?_⟩;have U6:n d N B=tb rB B:=by rw[<- yH];simp only[W]
     rw[U6] at l;have x4:=x2.trans V;cases I:tb rB B with
     |nx Gm O4=>rw[I] at l;exact λL t s P a b=>⟨s,Gm,O4,x4.trans P,a,b,l.ext P⟩
     |ct Gm O4=>rw[I] at l;exact λL t s P a b=>⟨s,Gm,O4,x4.trans P,a,b,l.ext P⟩
     |bk Gm O4=>rw[I] at l;exact l
     |rt d4 O4=>rw[I] at l;exact l
     |exc c4 O4=>rw[I] at l;exact l
     |bad=>rw[I] at l;exact l
end
structure Cl where
 it:DI
 g:Tg
 ifs:List DT
def pK:List Cl->g_
 |[]=>[]
 |c::cs=>c.g.slots++pK cs
def pf{α:Type}(σ:List (Option α)):g_->List (Option α)
 |[]=>σ
 |i::r=>pf (σ.set i Jf) r
def r8:List DT->DT
 |[]=>λ_ O=>.ok Jg O
 |c::cs=>λσ O=>(c σ O).bnd λb O1=>if b=Jg then r8 cs σ O1 else .ok Jh O1
noncomputable def pR(src:Src)(step:D->Ow->List D->R (List D)):Nat->Nat->Ow->List D->R (List D)
 | 0,i,O,Ja=>match src.get O i with
  |none=>.ok Ja O
  |some _=>.bad
 | f+1,i,O,Ja=>match src.get O i with
  |none=>.ok Ja O
  |some d=>(step d O Ja).bnd λpI O'=>pR src step f (i+1) O' pI
def r_:List Cl->DE->Sg->Ow->List D->R (List D)
 |[],elt,σ,O,Ja=>(elt σ O).bnd λv O1=>if Ja.length<4000000 then .ok (Ja++[v]) O1 else .bad
 | c::cs,elt,σ,O,Ja=>(c.it σ O).bnd λsrc O1=>pR src (λd O2 Ja=>match c.g.put d (pf σ (pK (c::cs))) with
   |some qj=>(r8 c.ifs qj O2).bnd λb O3=>if b=Jg then r_ cs elt qj O3 Ja else .ok Ja O3
   |none=>.bad) (src.size O1) 0 O1 Ja
def xh(c:Cl)(cs:List Cl)(elt:DE)(σ:Sg):D->Ow->List D->R (List D):=λd O2 Ja=>match c.g.put d (pf σ (pK (c::cs))) with
   |some qj=>(r8 c.ifs qj O2).bnd λb O3=>if b=Jg then r_ cs elt qj O3 Ja else .ok Ja O3
   |none=>.bad
abbrev Em:=Sg->Ow->List D->R (List D)
def zT(te:DE):Em:=λσ O Ja=>(te σ O).bnd λv O1=>if Ja.length<4000000 then .ok (Ja++[v]) O1 else .bad
def ug:List Cl->Em->Sg->Ow->List D->R (List D)
 |[],em,σ,O,Ja=>em σ O Ja
 | c::cs,em,σ,O,Ja=>(c.it σ O).bnd λsrc O1=>pR src (λd O2 Ja=>match c.g.put d (pf σ (pK (c::cs))) with
   |some qj=>(r8 c.ifs qj O2).bnd λb O3=>if b=Jg then ug cs em qj O3 Ja else .ok Ja O3
   |none=>.bad) (src.size O1) 0 O1 Ja
def tR(c:Cl)(cs:List Cl)(em:Em)(σ:Sg):D->Ow->List D->R (List D):=λd O2 Ja=>match c.g.put d (pf σ (pK (c::cs))) with
   |some qj=>(r8 c.ifs qj O2).bnd λb O3=>if b=Jg then ug cs em qj O3 Ja else .ok Ja O3
   |none=>.bad
theorem QF(te:DE):∀a:List Cl,ug a (zT te)=r_ a te
 |[]=>by funext σ O Ja;unfold ug r_ zT;rfl
 |c::cs=>by funext σ O Ja;unfold ug r_;rw[QF te cs]
def Z3(c:Cl)(cs:List Cl)(te:DE):tR c cs (zT te)=xh c cs te:=by funext σ d O Ja;unfold tR xh;rw[QF te cs]
theorem Eh{α:Type}:∀(l:g_)(σ:List (Option α)),(pf σ l).length=σ.length
 |[],_=>rfl
 |i::r,σ=>by unfold pf;rw[Eh r];simp
theorem KY{α:Type}:∀(l:g_)(σ:List (Option α))(i:Nat),i∉l->(pf σ l)[i]?=σ[i]?
 |[],σ,i,h=>rfl
 | j::r,σ,i,h=>by
  unfold pf;rw[KY r _ i λz=>h (ak _ z),bj λz=>h (by simp[z])]
theorem Hi{α:Type}:∀(l:g_)(σ:List (Option α))(i:Nat)(d:α),(pf σ l)[i]?=Jd (Jd d)->σ[i]?=Jd (Jd d)/\i∉l
 |[],σ,i,d,h=>⟨h,by simp⟩
 | j::r,σ,i,d,h=>by
  obtain⟨a,b⟩:=Hi r _ i d h;by_cases e:j=i
  ·subst e;by_cases c:j<σ.length
   ·rw[bq c] at a;cases a
   ·rw[aY.mpr (by simp;lia)] at a;cases a
  ·rw[bj e] at a;exact⟨a,by simp[b];exact λz=>e z.symm⟩
structure Ea(A:ab)(H:Hp)(μ:List ab)(H':Hp)(c_:List ab):Prop where
 pre:∃ν,c_=μ++ν
 kept:∀b o,H b=Jd o->b∉μ->b≠A->CB o->H' b=Jd o
 fresh:∀b∈c_,b∈μ\/H b=Jf
 there:∀b,H b≠Jf->H' b≠Jf
 tab:∀P,nI H P->nI H' P
section
variable{K:ah}{A:ab}{H H' H1 H2:Hp}{XV μ c_ e_ oW:List ab}
def Ext.ea(e:Ext H μ H' c_):Ea A H μ H' c_:=⟨e.pre,λb o h n _ a=>e.kept b o h n a,e.fresh,e.there,e.tab⟩
def Ea.refl:Ea A H μ H μ:=Ext.refl.ea
def Ea.trans(a:Ea A H μ H1 e_)(b:Ea A H1 e_ H2 oW):Ea A H μ H2 oW:=by
 have i:∀c,H1 c=Jf->H c=Jf:=λc h=>by
  cases e:H c with
  |none=>rfl
  |some o=>exact absurd h (a.there c (by rw[e];simp))
 refine⟨?_,λc o h d f g=>?_,λc h=>?_,λc h=>b.there c (a.there c h),λP t=>b.tab P (a.tab P t)⟩
 ·obtain⟨x,rfl⟩:=a.pre;obtain⟨y,rfl⟩:=b.pre;exact⟨x++y,by simp⟩
 ·refine b.kept c o (a.kept c o h d f g) (λm=>?_) f g;rcases a.fresh c m with z|z
  ·exact d z
  ·rw[z] at h;cases h
 ·rcases b.fresh c h with z|z
  ·exact a.fresh c z
  ·exact .inr (i c z)
def Ea.mv(e:Ea A H μ H' c_):Mv H (A::XV) μ H' (A::XV) c_:=⟨e.pre,λb o h a c d=>e.kept b o h a (λz=>c (by simp[z])) d,e.fresh,λ_ m=>.inl m,e.there,e.tab⟩
def Ea.putX(a:∀P,nI H P->nI (upd H A o) P):Ea A H μ (upd H A o) μ:=⟨⟨[],by simp⟩,λb u h _ n _=>by rw[o9 n];exact h,λ_ m=>.inl m,xq,a⟩
def nk.putX(c:nk K H (A::XV) μ O)(b:∀P,nI H P->nI (upd H A o) P):nk K (upd H A o) (A::XV) μ O:=by refine⟨c.len,c.nd,c.nh,λa m=>xq a (c.ht a m),λk a e=>?_⟩;obtain⟨d,f,g,h,i⟩:=c.at_ k a e;have j:a≠A:=λz=>c.nh a (aN e) (by simp[z]);exact⟨d,f,g,by rw[o9 j];exact h,i.mv (Ea.putX b).mv⟩
def Ea.put{o:HO}(a:∃vs,H A=Jd (.lst vs)):Ea A H μ (upd H A o) μ:=.putX λ_ t=>t.upd (.inr a)
def nk.putA{o:HO}{O:Ow}(c:nk K H (A::XV) μ O)(a:∃vs,H A=Jd (.lst vs)):nk K (upd H A o) (A::XV) μ O:=c.putX λ_ t=>t.upd (.inr a)
def nk.unhide(c:nk K H (A::XV) μ O):nk K H XV μ O:=
 ⟨c.len,c.nd,λa m z=>c.nh a m (ak _ z),λa m=>c.ht a (ak _ m),λk a e=>
  let ⟨ds,vs,h1,h2,h3⟩:=c.at_ k a e
  ⟨ds,vs,h1,h2,h3.mv .unhide⟩⟩
end
abbrev pS:Nat->Hp->Prop:=λ_ _=>False
inductive nN(X:Cx):List bC->List Cl->Prop where
 |nil:nN X [] []
 | cons {tg iter:aS} {ifs:List aS} {gs:List bC} {c:Cl} {cs:List Cl} (hi:sD X pS tg iter c.it) (hs:∀x,bM iter X.env x=pure x) (hg:PG X tg (c.g.rd X.K))
   (hf:bR (λe t=>qM X pS e t) ifs c.ifs) (r:nN X gs cs):nN X (⟨tg,iter,ifs,0⟩::gs) (c::cs)
section
variable{X:Cx}
def Aw{α:Type}{M:iw}{A:be}{t:Sem α}{Q c:α->ag->Prop}{E:ae->ag->Prop}{s:ag}(d:X.xe=λ_ _=>False)(h:ay M A t Q X.xe s)(k:∀a b,Q a b->c a b):ay M A t c E s:=
 cj h k λe b z=>by rw[d] at z;exact z.elim
theorem TZ{a:Env}{M:iw}{A:be}{E:ae->ag->Prop}{s:ag}{Q:Bool->ag->Prop}(h:Q Jh s):∀(b:List aS),ay M A (forIn b Jh λc r=>if r=Jg then do let ok <- isTrue c a (eval c a);pure (fM ok) else pure (fM r)) Q E s
 |[]=>aq h
 | c::cs=>by
  simp;exact aa (aq (TZ h cs))
theorem Sf{E:ae->ag->Prop}{XV:List ab}(j:X.xe=λ_ _=>False):∀{a:List aS}{ts:List DT},bR (λe t=>qM X pS e t) a ts->∀(Y1:List (ab×Obj))(s:ag)(b_:St)(H:Hp)(μ:List ab)(σ:Sg)(O:Ow)(Q:Bool->ag->Prop),
  L2.Inv X Y1 b_ H s->nq X.K H XV μ σ b_->nk X.K H XV μ O->
  xk pS X.K H XV μ (r8 ts σ O) (λb H'=>∀h,L2.Inv X Y1 b_ H' h->Q b h)->
  ay (aC X.prog X.w) X.A (forIn a Jg λc r=>if r=Jg then do let ok <- isTrue c X.env (eval c X.env);pure (fM ok) else pure (fM r)) Q E s
 |_,_,.nil,Y1,s,b_,H,μ,σ,O,Q,I,e1,c1,q=>aq (post.here q c1 rfl s I)
 | _::a,_::ts,.cons hc hr,Y1,s,b_,H,μ,σ,O,Q,I,e1,c1,q=>by
  simp only[gq,if_true];refine aa (aa (Aw j (hc.out Y1 s b_ H _ I (vK.go e1 c1 q (Q1:=λb g=>∃d f,nq X.K g XV d σ b_/\nk X.K g XV d f/\xk pS X.K g XV d (if b=Jg then r8 ts σ f else .ok Jh f) (λb H'=>∀h,L2.Inv X Y1 b_ H' h->Q b h))
   λb f g d i x c p=>⟨d,f,i,c,p⟩)) λb k ⟨g,l,d,f,i,m,p⟩=>aq ?_))
  cases b with
  |true=>rw[Ji rfl] at p;exact Sf j hr Y1 k b_ g d σ f Q l i m p
  |false=>rw[Jk bU] at p;exact TZ (post.here p m rfl k l) a
structure u_ where
 ex:List bC->cG->Pos->aS
 emit:ae->Env->Sem Unit
 new:Sem ae
 ho:aQ->a8->ab->HO
 G:ah->aQ->a8->ab->List ab->Hp->List ab->List D->Prop
structure Bs(X:Cx)(C:u_)(A:ab)(XV:List ab)(Y1:List (ab×Obj))(s:ag)(b_:St)(H:Hp)(μ:List ab)(σ:Sg)(O:Ow)(Ja:List D):Prop where
 inv:L2.Inv X Y1 b_ H s
 env:nq X.K H (A::XV) μ σ b_
 cells:nk X.K H (A::XV) μ O
 grown:C.G X.K X.prog X.w A XV H μ Ja
def OE(X:Cx)(C:u_)(A:ab)(XV:List ab)(Y1:List (ab×Obj))(b_:St)(H:Hp)(μ:List ab)(sl:g_)(Ja:List D)(O:Ow)(Q:ag->Prop):Prop:=
 ∀s' o6 H' c_,L2.Inv X Y1 o6 H' s'->Ea A H μ H' c_->nk X.K H' (A::XV) c_ O->C.G X.K X.prog X.w A XV H' c_ Ja->o6.length=b_.length->(∀i,i∉sl->o6[i]?=b_[i]?)->Q s'
def yt(X:Cx)(C:u_)(A:ab)(XV:List ab)(Y1:List (ab×Obj))(b_:St)(H:Hp)(μ:List ab)(sl:g_)(r:R (List D))(Q:ag->Prop):Prop:=match r with
 |.ok Ja O=>OE X C A XV Y1 b_ H μ sl Ja O Q
 |_=>False
noncomputable def Ba(e:aS)(em:ae->Env->Sem Unit)(gens:List bC)(k:Nat)(Ja:ae)(env:Env):Sem Unit:=match gens[k]? with
 | some g'=>do
  let x <- eval g'.iter env
  standAt g'.iter.pos
  let x <- if g'.is_async !=0 then foldedIterable g'.iter x else bM g'.iter env x
  let _ <- runOwn (.compStart e k (<- holding [x] (if g'.is_async !=0 then asyncIter x else pyIter x)) Ja env) env
 |none=>em Ja env
def YH(C:u_):Prop:=∀(gens:List bC)(scope:cG)(pos:Pos)(k:Nat)(it Ja:ae)(env:Env){tg iter:aS}{ifs:List aS},gens[k]?=Jd ⟨tg,iter,ifs,0⟩->
  (gens[k+1]?=Jf \/ ∃BA su uU,gens[k+1]?=Jd ⟨BA,su,uU,0⟩)->
  compTurn (C.ex gens scope pos) k it Ja env=(do
   standAt iter.pos
   match <- pyNext it with
   |none=>pure (.done .next)
   | some v=>
    letOwnedTupleGo tg it v
    assign tg env v
    let mut ok:=Jg
    for c in ifs do
     if ok then ok <- isTrue c env (eval c env)
    if ok then Ba (C.ex gens scope pos) C.emit gens (k+1) Ja env
    again (.compLoop (C.ex gens scope pos) k it Ja env))
structure Bl(C:u_):Prop where
 cl:∀gens scope pos,clausesOf (C.ex gens scope pos)=gens
 turn:YH C
 keep:∀{K P w A XV H μ Ja H' c_},C.G K P w A XV H μ Ja->A∉μ->Ext H μ H' c_->C.G K P w A XV H' c_ Ja
 new:∀{P:aQ}{w:a8}{A:be}{E:ae->ag->Prop}{Q:ae->ag->Prop}{s:ag},(∀o:Obj,o.isFreed=Jh->(∀(H:Hp)(h:aV)(a:ab),sysModules<a->h.get? a=Jd o->nJ P w (upd H a (C.ho P w a)) h a (C.ho P w a))->Q (.ref s.heap.objs.size) { s with heap:=s.heap.push o })->ay (aC P w) A C.new Q E s
 g0:∀{K P w a XV H μ},C.G K P w a XV (upd H a (C.ho P w a)) μ []
 q1:∀gens scope pos k it Ja env,(kS (C.ex gens scope pos) k it Ja env).quiet=Jg
 u1:∀(A:be)gens scope pos k it Ja env,A.under (kS (C.ex gens scope pos) k it Ja env)=A
 d1:∀P w gens scope pos k it Ja env,(aC P w).den (kS (C.ex gens scope pos) k it Ja env)=(compTurn (C.ex gens scope pos) k it Ja env).onRaise (λx=>do noteFrame x env;theTreesLotGoes x)
 u2:∀(A:be)gens scope pos k it Ja env,A.under (mK (C.ex gens scope pos) k it Ja env)=A
 d2:∀P w gens scope pos k it Ja env,(aC P w).den (mK (C.ex gens scope pos) k it Ja env)=(compStart (C.ex gens scope pos) k it Ja env).onRaise (λx=>do noteFrame x env;standAt theWindowsPlace)
noncomputable def Bc(elt:aS):u_ where
 ex:=λgens scope pos=>.ListComp elt gens scope pos
 emit:=λJa env=>do let _ <- call (.builtin "list.append") [Ja,<- eval elt env]
 new:=newList []
 ho:=λ_ _ _=>.lst []
 G:=λK _ _ A XV H μ Ja=>∃vs,H A=Jd (.lst vs)/\np K H (A::XV) μ Ja vs
def K0(c:aS):Bl (Bc c) where
 cl:=λ_ _ _=>rfl
 turn:=λd b g k n i j t l o m f=>by
  show compTurn (.ListComp c d b g) k n i j=_;unfold compTurn Ba;rcases f with f|⟨u,v,w,f⟩
  ·simp only[m,f];rfl
  ·simp only[m,f,bne_self_eq_false,cy,if_false,bind_assoc,pure_bind]
   first|rfl|congr 1
 keep:=λ⟨p,q,r⟩ s x=>⟨p,x.keep _ _ q s,r.ext x⟩
 new:=λh=>di (h _ rfl λH h a _ e=>⟨bN _,[],0,.nil,e⟩)
 g0:=⟨[],qP,.nil⟩
 q1:=λ_ _ _ _ _ _ _=>rfl
 u1:=λ_ _ _ _ _ _ _ _=>rfl
 d1:=λ_ _ _ _ _ _ _ _ _=>rfl
 u2:=λ_ _ _ _ _ _ _ _=>rfl
 d2:=λ_ _ _ _ _ _ _ _ _=>rfl
noncomputable def UL(Z:St->Hp->List ab->Prop)(K:ah)(XV:List ab)(t:DE):TE:=λb_ H Q=>∃μ σ O,Z b_ H μ/\nq K H XV μ σ b_/\nk K H XV μ O/\qC pS K H XV μ (t σ O) Q
def PD.z{X:Cx}{Z:St->Hp->List ab->Prop}{XV:List ab}{e:aS}{t:DE}(h:PD X pS e t):PE X e (UL Z X.K XV t):=λa s b H Q I ⟨c,d,O,_,f,g,q⟩=>h.out a s b H Q I ⟨XV,c,d,O,f,g,q⟩
section
variable{C:u_}{Z:St->Hp->List ab->Prop}{A:ab}{XV:List ab}{elt:aS}{gens:List bC}{scope:cG}{pos:Pos}{te:DE}{em:Em}
def zp(X:Cx)(Z:St->Hp->List ab->Prop)(C:u_)(A:ab)(XV:List ab)(e:aS)(gens:List bC)(em:Em)(k:Nat)(cls:List Cl):Prop:=∀(Y1:List (ab×Obj))(s:ag)(b_:St)(H:Hp)(μ:List ab)(σ:Sg)(O:Ow)(Ja:List D)(Q:ag->Prop)(E:ae->ag->Prop),
 Z b_ H μ->Bs X C A XV Y1 s b_ H μ σ O Ja->yt X C A XV Y1 b_ H μ (pK cls) (ug cls em σ O Ja) Q->ay (aC X.prog X.w) X.A (Ba e C.emit gens k (.ref A) X.env) (λ_ s'=>Q s') E s
def zfn{k:Nat}{e:aS}(p:X.xe=λ_ _=>False)(F:PE X elt (UL Z X.K (A::XV) te))(G:gens[k]?=Jf):zp X Z (Bc elt) A XV e gens (zT te) k []:=by
 intro a s h H i t O b Q E z B q;unfold Ba;rw[G];obtain⟨w,I,J⟩:=B.grown;cases j:te t O with
 | ok d O1=>
  have l:yt X (Bc elt) A XV a h H i (pK []) (if b.length<4000000 then .ok (b++[d]) O1 else .bad) Q:=by
   have:=q;unfold ug zT at this;rw[j] at this;exact this
  by_cases o:b.length<4000000
  ·rw[Ji o] at l;refine aa (Aw p (F a s h H (λv f=>∃g,Ext H i f g/\nk X.K f (A::XV) g O1/\Y2 X.K f (A::XV) g d v) B.inv ⟨i,t,O,z,B.env,B.cells,by rw[j];exact λv V L x c r=>⟨L,x,c,r⟩⟩)
    λu M ⟨v,f,N,P,g,x,c,r⟩=>?_)
   have R:A∉i:=λm=>B.cells.nh A m 'd';have n:=x.keep A _ I R;have y:=J.ext x;refine aa (Aw p (SK a M h f (.ref A) [v] (.ref A) [u] (λ_ D=>D=upd f A (.lst (w++[v]))) N rfl (.cons P .nil)
    ⟨A,w,v,rfl,rfl,n,bi (by rw[<- y.length];exact o) 's',rfl⟩) λW S ⟨Y,D,T,r2,U⟩=>?_)
   subst U;refine aq (l S h _ g T (x.ea.trans (.put ⟨_,n⟩)) (c.putA ⟨_,n⟩) ⟨_,qP,?_⟩ rfl λ_ _=>rfl);exact(y.append (.cons r .nil)).mv (Ea.put ⟨_,n⟩).mv
  ·rw[Jk o] at l;exact l.elim
 | exc c O1=>
  unfold ug zT at q;rw[j] at q;exact q.elim
 | bad=>
  unfold ug zT at q;rw[j] at q;exact q.elim
def Rc(co:Bl C){k:Nat}{tg iter:aS}{ifs:List aS}{c:Cl}{cs:List Cl}(hx:X.xe=λ_ _=>False)(oN:X.calm=Jg)(hk:gens[k]?=Jd ⟨tg,iter,ifs,0⟩)(hg:PG X tg (c.g.rd X.K))(hf:bR (λe t=>qM X pS e t) ifs c.ifs)
  (hZ:∀(qj rR:St)U M H2 oW,Z qj U M->(∀j,j∉pK (c::cs)->rR[j]?=qj[j]?)->Ea A U M H2 oW->Z rR H2 oW) (E:zp X Z C A XV (C.ex gens scope pos) gens em (k+1) cs) (hn:gens[k+1]?=Jf \/ ∃BA su uU,gens[k+1]?=Jd ⟨BA,su,uU,0⟩) {it:ab} {fp:List ab} {tn:Nat->aV->Prop} {J:It} {src:Src} (T:v9 X.prog X.w X.K tg J fp it tn)
  (a:List (ab×Obj)) (s:ag) (h:St) (H:Hp) (x:List ab) (σ:Sg) (O:Ow) (Ja:List D) (n:Nat) (Q:ag->Prop) (st:tn 0 s.heap) (xY:∀b∈fp,rC X a H b) (sa:ny X.K J src H (A::XV) x)
  (z0:Z h H x) (B:Bs X C A XV a s h H x σ O Ja) (q:yt X C A XV a h H x (pK (c::cs)) (pR src (tR c cs em σ) n 0 O Ja) Q):
  codeAny (aC X.prog X.w) X.A (.compLoop (C.ex gens scope pos) k (.ref it) (.ref A) X.env) (λr V=>∃f,r=.ok f/\Q V) s:=by
 have uS:∀{l:Hp},(∀b∈fp,l b=Jf)->∀b∈fp,rC X a l b:=λhn b E=>⟨hn b E,(xY b E).2⟩;let P:Nat->ag->Prop:=λm V=>∃i N l R p F,L2.Inv X a N l V/\tn i V.heap/\(∀b∈fp,l b=Jf)/\Ea A H x l R/\nk X.K l (A::XV) R p/\C.G X.K X.prog X.w A XV l R F/\
  N.length=h.length/\(∀i,i∉pK (c::cs)->N[i]?=h[i]?)/\yt X C A XV a h H x (pK (c::cs)) (pR src (tR c cs em σ) m i p F) Q
 refine codeAny_loop (co.q1 _ _ _ _ _ _ _) P (λm s1 hP=>?_) n ⟨0,h,H,x,O,Ja,B.inv,st,λb E=>(xY b E).1,.refl,B.cells,B.grown,rfl,λ_ _=>rfl,q⟩;rw[co.u1,co.d1];refine wpAny_noted ?_;rw[co.turn _ _ _ _ _ _ _ hk hn];obtain⟨i,vo,U,M,W,S,I1,p_,Vt,x1,c1,g1,l1,k1,L⟩:=hP;have IM:=sa (A::XV) U M W x1.mv c1 i
 -- zB names that UC
 have NI:nq X.K U (A::XV) M (pf σ (pK (c::cs))) vo:=by
  refine⟨by rw[Eh,B.env.len,l1],λj d hj=>?_⟩;obtain⟨h1,h2⟩:=Hi _ _ _ _ hj;obtain⟨v,h3,h4⟩:=B.env.at_ j d h1;exact⟨v,by rw[k1 j h2];exact h3,h4.mv x1.mv⟩
 cases qp:src.get W i with
 | none=>
  rw[qp] at IM;have y:OE X C A XV a h H x (pK (c::cs)) S W Q:=by
   cases m with
   |zero=>unfold pR at L;rw[qp] at L;exact L
   |succ f=>unfold pR at L;rw[qp] at L;exact L
  refine aa (dU (aa (o7 (T.done X rfl rfl rfl oN i a s1 vo U _ I1 (uS Vt) p_ IM) λr s2 ⟨hr,I2⟩=>?_)));subst hr;exact aq ⟨_,rfl,y s2 vo U M I2 x1 c1 g1 l1 k1⟩
 | some d=>
  rw[qp] at IM;obtain⟨go,yl⟩:=IM;cases m with
  | zero=>
   unfold pR at L;rw[qp] at L;exact L.elim
  | succ f=>
   have y:yt X C A XV a h H x (pK (c::cs)) ((tR c cs em σ d W S).bnd λF p=>pR src (tR c cs em σ) f (i+1) p F) Q:=by
    have:=L;unfold pR at this;rw[qp] at this;exact this
   refine aa (dU (aa (o7 (T.item X rfl rfl rfl oN i a s1 vo U _ I1 (uS Vt) p_ go) λr s2 ⟨u,hr,h2⟩=>?_)));subst hr;refine aa (o7 h2 λ_ s3 ⟨v,H3,I3,r3,y3,pk,Jn⟩=>?_);obtain⟨x3,c3,d3⟩:=yl v H3 y3;have I3':=I3.pinned (uS Jn) (T.obj _ _ pk);cases tK:c.g.put d (pf σ (pK (c::cs))) with
   | none=>
    unfold tR at y;rw[tK] at y;exact y.elim
   | some rB=>
    have FD:tR c cs em σ d W S=((r8 c.ifs rB W).bnd λb O3=>if b=Jg then ug cs em rB O3 S else .ok S O3):=by
     unfold tR;rw[tK]
    rw[FD] at y;refine aa (Aw hx (hg _ s3 vo H3 v u (λY H4=>H4=H3/\nq X.K H3 (A::XV) M rB Y/\∀j,j∉c.g.slots->Y[j]?=vo[j]?) I3' r3 (Tg.ok2 c.g (NI.ext x3) d3 tK λY e4 k4=>⟨rfl,e4,k4⟩)) λ_ s4 ⟨Y,H4,I4,e4,Gb,k4⟩=>?_);subst e4;have l4:Y.length=h.length:=by rw[I4.len,<- I3.len,l1]
    have MN:∀j,j∉pK (c::cs)->Y[j]?=h[j]?:=λj hj=>by
     rw[k4 j λz=>hj (bA _ z)];exact k1 j hj
    have nA:A∉M:=λm=>c1.nh A m 'd';have x13:=x1.trans x3.ea;have g3:=co.keep g1 nA x3
    -- behind zB step: zB next turn
    have I:∀{V:ag}{N:St}{l:Hp}{R:List ab}{p:Ow}{F:List D},L2.Inv X (a++D6 fp s3.heap) N l V->Ea A H x l R->nk X.K l (A::XV) R p->C.G X.K X.prog X.w A XV l R F->N.length=h.length->
      (∀i,i∉pK (c::cs)->N[i]?=h[i]?)->yt X C A XV a h H x (pK (c::cs)) (pR src (tR c cs em σ) f (i+1) p F) Q->∃m,m<f+1/\P m V:=by
     intro V N l R p F I' x' c' g' l' k' p';refine⟨f,fu f,i+1,N,l,R,p,F,I'.unpinned,T.keep _ _ _ pk λb E o e=>(I'.pin (b,o) (ax _ (ax _ (HS E e)))).1,λb E=>?_,x',c',g',l',k',p'⟩;obtain⟨o,e,d⟩:=T.obj _ _ pk b E;exact(I'.pin (b,o) (ax _ (ax _ (HS E e)))).2.1
    cases uz:r8 c.ifs rB W with
    |exc c' p=>rw[uz] at y;exact y.elim
    |bad=>rw[uz] at y;exact y.elim
    | ok b O3=>
     rw[uz] at y;have q3:yt X C A XV a h H x (pK (c::cs)) ((if b=Jg then ug cs em rB O3 S else .ok S O3).bnd λF p=>pR src (tR c cs em σ) f (i+1) p F) Q:=y;refine aa (Sf hx hf _ s4 Y H4 M rB W _ I4 Gb c3 ?_);rw[uz];intro b' H5 zX x5 c5 eb s5 I5;subst eb;have g5:=co.keep g3 nA x5;have Ml:=x13.trans x5.ea;cases b with
     | false=>
      exact aq ⟨rfl,I I5 Ml c5 g5 l4 MN q3⟩
     | true=>
      refine aa (E _ s5 Y H5 zX rB O3 S _ _ (hZ _ _ _ _ _ _ z0 MN Ml) ⟨I5,Gb.ext x5,c5,g5⟩ ?_);cases qx:ug cs em rB O3 S with
      |exc c' p=>rw[qx] at q3;exact q3.elim
      |bad=>rw[qx] at q3;exact q3.elim
      | ok acc6 O6=>
       rw[qx] at q3;intro s6 VP H6 Gn I6 x6 c6 g6 l6 k6;refine aq ⟨rfl,I I6 (Ml.trans x6) c6 g6 (l6.trans l4) (λj hj=>?_) q3⟩;rw[k6 j λz=>hj (ax _ z)];exact MN j hj
end
end
section
variable{X:Cx}{Z:St->Hp->List ab->Prop}{C:u_}{A:ab}{XV:List ab}{gens:List bC}{scope:cG}{pos:Pos}{em:Em}
def RG(a:Bl C)(b:gens[k]?=Jd ⟨tg,iter,ifs,0⟩)(T:v9 X.prog X.w X.K tg J fp it tn)(i:Nat)(c:tn i s.heap)
  (h:codeAny (aC X.prog X.w) X.A (.compLoop (C.ex gens scope pos) k (.ref it) Ja env) P s):
  codeAny (aC X.prog X.w) X.A (.compStart (C.ex gens scope pos) k (.ref it) Ja env) P s:=by
 refine codeAny_of_tree ?_;rw[a.u2,a.d2];refine wpAny_notedAt ?_;unfold compStart;have d:clausesOf (C.ex gens scope pos)=gens:=a.cl _ _ _;simp only[d,b,Option.elim,bne_self_eq_false,cy,if_false];refine aa (wpAny_askSetting (wpAny_ite ?_));split
 ·exact aq (eN (a.q1 _ _ _ _ _ _ _) h)
 ·refine aa (dF ?_);exact aa (dU (aa (T.self _ i s _ _ c (aq (eN (a.q1 _ _ _ _ _ _ _) h)))))
def QW(w:Bl C)(y:X.xe=λ_ _=>False)(V:X.calm=Jg){W:g_}(M:∀(D F:St)d b o p,Z D d b->(∀j,j∉W->F[j]?=D[j]?)->Ea A d b o p->Z F o p)(Y:∀k,gens[k]?=Jf->zp X Z C A XV (C.ex gens scope pos) gens em k []):∀{i:List bC}{l:List Cl},nN X i l->(∀j∈pK l,j∈W)->∀k,gens.drop k=i->zp X Z C A XV (C.ex gens scope pos) gens em k l
 | _,_,.nil,_,k,hd=>Y k (by
   have:=congrArg jX hd;simp at this;exact aY.mpr 'o')
 | ⟨tg,iter,ifs,_⟩::gs,c::cs,.cons hi hs hg hf r,Jb,k,hd=>by
  have N:gens[k]?=Jd ⟨tg,iter,ifs,0⟩:=by
   have:(gens.drop k)[0]?=Jd ⟨tg,iter,ifs,0⟩:=by rw[hd];rfl
   simpa using this
  have Jl:gens.drop (k+1)=gs:=by
   have:=congrArg (List.drop 1) hd;simpa [d7,Nat.add_comm] using this
  have hb:=QW w y V M Y r (λj m=>Jb j (ax _ m)) (k+1) Jl;have hn:gens[k+1]?=Jf \/ ∃BA su uU,gens[k+1]?=Jd ⟨BA,su,uU,0⟩:=by
   have e:gens[k+1]?=gs[0]?:=by rw[<- Jl];simp
   cases r with
   |nil=>exact .inl (by rw[e];rfl)
   |cons _ _ _ _ _=>exact .inr ⟨_,_,_,by rw[e];rfl⟩
  intro a s P H G u O n Q E z B q;unfold Ba;rw[N];simp only[bne_self_eq_false,cy,if_false];cases g:c.it u O with
  |exc R O'=>unfold ug at q;rw[g] at q;exact q.elim
  |bad=>unfold ug at q;rw[g] at q;exact q.elim
  | ok src O1=>
   have t:yt X C A XV a P H G (pK (c::cs)) (pR src (tR c cs em u) (src.size O1) 0 O1 n) Q:=by
    have:=q;unfold ug at this;rw[g] at this;exact this
   refine aa (Aw y (hi.out a s P H (λJ d=>∃b,Ext H G d b/\nk X.K d (A::XV) b O1/\ny X.K J src d (A::XV) b) B.inv ⟨A::XV,G,u,O,B.env,B.cells,by rw[g];exact λJ d b x c S=>⟨b,x,c,S⟩⟩) λv s1 h1=>?_);refine aa (dU ?_);refine aa (ma (hs v) ?_);refine aa (bK (Aw y h1 λFz s2 h2=>?_));obtain⟨it,fp,tn,J,o,e,I2,T,pJ,f2,p,I,c2,S⟩:=h2;subst e;refine aa (wpAny_runOwn (h:=Jf) ?_);show codeAny _ X.A _ _ _;have nA:A∉G:=λm=>B.cells.nh A m 'd';refine RG w N T 0 pJ ?_;refine fZ (Rc w (A:=A) (XV:=XV) (em:=em) (c:=c) (cs:=cs) y V N hg hf (λD F d b o p z1 k1 x1=>M D F d b o p z1 (λj hj=>k1 j λm=>hj (Jb j m)) x1) hb hn T a s2 P o p u O1 n (src.size O1) (λL=>Q L) pJ f2 S (M _ _ _ _ _ _ z (λ_ _=>rfl) I.ea) ⟨I2,B.env.ext I,c2,w.keep B.grown nA I⟩ ?_) λr L hr=>?_
   ·cases U:pR src (tR c cs em u) (src.size O1) 0 O1 n with
    |exc R O'=>rw[U] at t;exact t.elim
    |bad=>rw[U] at t;exact t.elim
    | ok pI O'=>
     rw[U] at t;exact λL o6 H' c_ I' x' R g' l' k'=>t L o6 H' c_ I' (I.ea.trans x') R g' l' k'
   ·obtain⟨f,rfl,hq⟩:=hr;exact aq hq
end
def pU(X:Cx)(N':List az)(scope:cG)(cells:List (az×ab))(C:ab)(s:ag)(H:Hp)(fp:List ab):Cx:=
 { X with
  N:=N',s₀:=s,H₀:=H
  env:={ scope:=relabel scope X.env,locals:=C,globals:=X.env.globals,cells:=cells,qual:=X.env.qual,func:=Jf,code:=X.env.code,frame:=X.env.frame,builtins:=X.env.builtins }
  outer:=X.stack,ex:=fp,fn:=λx=>scope.names.lookup x==Jd .cell,pn:=[],xe:=λ_ _=>False }
structure v7(sc scope:cG)(N':List az)(sl:g_):Prop where
 kind:scope.kind=.function
 nd:(scope.names.map (·.1)).Nodup
 frees:∀y∈scope.names,y.2=.free->sc.names.lookup y.1=Jd .cell\/sc.names.lookup y.1=Jd .free
 own:∀(i:Nat)x,N'[i]?=Jd x->(x,NameKind.local)∈scope.names\/(x,de)∈scope.names->i∈sl
theorem yB{β:Type}:∀{l:List (az×β)}{x:az}{b:β},(l.map (·.1)).Nodup->(x,b)∈l->l.lookup x=Jd b
 |[],_,_,_,h=>by cases h
 | (y,c)::r,x,b,nd,h=>by
  obtain⟨a,d⟩:=bo.mp nd;rcases ar.mp h with e|h
  ·cases e;simp[eD]
  ·have f:x≠y:=λe=>a (av.mpr ⟨(x,b),h,e⟩);rw[eD];have:(x==y)=Jh:=⇑f
   rw[this];exact yB d h
theorem L6(a:Env)(x:az):∀(names:List (az×cT)),(names.map λ(n,k)=>if (k==cS&&a.scope.kind == .function&&a.kindOf n==Jd .cell) then (n,de) else (n,k)).lookup x =
  (names.lookup x).map λk=>if (k==cS&&a.scope.kind == .function&&a.kindOf x==Jd .cell) then de else k
 |[]=>rfl
 | (n,k)::r=>by
  show List.lookup x ((if (k==cS&&a.scope.kind == .function&&a.kindOf n==Jd .cell)=Jg then (n,de) else (n,k))::_)=_;cases b:x==n with
  | true=>
   have e:x=n:=⇑b
   subst e;simp;split
   ·rename_i h;simp[eD,h]
   ·rename_i h;simp[eD,h]
  | false=>
   have c:=L6 a x r;simp only[eD,b];rw[<- c];split<;>simp only[eD,b]
def Ub(h:uA (relabel scope env) x):(x,NameKind.local)∈scope.names\/(x,de)∈scope.names\/(x,cS)∈scope.names:=by
 unfold uA relabel at h;simp only[L6] at h;cases e:scope.names.lookup x with
 |none=>rw[e] at h;simp at h
 | some k=>
  have m:=bD e;cases k with
  | «local»=>exact .inl m
  |cell=>exact .inr (.inl m)
  |free=>exact .inr (.inr m)
  |_=>rw[e] at h;simp at h
noncomputable def q_(cells:List (az×ab)):List (az×cT)->List (az×ab)->List (az×ab)
 |[],Ja=>Ja
 |(n,k)::r,Ja=>if k == .free then q_ cells r ((n,(cells.lookup n).getD 0)::Ja) else q_ cells r Ja
def Ud(h:∀y∈scope.names,y.2=.free->∃c,env.cells.lookup y.1=Jd c):closureFor scope env=pure (q_ env.cells scope.names []):=by
 have f:∀(b:List (az×cT))(d:List (az×ab)),(∀y∈b,y.2=.free->∃c,env.cells.lookup y.1=Jd c)->
   (forIn b d λ(x:az×cT)(e:List (az×ab))=>(if x.2 == .free then (do let a <- cellOf env x.1;pure (fM ((x.1,a)::e))) else pure (fM e):Sem _))=pure (q_ env.cells b d):=by
  intro b
  induction b with
  |nil=>intro d _;rfl
  | cons y r ih=>
   intro d g;obtain⟨n,k⟩:=y;rw[gq];unfold q_;by_cases i:(k==cS)=Jg
   ·obtain⟨c,l⟩:=g (n,k) am ⇑i;have o:cellOf env n=pure c:=by unfold cellOf;rw[l]
    simp only[i,if_true,o,pure_bind,l,Option.getD_some];exact ih _ λy j=>g y (ak _ j)
   ·simp only[i,if_false,pure_bind,cy];exact ih _ λy j=>g y (ak _ j)
 have:=f scope.names [] h;refine Eq.trans ?_ (congrArg (λm=>m >>= λe=>pure e) this);congr 1
theorem HU:∀(names:List (az×cT))(Ja:List (az×ab)),(x,c)∈q_ cells names Ja->(x,c)∈Ja\/((x,cS)∈names/\c=(cells.lookup x).getD 0)
 |[],Ja,h=>.inl h
 | (n,k)::r,Ja,h=>by
  unfold q_ at h;by_cases a:(k==cS)=Jg
  ·rw[Ji a] at h;rcases HU r _ h with m|⟨m,e⟩
   ·rcases ar.mp m with m|m
    ·cases m;have:k=.free:=⇑a
     subst this;exact .inr ⟨am,rfl⟩
    ·exact .inl m
   ·exact .inr ⟨ak _ m,e⟩
  ·rw[Jk a] at h;rcases HU r _ h with m|⟨m,e⟩
   ·exact .inl m
   ·exact .inr ⟨ak _ m,e⟩
theorem LN:∀(names:List (az×cT))(Ja:List (az×ab)),p∈Ja->p∈q_ cells names Ja
 |[],Ja,h=>h
 | (n,k)::r,Ja,h=>by
  unfold q_;split
  ·exact LN r _ (ak _ h)
  ·exact LN r _ h
theorem HW:∀(names:List (az×cT))(Ja:List (az×ab)),(x,cS)∈names->(x,(cells.lookup x).getD 0)∈q_ cells names Ja
 | (n,k)::r,Ja,h=>by
  unfold q_;rcases ar.mp h with e|h
  ·cases e;exact LN r _ am
  ·split
   ·exact HW r _ h
   ·exact HW r _ h
theorem Kb:∀(names:List (az×cT))(n:Nat)(Ja:List (az×ab)),(x,c)∈cr n names Ja->(x,c)∈Ja\/((x,de)∈names/\n<=c)
 |[],n,Ja,h=>.inl h
 | (y,k)::r,n,Ja,h=>by
  unfold cr at h;by_cases a:(k==de)=Jg
  ·rw[Ji a] at h;rcases Kb r _ _ h with m|⟨m,e⟩
   ·rcases ar.mp m with m|m
    ·cases m;have:k=.cell:=⇑a
     subst this;exact .inr ⟨am,aE _⟩
    ·exact .inl m
   ·exact .inr ⟨ak _ m,Nat.le_of_succ_le e⟩
  ·rw[Jk a] at h;rcases Kb r _ _ h with m|⟨m,e⟩
   ·exact .inl m
   ·exact .inr ⟨ak _ m,e⟩
theorem Kh:∀(names:List (az×cT))(n:Nat)(Ja:List (az×ab)),p∈Ja->p∈cr n names Ja
 |[],_,_,h=>h
 | (y,k)::r,n,Ja,h=>by
  unfold cr;split
  ·exact Kh r _ _ (ak _ h)
  ·exact Kh r _ _ h
theorem Ld:∀(names:List (az×cT))(n:Nat)(Ja:List (az×ab)),(Ja.Pairwise λx y=>x.2≠y.2)->(∀p∈Ja,p.2<n)->(cr n names Ja).Pairwise λx y=>x.2≠y.2
 |[],_,_,h,_=>h
 | (y,k)::r,n,Ja,h,hl=>by
  unfold cr;split
  ·refine Ld r (n+1) _ (bw.mpr ⟨λp hp=>?_,h⟩) λp hp=>?_
   ·exact λe=>absurd (hl p hp) (by show ¬ p.2<n;rw[<- e];exact cR _)
   ·rcases ar.mp hp with rfl|hp
    ·exact fu _
    ·exact gW (hl p hp)
  ·exact Ld r n Ja h hl
theorem K6:∀(names:List (az×cT))(n:Nat)(Ja:List (az×ab)),((names.map (·.1)).Nodup)->(Ja.map (·.1)).Nodup->(∀p∈Ja,∀k,(p.1,k)∈names->k≠de)->((cr n names Ja).map (·.1)).Nodup
 |[],_,_,_,h,_=>h
 | (y,k)::r,n,Ja,nd,h,hl=>by
  obtain⟨f,d⟩:=bo.mp nd;unfold cr;by_cases c:(k==de)=Jg
  ·rw[Ji c];have g:k=.cell:=⇑c
   refine K6 r (n+1) _ d (bo.mpr ⟨λm=>?_,h⟩) λp hp a b=>?_
   ·obtain⟨p,hp,e⟩:=av.mp m;exact hl p hp k (by rw[e];exact am) g
   ·rcases ar.mp hp with rfl|hp
    ·exact absurd (av.mpr ⟨(y,a),b,rfl⟩) f
    ·exact hl p hp a (ak _ b)
  ·rw[Jk c];exact K6 r n Ja d h λp hp a b=>hl p hp a (ak _ b)
theorem H8:∀(names:List (az×cT))(Ja:List (az×ab)),((names.map (·.1)).Nodup)->(Ja.map (·.1)).Nodup->(∀p∈Ja,p.1∉names.map (·.1))->((q_ cells names Ja).map (·.1)).Nodup
 |[],_,_,h,_=>h
 | (y,k)::r,Ja,nd,h,hl=>by
  obtain⟨b,a⟩:=bo.mp nd;unfold q_;split
  ·refine H8 r _ a (bo.mpr ⟨λm=>?_,h⟩) λp hp=>?_
   ·obtain⟨p,hp,e⟩:=av.mp m;exact hl p hp (by rw[e];simp)
   ·rcases ar.mp hp with rfl|hp
    ·exact b
    ·exact λm=>hl p hp (ak _ m)
  ·exact H8 r Ja a h λp hp m=>hl p hp (ak _ m)
theorem KE:∀(names:List (az×cT))(h:aV)(Ja:List (az×ab)),(x,c)∈cr h.objs.size names Ja->(x,c)∈Ja\/(lv h names).IsCell c Jf
 |[],_,_,m=>.inl m
 | (y,k)::r,h,Ja,m=>by
  unfold cr at m;unfold lv;by_cases a:(k==de)=Jg
  ·rw[Ji a] at m ⊢;have e:h.objs.size+1=(h.push { cls:=.type "cell",data:=.cell Jf }).objs.size:=(cU ..).symm;rw[e] at m;rcases KE r _ _ m with m|m
   ·rcases ar.mp m with m|m
    ·cases m;exact .inr ⟨_,iz _ _ _ _ (aO _ rfl),rfl⟩
    ·exact .inl m
   ·exact .inr m
  ·rw[Jk a] at m ⊢;exact KE r _ _ m
def z8q{l:List (az×ab)}(d:(l.map (·.1)).Nodup)(inj:∀p∈l,∀q∈l,p.2=q.2->p.1=q.1):l.Pairwise λx y=>x.2≠y.2:=by
 induction l with
 |nil=>exact .nil
 | cons p r ih=>
  obtain⟨f,g⟩:=bo.mp d;refine bw.mpr ⟨λq c e=>f ?_,ih g λa h b i=>inj a (ak _ h) b (ak _ i)⟩;exact av.mpr ⟨q,c,(inj p am q (ak _ c) e).symm⟩
abbrev D8:Obj:={ cls:=.type "dict",data:=.dict #[] }
section
variable{X:Cx}{Y1:List (ab×Obj)}{b_:St}{H:Hp}{s:ag}
abbrev GW(ob:Obj)(h:aV)(names:List (az×cT)):aV:=lv ((h.push ob).push D8) names
def T9(c:Obj)(h:aV)(a:List (az×cT))(b:ab)(o:Obj)(e:h.get? b=Jd o):(GW c h a).get? b=Jd o:=iz _ _ _ _ (ai _ (ai _ e))
def VZ(a:Obj)(h:aV):((h.push a).push D8).objs.size=h.objs.size+2:=by rw[cU,cU]
def zcy{d:cG}{ext:List az}{Q:g_}{G:List ab}(I:L2.Inv X Y1 b_ H s)(D:∀b∈G,rC X Y1 H b)(R:∀b∈G,b<s.heap.objs.size)(j:v7 X.env.scope d (X.N++ext) Q){A:Obj}{u:HO}(Ni:A.isFreed=Jh)(vh:∀h:aV,h.get? s.heap.objs.size=Jd A->nJ X.prog X.w (upd H s.heap.objs.size u) h s.heap.objs.size u):
  L2.Inv (pU X (X.N++ext) d (cr (s.heap.objs.size+2) d.names (q_ X.env.cells d.names [])) (s.heap.objs.size+1) s H G) [] (pf (b_++aH ext.length Jf) Q)
   (upd H s.heap.objs.size u) { s with heap:=GW A s.heap d.names }:=by
 have S:∀x c,X.env.cells.lookup x=Jd c->c<s.heap.objs.size:=λx c e=>by
  obtain⟨v,z⟩:=I.cell x c e;exact z.lt
 -- a free name of zB block has d_ cell around
 have T:∀x,(x,cS)∈d.names->∃c,X.env.cells.lookup x=Jd c:=λx g=>I.ok.has x (j.frees _ g rfl);have B:∀x c,(x,c)∈q_ X.env.cells d.names []->(x,cS)∈d.names/\X.env.cells.lookup x=Jd c:=λx c hm=>by
  rcases HU _ _ hm with m|⟨m,e⟩
  ·cases m
  ·obtain⟨c',U⟩:=T x m;rw[U] at e;exact⟨m,by rw[e];exact U⟩
 have J:∀x,(x,cS)∈d.names->∀c,X.env.cells.lookup x=Jd c->(x,c)∈q_ X.env.cells d.names []:=λx g c e=>by
  have:=HW (cells:=X.env.cells) d.names [] g;rw[e] at this;exact this
 have V:((q_ X.env.cells d.names []).map (·.1)).Nodup:=H8 _ _ j.nd 'd' (by intro p n;cases n);have K:((cr (s.heap.objs.size+2) d.names (q_ X.env.cells d.names [])).map (·.1)).Nodup:=K6 _ _ _ j.nd V λp n k hk e=>by
  subst e;have l:=(B p.1 p.2 n).1;have:=yB j.nd l;rw[yB j.nd hk] at this;cases this
 have t:(cr (s.heap.objs.size+2) d.names (q_ X.env.cells d.names [])).Pairwise λx y=>x.2≠y.2:=by
  refine Ld _ _ _ (z8q V λp n q hq e=>?_) λp n=>bi (S _ _ (B p.1 p.2 n).2) (ig _ _);refine I.ok.inj p.1 q.1 p.2 (B p.1 p.2 n).2 ?_;rw[e];exact(B q.1 q.2 hq).2
 have L:∀x c,(cr (s.heap.objs.size+2) d.names (q_ X.env.cells d.names [])).lookup x=Jd c->((x,cS)∈d.names/\X.env.cells.lookup x=Jd c)\/((x,de)∈d.names/\s.heap.objs.size+2<=c):=λx c e=>by
  rcases Kb _ _ _ (bD e) with m|m
  ·exact .inl (B x c m)
  ·exact .inr m
 have f:∀a,s.heap.objs.size<=a->H a=Jf:=λa ha=>I.hok.fresh ha;have E:=T9 A s.heap d.names;have W:∀x,(x,cS)∈d.names->∀c,X.env.cells.lookup x=Jd c->(cr (s.heap.objs.size+2) d.names (q_ X.env.cells d.names [])).lookup x=Jd c:=λx g c e=>
  yB K (Kh _ _ _ (J x g c e))
 refine⟨⟨I.ok.mod,j.kind,I.ok.glob,I.ok.blt,d9 _,λx y c l M=>name_of_addr t (bD l) (bD M),λx g=>?_,λx c g h=>?_,I.ok.hd,I.ok.frames,.inl rfl,λb r=>⟨?_,λx c e=>?_⟩,I.bs,?_,λb o e r=>?_,λb r z=>?_,I.stack,I.stkFree⟩,
  rfl,I.bare,Un.laid E (aE _) (f _ (aE _)),?_,λx c e=>?_,?_,λx c e=>?_,λp n=>absurd (show p∈([]:List (ab×Obj)) from n) 'd',I.hok.laid E (aE _) ?_,?_,I.tk⟩
 ·-- has
  have g:uA (relabel d X.env) x:=.inr g;rcases Ub g with m|m|m
  ·exfalso;have e:=yB j.nd m;have Y:(relabel d X.env).names.lookup x=Jd .local:=lookup_relabel_local e;rcases (show(relabel d X.env).names.lookup x=Jd .cell\/(relabel d X.env).names.lookup x=Jd .free by rename_i O;exact O) with q|q
   ·rw[Y] at q;cases q
   ·rw[Y] at q;cases q
  ·exact gA.mp (g9 d.names _ _ (.inl (yB j.nd m)))
  ·obtain⟨c,P⟩:=T x m;exact⟨c,W x m c P⟩
 ·-- cab
  have g:(d.names.lookup x==Jd .cell)=Jg:=g;rcases L x c h with⟨m,_⟩|⟨_,m⟩
  ·rw[yB j.nd m] at g;cases g
  ·exact aG (ig _ _) m
 ·exact bt (gW (R b r))
 ·rcases L x c e with⟨_,m⟩|⟨_,m⟩
  ·exact(D b r).2.2.2.2.1 x c m
  ·have O:=R b r;exact λz=>by
    rw[z] at m;exact absurd (bi O (aG (ig _ 2) m)) (cR _)
 ·exact aG I.ok.bsz I.sz
 ·rcases (D b r).2.2.2.1 with z|z
  ·exact I.ok.noex b o e z
  ·exact absurd (bi (aR e) (aG I.ok.bsz z)) (cR _)
 ·rcases ar.mp (I.stkSub b z) with q|q
  ·exact(D b r).2.1 q
  ·exact(D b r).2.2.1 q
 ·-- loc
  refine⟨λ_=>Jf,?_,λi x v l M h3=>?_⟩
  ·have z:=(Heap.Ns.new (s.heap.push A) (.type "dict")).keeps (iz d.names _);rw[cU] at z;exact z
  ·obtain⟨C,Z⟩:=Hi _ _ _ _ M;have F:i<b_.length:=by
    by_cases F:i<b_.length
    ·exact F
    ·rw[bb 'o',fy] at C;split at C<;>cases C
   rw[aF F] at C;have zI:X.N[i]?=Jd x:=by
    have l:(X.N++ext)[i]?=Jd x:=l;rw[aF (by rw[<- I.len];exact F)] at l;exact l
   rcases Ub h3 with m|m|m
   ·exact absurd (j.own i x l (.inl m)) Z
   ·exact absurd (j.own i x l (.inr m)) Z
   ·obtain⟨m0,hn,hl⟩:=I.loc;have kx:=j.frees _ m rfl;obtain⟨u,ru,lk⟩:=hl i x v zI C (.inr kx);refine⟨u,ru,?_⟩;rcases lk with⟨q,_⟩|⟨q,c,P,z⟩
    ·exfalso;have q:X.env.scope.names.lookup x=Jd .local:=q;rcases kx with k|k<;>(rw[q] at k;cases k)
    ·refine .inr ⟨?_,c,W x m c P,z.keeps E⟩;have e:=yB j.nd m;show(relabel d X.env).names.lookup x=Jd .cell\/(relabel d X.env).names.lookup x=Jd .free;unfold relabel;simp only[L6,e,jO];split
     ·exact .inl rfl
     ·exact .inr rfl
 ·-- cell
  rcases KE d.names ((s.heap.push A).push D8) (q_ X.env.cells d.names []) (by rw[VZ];exact bD e) with m|m
  ·obtain⟨v,z⟩:=I.cell x c (B x c m).2;exact⟨v,z.keeps E⟩
  ·exact⟨Jf,m⟩
 ·show upd H s.heap.objs.size u (s.heap.objs.size+1)=Jf;rw[o9 (eJ (fu _))];exact f _ (d9 _)
 ·rcases L x c e with⟨_,m⟩|⟨_,m⟩
  ·rw[o9 (bt (S x c m))];exact I.freeC x c m
  ·have ne:c≠s.heap.objs.size:=λz=>by
    rw[z] at m;exact absurd m 'o'
   rw[o9 ne];exact f c (aG (ig _ 2) m)
 ·exact vh _ (iz _ _ _ _ (ai _ (aO _ Ni)))
 ·show _=(X.N++ext).length;rw[Eh,aw,io,aw,I.len]
end
def vM{α:Type}:R α->R α
 |.ok a O=>.ok a O
 |_=>.bad
def Ao(ext:Nat)(it0:DI)(g:Tg)(ts:List DT)(cs:List Cl)(em:Em):Sg->Ow->R (List D):=λσ O=>(it0 σ O).bnd λsrc O1=>
 vM (pR src (tR ⟨it0,g,ts⟩ cs em (pf (σ++aH ext Jf) (pK (⟨it0,g,ts⟩::cs)))) (src.size O1) 0 O1 [])
def yw(ext:Nat)(it0:DI)(g:Tg)(ts:List DT)(cs:List Cl)(te:DE):Sg->Ow->R (List D):=λσ O=>(it0 σ O).bnd λsrc O1=>
 vM (pR src (xh ⟨it0,g,ts⟩ cs te (pf (σ++aH ext Jf) (pK (⟨it0,g,ts⟩::cs)))) (src.size O1) 0 O1 [])
def LK(ext:Nat)(it0:DI)(g:Tg)(ts:List DT)(cs:List Cl)(te:DE):Ao ext it0 g ts cs (zT te)=yw ext it0 g ts cs te:=by funext σ O;unfold Ao yw;rw[Z3]
def ZB(b_:St)(n:Nat)(sl:g_)(A:ab)(H0:Hp):St->Hp->List ab->Prop:=λσ H μ=>(∀j,j∉sl->σ[j]?=(b_++aH n Jf)[j]?)/\H0 A=Jf/\∃Gp o,Ea A (upd H0 A o) Gp H μ/\∀a∈Gp,∃vs,H0 a=Jd (.lst vs)
section
variable{C:u_}{em:Em}
variable{X:Cx}{M:iw}{A:be}{E:ae->ag->Prop}{s:ag}
def z8k
  (h:Q { scope,locals:=s.heap.objs.size,globals,cells:=cr (s.heap.objs.size+1) scope.names cl,qual,func:=Jf,code:=env.code,frame:=env.frame,builtins:=env.builtins } { s with heap:=lv (s.heap.push D8) scope.names }):
  ay M A (newFunctionEnv scope globals cl [] qual Jf .none (Jd env)) Q E s:=by simp only[newFunctionEnv,lr,if_true];refine aa (wpAny_alloc ?_);refine aa (wpAny_layCells _ (λc a cells=>by cases b:a==de<;>simp[b]) _ _ _ _ ?_);rw[show({ s with heap:=s.heap.push D8 }:ag).heap.objs.size=s.heap.objs.size+1 from cU ..];exact aq h
structure O9(X:Cx)(C:u_)(Y1:List (ab×Obj))(b_:St)(H:Hp)(XV μ:List ab)(L Cn:ab)(Ja:List D)(O:Ow)(s':ag):Prop where
 inv:∃H' c_,L2.Inv X Y1 b_ H' s'/\Ext H μ H' c_/\nk X.K H' (L::XV) c_ O/\H L=Jf/\H' Cn=Jf/\C.G X.K X.prog X.w L XV H' c_ Ja
 ns:∃m,s'.heap.Ns Cn m
 loc:Cn≠X.env.locals
 young:X.s₀.heap.objs.size<=Cn
 cel:∀x c,X.env.cells.lookup x=Jd c->c≠Cn
 pns:∀p∈X.pn++Y1,p.1≠Cn
def Inv.bare{a:List (ab×Obj)}{j:St}{H:Hp}{f:ag}{C:ab}{h':aV}(I:L2.Inv X a j H f)(k:dB C f.heap h')(l:H C=Jf)(g:C≠X.env.locals)(d:X.s₀.heap.objs.size<=C)(h:∀x c,X.env.cells.lookup x=Jd c->c≠C)
  (i:∀p∈X.pn++a,p.1≠C):L2.Inv X a j H { f with heap:=h' }:=I.turned (λb o m e=>(k.2 b m).trans e) l g (.inr d) h i
def zbf(V:Bl C)
  {it:ab} {u:List ab} {tn:Nat->aV->Prop} {J:It} {RR:ae->ab->Result->ag->Prop}
  (oN:X.calm=Jg) (W:v7 X.env.scope scope (X.N++ext) (pK (⟨it0,g,ts⟩::cs)))
  (rQ:∀cells Cn,PG (pU X (X.N++ext) scope cells Cn s H u) tg (g.rd X.K)/\bR (λe t=>qM (pU X (X.N++ext) scope cells Cn s H u) pS e t) ifs ts/\nN (pU X (X.N++ext) scope cells Cn s H u) gs cs/\∀A XV k,(⟨tg,iter,ifs,0⟩::gs:List bC)[k]?=Jf->zp (pU X (X.N++ext) scope cells Cn s H u) (ZB b_ ext.length (pK (⟨it0,g,ts⟩::cs)) A H) C A XV (C.ex (⟨tg,iter,ifs,0⟩::gs) scope pos) (⟨tg,iter,ifs,0⟩::gs) em k [])
  (I:L2.Inv X Y1 b_ H s) (e1:nq X.K H XV μ σ b_) (L:nk X.K H XV μ O) (T:v9 X.prog X.w X.K tg J u it tn) (st:tn 0 s.heap) (xY:∀b∈u,rC X Y1 H b) (sa:ny X.K J src H XV μ)
  (hw:pR src (tR ⟨it0,g,ts⟩ cs em (pf (σ++aH ext.length Jf) (pK (⟨it0,g,ts⟩::cs)))) (src.size O) 0 O []=.ok Ja O2)
  (hRR:∀f B,O9 X C Y1 b_ H XV μ s.heap.objs.size (s.heap.objs.size+1) Ja O2 B->RR (.ref s.heap.objs.size) (s.heap.objs.size+1) (.ok f) B):
  ay (aC X.prog X.w) X.A C.new (λac vJ=>ay (aC X.prog X.w) X.A (newFunctionEnv scope X.env.globals (q_ X.env.cells scope.names []) [] X.env.qual Jf .none (Jd X.env)) (λGe Mo=>
   codeAny (aC X.prog X.w) X.A (.compStart (C.ex (⟨tg,iter,ifs,0⟩::gs) scope pos) 0 (.ref it) ac { Ge with scope:=relabel scope X.env }) (RR ac Ge.locals) Mo) E vJ) E s:=by
 refine V.new λY Ni vh=>(z8k ?_);have Z:(s.heap.push Y).objs.size=s.heap.objs.size+1:=cU ..;have pW:∀b∈u,b<s.heap.objs.size:=λb W=>by
  obtain⟨o,ho,_⟩:=T.obj 0 _ st b W;exact aR ho
 have IB:=zcy I xY pW W Ni (λh=>vh H h _ I.big);have D:=I.hok.fresh (aE _);have qB:∀b∈u,b≠s.heap.objs.size:=λb W=>bt (pW b W);obtain⟨b1,b2,b3,b4⟩:=rQ (cr (s.heap.objs.size+2) scope.names (q_ X.env.cells scope.names [])) (s.heap.objs.size+1);generalize l:pU X (X.N++ext) scope (cr (s.heap.objs.size+2) scope.names (q_ X.env.cells scope.names [])) (s.heap.objs.size+1) s H u=y at IB b1 b2 b3 b4;have eP:y.prog=X.prog:=by rw[<- l];rfl
 have eW:y.w=X.w:=by rw[<- l];rfl
 have F:y.K=X.K:=by rw[<- l];rfl
 have eA:y.A=X.A:=by rw[<- l];rfl
 have ex:y.xe=λ_ _=>False:=by rw[<- l];rfl
 have ec:y.calm=Jg:=by rw[<- l];exact oN
 have Cf:y.env={ scope:=relabel scope X.env,locals:=s.heap.objs.size+1,globals:=X.env.globals,cells:=cr (s.heap.objs.size+2) scope.names (q_ X.env.cells scope.names []),qual:=X.env.qual,func:=Jf,code:=X.env.code,frame:=X.env.frame,builtins:=X.env.builtins }:=by rw[<- l];rfl
 have Gc:({ ({ scope,locals:=(s.heap.push Y).objs.size,globals:=X.env.globals,cells:=cr ((s.heap.push Y).objs.size+1) scope.names (q_ X.env.cells scope.names []),qual:=X.env.qual,func:=Jf,code:=X.env.code,frame:=X.env.frame,builtins:=X.env.builtins }:Env) with scope:=relabel scope X.env }:Env)=y.env:=by
  rw[Cf,Z]
 rw[Gc,Z];have MF:Mv H XV μ (upd H s.heap.objs.size (C.ho X.prog X.w s.heap.objs.size)) (s.heap.objs.size::XV) μ:=(Mv.hide D).trans ⟨⟨[],by simp⟩,λb o h _ n2 _=>by rw[o9 (λz=>n2 (by simp[z]))];exact h,λ_ m=>.inl m,λ_ m=>.inl m,xq,λ_ t=>t.upd (.inl D)⟩;have c2:nk X.K (upd H s.heap.objs.size (C.ho X.prog X.w s.heap.objs.size)) (s.heap.objs.size::XV) μ O:=by
  refine⟨L.len,L.nd,λa m z=>?_,λa m=>?_,λk a e=>?_⟩
  ·rcases ar.mp z with rfl|z
   ·exact(L.not_in D).2 m
   ·exact L.nh a m z
  ·rcases ar.mp m with rfl|m
   ·rw[qP];simp
   ·exact xq a (L.ht a m)
  ·obtain⟨ds,vs,R,S,h3⟩:=L.at_ k a e;exact⟨ds,vs,R,by rw[o9 (rf S D)];exact S,h3.mv MF⟩
 have e2:nq X.K (upd H s.heap.objs.size (C.ho X.prog X.w s.heap.objs.size)) (s.heap.objs.size::XV) μ (pf (σ++aH ext.length Jf) (pK (⟨it0,g,ts⟩::cs))) (pf (b_++aH ext.length Jf) (pK (⟨it0,g,ts⟩::cs))):=by
  refine⟨by rw[Eh,Eh,aw,aw,e1.len];simp,λi d h=>?_⟩;obtain⟨g1,g2⟩:=Hi _ _ _ _ h;have hi:i<σ.length:=by
   by_cases hi:i<σ.length
   ·exact hi
   ·rw[bb 'o',fy] at g1;split at g1<;>cases g1
  rw[aF hi] at g1;obtain⟨v,R,S⟩:=e1.at_ i d g1;exact⟨v,by rw[KY _ _ _ g2,aF (by rw[<- e1.len];exact hi)];exact R,S.mv MF⟩
 have Nj:∀b∈u,rC y [] (upd H s.heap.objs.size (C.ho X.prog X.w s.heap.objs.size)) b:=λb G=>by
  obtain⟨f0,f1,f2,f3,f4,f5⟩:=xY b G;have R:=IB.ok.exf;refine⟨by rw[o9 (qB b G)];exact f0,?_,?_,.inl ?_,?_,?_⟩
  ·exact(R b (by rw[<- l];exact G)).1
  ·rw[<- l];exact λz=>IB.ok.exfs b (by rw[<- l];exact G) (by rw[<- l];exact z)
  ·rw[<- l];exact G
  ·exact(R b (by rw[<- l];exact G)).2
  ·rw[<- l];exact λp hp=>absurd (show p∈([]:List (ab×Obj)) from hp) 'd'
 have j_:tn 0 (GW Y s.heap scope.names):=T.keep _ _ _ st λb _ o e=>T9 _ _ _ _ _ e;have T':v9 y.prog y.w y.K tg J u it tn:=by rw[eP,eW,F];exact T
 have Vl:∀(qj rR:St)H1 e_ H2 oW,ZB b_ ext.length (pK (⟨it0,g,ts⟩::cs)) s.heap.objs.size H qj H1 e_->(∀j,j∉pK (⟨it0,g,ts⟩::cs)->rR[j]?=qj[j]?)->Ea s.heap.objs.size H1 e_ H2 oW->ZB b_ ext.length (pK (⟨it0,g,ts⟩::cs)) s.heap.objs.size H rR H2 oW:=
  λqj rR H1 e_ H2 oW ⟨z1,z2,Gp,o,z3,z4⟩ k1 x1=>⟨λj hj=>(k1 j hj).trans (z1 j hj),z2,Gp,o,z3.trans x1,z4⟩
 have key:=Rc V ex ec rfl (by rw[F];exact b1) b2 Vl (QW V ex ec Vl (b4 _ _) b3 (λj m=>ax _ m) 1 rfl) (by
   cases b3 with
   |nil=>exact .inl rfl
   |cons _ _ _ _ _=>exact .inr ⟨_,_,_,rfl⟩) T' [] { s with heap:=GW Y s.heap scope.names } (pf (b_++aH ext.length Jf) (pK (⟨it0,g,ts⟩::cs))) (upd H s.heap.objs.size (C.ho X.prog X.w s.heap.objs.size)) μ (pf (σ++aH ext.length Jf) (pK (⟨it0,g,ts⟩::cs))) O [] (src.size O)
   (λB=>O9 X C Y1 b_ H XV μ s.heap.objs.size (s.heap.objs.size+1) Ja O2 B) j_ Nj (by rw[F];exact sa.mv MF) ⟨λj hj=>KY _ _ _ hj,D,μ,_,.refl,λa m=>by
    obtain⟨k,e⟩:=List.getElem?_of_mem m;obtain⟨_,vs,_,S,_⟩:=L.at_ k a e;exact⟨vs,S⟩⟩ ⟨IB,by rw[F];exact e2,by rw[F];exact c2,by rw[F,eP,eW];exact V.g0⟩ ?_
 ·have Fy:=RG V rfl T' 0 j_ key;rw[eP,eW,eA] at Fy;exact fZ Fy λr B ⟨f,hr,q⟩=>by subst hr;exact hRR f B q
 ·rw[hw];intro B o6 H' c_ U x' c' g' l' k';rw[F] at c';rw[F,eP,eW] at g';have xe:Ext H μ H' c_:=⟨x'.pre,λb o h n ht=>x'.kept b o (by rw[o9 (rf h D)];exact h) n (rf h D) ht,λb m=>(x'.fresh b m).imp id λz=>by
   by_cases q:b=s.heap.objs.size
   ·rw[q];exact D
   ·rw[o9 q] at z;exact z,λb h=>x'.there b (xq b h),λP t=>x'.tab P (t.upd (.inl D))⟩
  have un:Un (t8 X.stack) u H H' s.heap B.heap:=by
   have:=U.base;rw[<- l] at this;exact this
  have os:B.os=s.os:=by
   have:=U.os;rw[<- l] at this;exact this
  have hok:HOk X.prog X.w H' B.heap:=by
   have:=U.hok;rw[eP,eW] at this;exact this
  have IX:=I.call' os un hok U.bare λb G=>by
   obtain⟨f0,f1,f2,f3,f4,f5⟩:=xY b G;exact⟨f3,f1,f4,f5⟩
  have Q:∀b,b<s.heap.objs.size->b≠s.heap.objs.size+1:=λb h=>bt (gW h);refine⟨⟨H',c_,IX,xe,c',D,?_,g'⟩,?_,?_,?_,λx c e=>?_,λp hp=>?_⟩
  ·have:=U.free;rw[Cf] at this;exact this
  ·obtain⟨m,hn,_⟩:=U.loc;rw[Cf] at hn;exact⟨m,hn⟩
  ·exact(Q _ I.lt).symm
  ·exact aG I.sz (d9 _)
  ·obtain⟨v,z⟩:=I.cell x c e;exact Q _ z.lt
  ·exact Q _ (aR (I.pin p hp).1)
end
section
variable{X:Cx}{Ex:Nat->Hp->Prop}
def Xh{α:Type}{r:R α}{a:α}{O:Ow}(h:vM r=.ok a O):r=.ok a O:=by
 cases r with
 |ok _ _=>exact h
 |exc _ _=>cases h
 |bad=>cases h
def ziS{α:Type}{r:R α}{c:Nat}{O:Ow}(h:vM r=.exc c O):False:=by cases r<;>cases h
def GL(C:u_)(Ex:Nat->Hp->Prop)(K:ah)(P:aQ)(w:a8)(H:Hp)(XV μ:List ab)(r:R (List D))(Q:ab->Hp->Prop):Prop:=match r with
 |.ok Ja O'=>∀L H' c_,H L=Jf->Ext H μ H' c_->nk K H' (L::XV) c_ O'->C.G K P w L XV H' c_ Ja->Q L H'
 |.exc c O'=>∀H' c_,Ext H μ H' c_->nk K H' XV c_ O'->Ex c H'
 |.bad=>False
def Ext.none{H H':Hp}{a b:List ab}(e:Ext H a H' b){L:ab}(h:H' L=iY):H L=iY:=by
 cases q:H L with
 |none=>rfl
 |some o=>exact absurd h (e.there L (by rw[q];simp))
def Ez{C:u_}(co:Bl C){em:Em}{D d:aS}{j:List aS}{F:List bC}{a:cG}{G oV:Pos}{ext:List az}{it0:DI}{g:Tg}{ts:List DT}{cs:List Cl}{h:List (ab×Obj)}{u:St}{H:Hp}{s:ag}{XV r:List ab}{σ:Sg}{O:Ow}
  {use:Option (ae->Sem Unit)} {Q:ae->ag->Prop} (oN:X.calm=Jg) (hi:sD X Ex D d it0) (R:v7 X.env.scope a (X.N++ext) (pK (⟨it0,g,ts⟩::cs)))
  (rQ:∀cells i l H' B,L2.Inv X h u H' l->(∀b∈B,rC X h H' b)->(∃V,Ext H r H' V)->PG (pU X (X.N++ext) a cells i l H' B) D (g.rd X.K)/\bR (λe t=>qM (pU X (X.N++ext) a cells i l H' B) pS e t) j ts/\nN (pU X (X.N++ext) a cells i l H' B) F cs/\∀A XV k,(⟨D,d,j,0⟩::F:List bC)[k]?=Jf->zp (pU X (X.N++ext) a cells i l H' B) (ZB u ext.length (pK (⟨it0,g,ts⟩::cs)) A H') C A XV (C.ex (⟨D,d,j,0⟩::F) a G) (⟨D,d,j,0⟩::F) em k [])
  (hs:∀x,bM d X.env x=pure x) (I:L2.Inv X h u H s) (W:nq X.K H XV r σ u) (c1:nk X.K H XV r O)
  (q:GL C Ex X.K X.prog X.w H XV r (Ao ext.length it0 g ts cs em σ O)
   (λ(L:ab)H'=>∀l i,L2.Inv X h u H' l->(∃m,l.heap.Ns i m)->H' i=Jf->i≠X.env.locals->X.s₀.heap.objs.size<=i->(∀x c,X.env.cells.lookup x=Jd c->c≠i)->(∀p∈X.pn++h,p.1≠i)->
    compPost (aC X.prog X.w) X.A X.xe use Q (.ref L) i (.ok .next) l)):
  ay (aC X.prog X.w) X.A (comprehension (C.ex (⟨D,d,j,0⟩::F) a G) a X.env oV C.new Jh (eval d X.env) use) Q X.xe s:=by
 have p9:∀y∈a.names,y.2=.free->∃c,X.env.cells.lookup y.1=Jd c:=λy hy hf=>by
  obtain⟨n,k⟩:=y;subst hf;exact I.ok.has n (R.frees _ hy rfl)
 refine wpAny_comprehension_free (co.cl _ _ _) hs (Ud p9) R.kind (λx hx hl=>?_) ?_
 ·obtain⟨n,k⟩:=x;subst hl;exact yB R.nd hx
 unfold Ao at q;cases o:it0 σ O with
 |bad=>rw[o] at q;exact aj q
 | exc Y O'=>
  rw[o] at q;refine o7 (hi.out h s u H (λJ M=>False) I ⟨XV,r,σ,O,W,c1,by rw[o];exact q⟩) λv s1 Z=>o7 Z λFz s2 h2=>?_;obtain⟨it,B,tn,J,H2,e,I2,T,pJ,f2,z⟩:=h2;exact z.elim
 | ok src O2=>
  rw[o] at q;refine o7 (hi.out h s u H (λJ M=>∃P,Ext H r M P/\nk X.K M XV P O2/\ny X.K J src M XV P) I ⟨XV,r,σ,O,W,c1,by rw[o];exact λJ M P x c sa=>⟨P,x,c,sa⟩⟩) λv s1 Z=>o7 Z λFz s2 h2=>?_;obtain⟨it,B,tn,J,H2,e,I2,T,pJ,f2,oW,S,c2,sa⟩:=h2;subst e;have p:GL C Ex X.K X.prog X.w H XV r (vM (pR src (tR ⟨it0,g,ts⟩ cs em (pf (σ++aH ext.length Jf) (pK (⟨it0,g,ts⟩::cs)))) (src.size O2) 0 O2 [])) _:=q;cases U:vM (pR src (tR ⟨it0,g,ts⟩ cs em (pf (σ++aH ext.length Jf) (pK (⟨it0,g,ts⟩::cs)))) (src.size O2) 0 O2 []) with
  |bad=>rw[U] at p;exact aj p
  |exc Y O'=>exact(ziS U).elim
  | ok Ja O3=>
   rw[U] at p;refine zbf co oN R (λcells i=>rQ cells i _ _ _ I2 f2 ⟨_,S⟩) I2 (W.ext S) c2 T pJ f2 sa (Xh U) λf l E=>?_;obtain⟨H',V,I',x',Y,nL,nC,gv⟩:=E.inv;have:=p (s2.heap.objs.size) H' V (S.none nL) (S.trans x') Y gv l (s2.heap.objs.size+1) I' E.ns nC E.loc E.young E.cel E.pns;cases use<;>exact this
def TF(c:nk K H (L::XV) μ O)(a:L∉XV)(h:H L=Jd (.lst vs))(q:np K H (L::XV) μ ds vs):Y2 K H XV μ (.lst ds) (.ref L):=by exact⟨L,vs,rfl,.inl ⟨.inl h,a,λm=>c.nh L m 'd'⟩,q.mv .unhide⟩
mutual
theorem Y2.swap:∀{d:D}{v:V},Y2 K H (L::XV) μ d v->Y2 K H XV (μ++[L]) d v
 |.non,_,h=>h
 |.bl _,_,h=>h
 |.int _,_,h=>h
 |.str _,_,h=>h
 | .lst ds,v,h=>by
  unfold Y2 at h ⊢;obtain⟨a,c,r,l,q⟩:=h;refine⟨a,c,r,l.imp (λz=>⟨z.1,λm=>z.2.1 (ak _ m),λm=>?_⟩) id,np.swap q⟩;rcases aK.mp m with m|m
  ·exact z.2.2 m
  ·exact z.2.1 (by simp at m;simp[m])
 | .tup ds,v,h=>by
  unfold Y2 at h ⊢;obtain⟨a,c,r,l,q⟩:=h;refine⟨a,c,r,l.imp (λz=>⟨z.1,λm=>z.2.1 (ak _ m),λm=>?_⟩) id,np.swap q⟩;rcases aK.mp m with m|m
  ·exact z.2.2 m
  ·exact z.2.1 (by simp at m;simp[m])
 | .own k,v,h=>by
  unfold Y2 at h ⊢;obtain⟨a,r,q⟩:=h;exact⟨a,r,by rw[aF (al.mp q).1];exact q⟩
 | .dct,v,h=>by
  unfold Y2 at h ⊢;obtain⟨a,r,q,b,e⟩:=h;refine⟨a,r,q,λm=>b (ak _ m),λm=>?_⟩;rcases aK.mp m with m|m
  ·exact e m
  ·exact b (by simp at m;simp[m])
 | .exn C,v,h=>by
  unfold Y2 at h ⊢;obtain⟨a,f,r,g,q,b,e⟩:=h;refine⟨a,f,r,g,q,λm=>b (ak _ m),λm=>?_⟩;rcases aK.mp m with m|m
  ·exact e m
  ·exact b (by simp at m;simp[m])
 | .tab P,v,h=>by
  unfold Y2 at h ⊢;exact h
 | .map ks ds,v,h=>by
  unfold Y2 at h ⊢;obtain⟨a,c,r,q,b,e,i,d⟩:=h;refine⟨a,c,r,q,λm=>b (ak _ m),λm=>?_,i,np.swap d⟩;rcases aK.mp m with m|m
  ·exact e m
  ·exact b (by simp at m;simp[m])
 |.adr _,_,h=>h
theorem np.swap:∀{ds:List D}{vs:List V},np K H (L::XV) μ ds vs->np K H XV (μ++[L]) ds vs
 |[],_,h=>h
 | d::ds,vs,h=>by
  unfold np at h ⊢;obtain⟨v,r,a,b,c⟩:=h;exact⟨v,r,a,Y2.swap b,np.swap c⟩
end
def nk.swap(c:nk K H (L::XV) μ O)(f:L∉XV)(h:H L=Jd (.lst vs))(q:np K H (L::XV) μ ds vs):nk K H XV (μ++[L]) (O++[ds]):=by
 have g:L∉μ:=λm=>c.nh L m 'd';refine⟨by simp[c.len],?_,λa m=>?_,λa m=>c.ht a (ak _ m),λk a e=>?_⟩
 ·rw[e8];refine⟨c.nd,by simp,λa i b j=>?_⟩;have:b=L:=⇑j
  subst this;rintro rfl;exact g i
 ·rcases aK.mp m with m|m
  ·exact λz=>c.nh a m (ak _ z)
  ·have:a=L:=⇑m
   subst this;exact f
 ·by_cases d:k<μ.length
  ·rw[aF d] at e;obtain⟨l,n,o,p,r⟩:=c.at_ k a e;exact⟨l,n,by rw[aF (by rw[<- c.len];exact d)];exact o,p,r.swap⟩
  ·rw[bb 'o'] at e;have s:k-μ.length=0:=by
    have:=(al.mp e).1;simp at this;lia
   rw[s] at e;simp at e;subst e;refine⟨ds,vs,?_,h,q.swap⟩;have:k=O.length:=by have:=c.len;lia
   subst this;simp
def Ext.grow(e:Ext H μ H' c_)(h:H L=iY):Ext H μ H' (c_++[L]):=by
 obtain⟨a,rfl⟩:=e.pre;refine⟨⟨a++[L],by simp⟩,e.kept,λb m=>?_,e.there,e.tab⟩;rcases aK.mp m with m|m
 ·exact e.fresh b m
 ·have:b=L:=⇑m
  subst this;exact .inr h
def ua(o:Bool)(r:R (List D)):R D:=r.bnd λJa O1=>if o=Jg then .ok (.own O1.length) (O1++[Ja]) else .ok (.lst Ja) O1
def Sm(f:nk K H XV μ O)(q:qC Ex K H XV μ (ua o r) Q)(h:∀L H',Q (.ref L) H'->Q1 L H'):GL (Bc elt) Ex K P w H XV μ r Q1:=by
 cases r with
 |bad=>exact q
 |exc c' O'=>exact q
 | ok Ja O'=>
  intro L H' g a x c ⟨i,b,d⟩;have e:L∉XV:=λm=>f.ht L m a;cases o with
  |false=>exact h L H' (post.ok (q) x c.unhide (TF c e b d))
  |true=>exact h L H' (post.ok (q) (x.grow a) (c.swap e b d) (Ie c.len))
def zet(k:nk K H XV μ O)(b:nq K H XV μ σ b_)(q:nw Ex K H XV μ ((ua o r).bnS λd O1=>.nx (σ.set i (Jd d)) O1) E)(h:∀L H',E.nx (b_.set i (Jd (.ref L))) H'->Q1 L H'):
  GL (Bc elt) Ex K P w H XV μ r Q1:=by
 cases r with
 |bad=>exact q
 |exc c' O'=>exact q
 | ok Ja O'=>
  intro L H' e a x c ⟨l,f,g⟩;have j:L∉XV:=λm=>k.ht L m a;cases o with
  | false=>
   exact h L H' (q _ H' e x ((b.ext x).set (TF c j f g) i) c.unhide)
  | true=>
   exact h L H' (q _ H' (e++[L]) (x.grow a) ((b.ext (x.grow a)).set (Ie c.len) i) (c.swap j f g))
def JB{f h b:aS}{c:List aS}{i:List bC}{a:cG}{j:Pos}{ext:List az}{g:Tg}{ts:List DT}{cs:List Cl}{te:DE}{Z:ab->Hp->St->Hp->List ab->Prop}
  (l:∀cells C s H d,PG (pU X (X.N++ext) a cells C s H d) h (g.rd X.K)/\bR (λe t=>qM (pU X (X.N++ext) a cells C s H d) pS e t) c ts/\nN (pU X (X.N++ext) a cells C s H d) i cs/\PD (pU X (X.N++ext) a cells C s H d) pS f te) (cells Cn s H d):
  PG (pU X (X.N++ext) a cells Cn s H d) h (g.rd X.K)/\bR (λe t=>qM (pU X (X.N++ext) a cells Cn s H d) pS e t) c ts/\nN (pU X (X.N++ext) a cells Cn s H d) i cs/\∀A XV k,(⟨h,b,c,0⟩::i:List bC)[k]?=Jf->zp (pU X (X.N++ext) a cells Cn s H d) (Z A H) (Bc f) A XV ((Bc f).ex (⟨h,b,c,0⟩::i) a j) (⟨h,b,c,0⟩::i) (zT te) k []:=
 let ⟨h1,h2,h3,h4⟩:=l cells Cn s H d
 ⟨h1,h2,h3,λ_ _ _ m=>zfn rfl h4.z m⟩
def pB(o:Bool)(ext:Nat)(it0:DI)(g:Tg)(ts:List DT)(cs:List Cl)(te:DE):DE:=λσ O=>ua o (yw ext it0 g ts cs te σ O)
def zi9(o:Bool)(ext:List az)(d:X.calm=Jg)(f:sD X Ex tg iter it0)(h:v7 X.env.scope scope (X.N++ext) (pK (⟨it0,g,ts⟩::cs)))
  (i:∀cells C s H a,PG (pU X (X.N++ext) scope cells C s H a) tg (g.rd X.K)/\bR (λe t=>qM (pU X (X.N++ext) scope cells C s H a) pS e t) ifs ts/\nN (pU X (X.N++ext) scope cells C s H a) gs cs/\PD (pU X (X.N++ext) scope cells C s H a) pS elt te)
  (j:∀x,bM iter X.env x=pure x:=by intro _;rfl):PD X Ex (.ListComp elt (⟨tg,iter,ifs,0⟩::gs) scope pos) (pB o ext.length it0 g ts cs te):=by refine⟨?_⟩;rintro b s F H Q I ⟨k,G,J,O,l,c,q⟩;unfold pB at q;rw[<- LK] at q;refine Ez (K0 elt) d f h (λcells n s H a _ _ _=>JB i cells n s H a) j I l c (Sm c q λL p r M C u v w y z A B=>?_);obtain⟨m,D⟩:=v;exact⟨m,D,λP E=>⟨.ref L,p,Inv.bare u E w y z A B,rfl,r⟩⟩
def z8S(o:Bool)(ext:List az)(r:X.calm=Jg)(u:X.N.Nodup)(w:X.N[i]?=Jd y)(f:X.env.scope.names.lookup y=Jd .local)
  (A:sD X Ex tg iter it0) (B:v7 X.env.scope scope (X.N++ext) (pK (⟨it0,g,ts⟩::cs)))
  (D:∀cells C s H b,PG (pU X (X.N++ext) scope cells C s H b) tg (g.rd X.K)/\bR (λe t=>qM (pU X (X.N++ext) scope cells C s H b) pS e t) ifs ts/\nN (pU X (X.N++ext) scope cells C s H b) gs cs/\PD (pU X (X.N++ext) scope cells C s H b) pS elt te)
  (F:swapsWith (.ListComp elt (⟨tg,iter,ifs,0⟩::gs) scope pos) (Jd (.Name y py)) qU.line X.env=pure Jg)
  (G:∀x,bM iter X.env x=pure x:=by intro _;rfl):sS X Ex (.Assign [.Name y py] (.ListComp elt (⟨tg,iter,ifs,0⟩::gs) scope pos) qU) (pN i (pB o ext.length it0 g ts cs te)):=by
 refine⟨?_⟩;rintro h s b_ H E I ⟨c,J,j,O,k,l,q⟩;rw[iq _ _ _ _ F];refine aa (dU (aa ?_));have q:nw Ex X.K H c J ((ua o (yw ext.length it0 g ts cs te j O)).bnS λd M=>.nx (j.set i (Jd d)) M) E:=q;rw[<- LK] at q;refine aa (cj (Ez (K0 elt) r A B (λcells P s H b _ _ _=>JB D cells P s H b) G I k l (zet l k q λL Q R S C T U V n W p Y=>?_)) (λ_ S Z=>aq (aq Z)) λ_ _ e=>e);obtain⟨m,hn⟩:=U;refine gU (HL (v:=.ref L) T u w (.inl f) rfl (λrF Gj uo=>?_) (.inr f));obtain⟨a,BS,ha⟩:=uo;have F7:C≠a:=by
  rcases ha with z|z
  ·rw[z];exact n
  ·exact λe=>p y a z e.symm
 refine⟨m,hn.sameBut BS F7,λh' uq=>?_⟩;exact⟨_,Q,Inv.bare Gj uq V n W p Y,R⟩
end
noncomputable def pe{α β:Type}(f:α->Option β):List α->Option (List β)
 |[]=>Jd []
 | x::xs=>match f x,pe f xs with
  |some p,Jd ps=>Jd (p::ps)
  |_,_=>Jf
def yb(cs:g_):Option dJ:=if cs.all (· < 1114112)=Jg then Jd (.str ⟨cs.toArray⟩) else Jf
def qh(O:Ow):Nat->D->Option dJ
 | 0,d=>match d with
  |.non=>Jd .none
  |.bl b=>Jd (.bool b)
  |.int i=>Jd (.int i)
  |.str cs=>yb cs
  |_=>Jf
 | n+1,d=>match d with
  |.non=>Jd .none
  |.bl b=>Jd (.bool b)
  |.int i=>Jd (.int i)
  |.str cs=>yb cs
  |.lst ds=>(pe (qh O n) ds).map .list
  |.tup ds=>(pe (qh O n) ds).map .tuple
  | .own k=>match O[k]? with
   |some ds=>(pe (qh O n) ds).map .list
   |none=>Jf
  |.dct=>Jf
  |.exn _=>Jf
  |.tab _=>Jf
  |.map _ _=>Jf
  |.adr _=>Jf
section
variable{X:Cx}{Y1:List (ab×Obj)}{b_:St}{H:Hp}{s:ag}{XV μ:List ab}{O:Ow}
theorem Im(I:L2.Inv X Y1 b_ H s)(f:∀(d:D)(v:V)(u:ae)(p:dJ),Y2 X.K H XV μ d v->RelV v u->qh O n d=Jd p->∃b,Reads s.heap u p b/\p.canLay0=Jg/\p.depth<=n):
  ∀(ds:List D)(vs:List V)(c:List ae)(a:List dJ),np X.K H XV μ ds vs->nu vs c->pe (qh O n) ds=Jd a->∃b,ReadsAll s.heap c a b/\lU a=Jg/\mF a<=n
 | [],vs,c,a,h,r,e=>by
  unfold np at h;subst h;cases r;cases e;exact⟨[],.nil,rfl,bN _⟩
 | d::ds,vs,c,a,h,r,e=>by
  obtain⟨v,t,rfl,g,i⟩:=h;cases r with
  | cons r1 r2=>
   unfold pe at e;split at e
   ·rename_i p j k l;cases e;obtain⟨b,m,o,q⟩:=f d v _ p g r1 k;obtain⟨w,x,y,z⟩:=Im I f ds t _ j i r2 l;refine⟨b++w,.cons m x,?_,?_⟩
    ·unfold lU;rw[o,y];rfl
    ·unfold mF;exact Nat.max_le.mpr ⟨q,z⟩
   ·cases e
def TM(e:yb cs=Jd p):∃a,Reads s.heap (.str ⟨cs.toArray⟩ t) p a/\p.canLay0=Jg/\p.depth<=n:=by
 unfold yb at e;split at e
 ·rename_i b;cases e;exact⟨[],.str _ _,by unfold iO PyData.strOk;simpa using b,bN _⟩
 ·cases e
def Au(I:L2.Inv X Y1 b_ H s)(c:nk X.K H XV μ O):∀(n:Nat)(d:D)(v:V)(u:ae)(p:dJ),Y2 X.K H XV μ d v->RelV v u->qh O n d=Jd p->∃B,Reads s.heap u p B/\p.canLay0=Jg/\p.depth<=n:=by
 intro n
 induction n with
 | zero=>
  intro d v u p h r e;cases d with
  |non=>unfold Y2 at h;subst h;cases r;cases e;exact⟨[],.none,rfl,bN _⟩
  |bl b=>unfold Y2 at h;subst h;cases r;cases e;exact⟨[],.bool _,rfl,bN _⟩
  |int b=>unfold Y2 at h;subst h;obtain⟨t,rfl⟩:=r;cases e;exact⟨[],.int _ _,rfl,bN _⟩
  | str cs=>
   unfold Y2 at h;subst h;obtain⟨t,rfl⟩:=r;exact TM (e)
  |_=>cases e
 | succ n ih=>
  intro d v u p h r e;cases d with
  |non=>unfold Y2 at h;subst h;cases r;cases e;exact⟨[],.none,rfl,bN _⟩
  |bl b=>unfold Y2 at h;subst h;cases r;cases e;exact⟨[],.bool _,rfl,bN _⟩
  |int b=>unfold Y2 at h;subst h;obtain⟨t,rfl⟩:=r;cases e;exact⟨[],.int _ _,rfl,bN _⟩
  | str cs=>
   unfold Y2 at h;subst h;obtain⟨t,rfl⟩:=r;exact TM (e)
  | lst f=>
   obtain⟨a,i,rfl,l,q⟩:=h;cases r;have e:(pe (qh O n) f).map eH=Jd p:=e;cases g:pe (qh O n) f with
   |none=>rw[g] at e;cases e
   | some ps=>
    rw[g] at e;cases e;obtain⟨j,m,⟨o,k,w,x,F,y⟩,C⟩:=I.list l.sq;obtain⟨B,z,A,E⟩:=Im I ih f i j ps q m g;exact⟨_,.list w x y ⇑z,by unfold iO;exact A,by unfold lz;lia⟩
  | tup f=>
   obtain⟨a,i,rfl,l,q⟩:=h;cases r;have e:(pe (qh O n) f).map gE=Jd p:=e;cases g:pe (qh O n) f with
   |none=>rw[g] at e;cases e
   | some ps=>
    rw[g] at e;cases e;obtain⟨j,m,⟨o,w,x,k,y⟩,C⟩:=I.tuple l.sq;obtain⟨B,z,A,E⟩:=Im I ih f i j ps q m g;exact⟨_,.tuple w x y ⇑z,by unfold iO;exact A,by unfold lz;lia⟩
  | own k=>
   obtain⟨a,rfl,G⟩:=h;cases r;obtain⟨f,i,J,L,M⟩:=c.at_ k a G;have e:(match O[k]? with|some f=>(pe (qh O n) f).map eH|none=>Jf)=Jd p:=e;rw[J] at e;cases g:pe (qh O n) f with
   |none=>simp only[g] at e;cases e
   | some ps=>
    simp only[g] at e;cases e;obtain⟨j,m,⟨o,N,w,x,F,y⟩,C⟩:=I.list (.of L);obtain⟨B,z,A,E⟩:=Im I ih f i j ps M m g;exact⟨_,.list w x y ⇑z,by unfold iO;exact A,by unfold lz;lia⟩
  |dct=>cases e
  |exn _=>cases e
  |tab _=>cases e
  |map _ _=>cases e
  |adr _=>cases e
end
def py(O:Ow)(d:D):Option dJ:=qh O 8 d
def zD(K:ah)(f:dJ->dJ->Option Bool):R2:=λv w H Q=>∃XV μ O x y a b k,nk K H XV μ O/\Y2 K H XV μ x v/\Y2 K H XV μ y w/\py O x=Jd a/\py O y=Jd b/\f a b=Jd k/\Q (.bl k) H
def pj(f:dJ->dJ->Option Bool):Ow->D->D->R D:=λO x y=>match py O x,py O y with
 | some a,Jd b=>match f a b with
  |some k=>.ok (.bl k) O
  |none=>.bad
 |_,_=>.bad
section
variable{X:Cx}{Ex:Nat->Hp->Prop}
def CM:rp X Ex (zD X.K f) (pj f):=by
 intro H d e O x y v w Q c g h q;unfold pj at q;split at q
 ·rename_i a b i j;split at q
  ·rename_i k l;exact⟨d,e,O,x,y,a,b,k,c,g,h,i,j,l,post.here q c tV⟩
  ·exact aj q
 ·exact aj q
def rl:dJ->dJ->Option Bool:=λa b=>Jd (bh a b)
def qW:dJ->dJ->Option Bool:=λa b=>Jd (!PyData.eqv a b)
def AH:dJ->dJ->Option Bool:=λa b=>match b with
 |.list xs=>Jd (xs.any λy=>bh y a)
 |.tuple xs=>Jd (xs.any λy=>bh y a)
 |_=>Jf
def Cq:dJ->dJ->Option Bool:=λa b=>match b with
 |.list xs=>Jd (!xs.any λy=>bh y a)
 |.tuple xs=>Jd (!xs.any λy=>bh y a)
 |_=>Jf
def Hg(a:p.canLay0=Jg)(b:p.depth<=8):m8 p=Jg:=by unfold m8;rw[a,decide_eq_true (show p.depth<=64 by lia)];rfl
def Rf(e:X.A.units+64<cLine):pZ X (bX .Eq) (zD X.K rl):=by intro d s E H x y v u Q I f g h;obtain⟨i,F,O,j,l,a,b,k,c,m,n,o,p,r,q⟩:=h;obtain⟨G,t,w,z⟩:=Au I c 8 j x v a m f o;obtain⟨J,B,C,D⟩:=Au I c 8 l y u b n g p;cases r;exact PyProof.Rows.eq_dataH t B (Hg w z) (Hg C D) e ⟨.bl _,H,I,rfl,q⟩
def QT(e:X.A.units+64<cLine):pZ X (bX .NotEq) (zD X.K qW):=by intro d s E H x y v u Q I f g h;obtain⟨i,F,O,j,l,a,b,k,c,m,n,o,p,r,q⟩:=h;obtain⟨G,t,w,z⟩:=Au I c 8 j x v a m f o;obtain⟨J,B,C,D⟩:=Au I c 8 l y u b n g p;cases r;exact PyProof.Rows.ne_dataH t B (Hg w z) (Hg C D) e ⟨.bl _,H,I,rfl,q⟩
def GP{A:be}{n m:Nat}(h:m<=8)(a:A.units+64<cLine):A.units+1+min n m<cLine:=by lia
def ZL(e:X.A.units+64<cLine):pZ X (bX .In) (zD X.K AH):=by
 intro f s D H x y v u Q I n o h;obtain⟨p,E,O,r,t,a,b,k,c,w,z,B,C,d,q⟩:=h;obtain⟨F,g,i,j⟩:=Au I c 8 r x v a w n B;obtain⟨G,l,m,J⟩:=Au I c 8 t y u b z o C;cases b with
 |list xs=>cases d;exact SeqAt.in_list_reads l g m i (GP j e) ⟨.bl _,H,I,rfl,q⟩
 |tuple xs=>cases d;exact SeqAt.in_tuple_reads l g m i (GP j e) ⟨.bl _,H,I,rfl,q⟩
 |_=>cases d
def zeZ(e:X.A.units+64<cLine):pZ X (bX .NotIn) (zD X.K Cq):=by
 intro f s D H x y v u Q I n o h;obtain⟨p,E,O,r,t,a,b,k,c,w,z,B,C,d,q⟩:=h;obtain⟨F,g,i,j⟩:=Au I c 8 r x v a w n B;obtain⟨G,l,m,J⟩:=Au I c 8 t y u b z o C;cases b with
 |list xs=>cases d;exact SeqAt.notIn_list_reads l g m i (GP j e) ⟨.bl _,H,I,rfl,q⟩
 |tuple xs=>cases d;exact SeqAt.notIn_tuple_reads l g m i (GP j e) ⟨.bl _,H,I,rfl,q⟩
 |_=>cases d
end
end DL
namespace DL
open PySem L2
section
variable{e:aS}
noncomputable def rk(O:Ow):D->Option (List D)
 |.lst ds=>Jd ds
 |.own k=>O[k]?
 |_=>Jf
def zy:D->Option (List D)
 |.tup ds=>Jd ds
 |_=>Jf
def uj(a:nk K H XV μ O)(h:Y2 K H XV μ d v)(e:rk O d=Jd ds):∃p vs,v=.ref p/\qg K H p vs/\np K H XV μ ds vs:=by
 cases d with
 | lst xs=>
  obtain⟨p,vs,rfl,l,q⟩:=h;cases e;exact⟨p,vs,rfl,l.sq,q⟩
 | own k=>
  obtain⟨p,rfl,b⟩:=h;obtain⟨i,vs,c,f,g⟩:=a.at_ k p b;have e:O[k]?=Jd ds:=e;rw[c] at e;cases e;exact⟨p,vs,rfl,.of f,g⟩
 |_=>cases e
def Bj(h:Y2 K H XV μ d v)(e:zy d=Jd ds):∃p vs,v=.ref p/\qX K H p vs/\np K H XV μ ds vs:=by
 cases d with
 | tup xs=>
  obtain⟨p,vs,rfl,l,q⟩:=h;cases e;exact⟨p,vs,rfl,l.sq,q⟩
 |_=>cases e
def zp6:Ow->D->D->R D:=λO x y=>match x,y with
 |.str s,.str t=>if s.length+t.length<=4000000 then .ok (.str (s++t)) O else .bad
 |_,_=>.bad
end
def RU(h:np K H XV μ ds vs)(e:atI ds i=Jd d):∃v,atI vs i=Jd v/\Y2 K H XV μ d v:=by
 unfold atI at e ⊢;rw[<- h.length];cases q:ixN ds.length i with
 |none=>rw[q] at e;cases e
 |some j=>rw[q] at e;exact h.get e
def pY:Ow->D->D->R D:=λO x y=>match y with
 | .int i=>match rk O x with
  | some ds=>match atI ds i with
   |some d=>.ok d O
   |none=>.bad
  | none=>match zy x with
   | some ds=>match atI ds i with
    |some d=>.ok d O
    |none=>.bad
   | none=>match x with
    | .str cs=>if cs.length<=4000000 then match atI cs i with
      |some ch=>.ok (.str [ch]) O
      |none=>.bad
     else .bad
    |_=>.bad
 |_=>.bad
section
variable{X:Cx}{Ex:Nat->Hp->Prop}{pos:Pos}{a b c e:aS}{ta tb:DE}
def XT:rp X Ex (UN X.K) pY:=by
 intro H o A O x y v w Q c g n q;unfold pY at q;split at q
 ·rename_i i;unfold Y2 at n;subst n;split at q
  ·rename_i r e;obtain⟨p,h,rfl,j,k⟩:=uj c g e;split at q
   ·rename_i d f;obtain⟨z,l,m⟩:=RU k f;exact .inl ⟨p,h,i,z,rfl,rfl,j,l,post.here q c m⟩
   ·exact aj q
  ·split at q
   ·rename_i r e;obtain⟨p,h,rfl,j,k⟩:=Bj g e;split at q
    ·rename_i d f;obtain⟨z,l,m⟩:=RU k f;exact .inr (.inl ⟨p,h,i,z,rfl,rfl,j,l,post.here q c m⟩)
    ·exact aj q
   ·split at q
    ·rename_i s _ _;unfold Y2 at g;subst g;obtain⟨t,q⟩:=post.ite q;split at q
     ·rename_i u f;refine .inr (.inr ⟨_,i,u,rfl,rfl,?_,?_,post.here q c KQ⟩)
      ·show s.toArray.size<=_;rw[aJ];exact xN t
      ·simpa using f
     ·exact aj q
    ·exact aj q
 ·exact aj q
def WZ(d:PD X Ex a ta)(f:PD X Ex b tb)(g:Qd b):PD X Ex (.Subscript a b pos) (h_ pY ta tb):=qN (WN Xo d.out f.out g) (GZ XT)
def oO(f:Ow->List D->R D)(t:DA):DE:=λσ O=>(t σ O).bnd λxs O1=>f O1 xs
def ue(X:Cx)(Ex:Nat->Hp->Prop)(r:List V->Hp->VK->Prop)(f:Ow->List D->R D):Prop:=∀(H:Hp)(XV μ:List ab)(O:Ow)(xs:List D)(vs:List V)(Q:VK),nk X.K H XV μ O->np X.K H XV μ xs vs->qC Ex X.K H XV μ (f O xs) Q->r vs H Q
def Px(h:ue X Ex r f)(XV g:List ab)(σ:Sg)(O:Ow)(i:St)(H:Hp)(Q:VK)(j:nq X.K H XV g σ i)(k:nk X.K H XV g O)(q:qC Ex X.K H XV g (oO f t σ O) Q):IH r (sY Ex X.K t) i H Q:=
 sY.go j k q λl m n o s u x c d p=>h o XV s m l n Q c d p
def zfc{x:az}{g:String}{p:Pos}{d:List aS}{r:List V->Hp->VK->Prop}{f:Ow->List D->R D}{t:DA}(i:nF X (.builtin g) r)(h:ue X Ex r f)(j:Gl X x)(k:X.mg x=Jf)(l:bu x=Jd (.builtin g))(m:sE X Ex (e::d) t)
  (n:x ≠ "__name__":=by decide) (o:rG x:=by decide) (q:aP (e::d) X.env=(Jh,eval e X.env)::aP d X.env:=by rfl) (s:(backTo pos (aP d X.env)).any (·.1)=Jh:=by rfl):
  PD X Ex (.Call (.Name x p) (e::d) [] pos) (oO f t):=qN (Rx i j k l m.out n o q s) (Px h)
def SY(d:nF X (.type T) r)(h:ue X Ex r f)(g:Gl X x)(i:X.mg x=Jf)(j:bu x=Jd (.type T))(k:sE X Ex (e::es) t)
  (l:x ≠ "__name__":=by decide) (m:rG x:=by decide) (n:aP (e::es) X.env=(Jh,eval e X.env)::aP es X.env:=by rfl) (o:(backTo pos (aP es X.env)).any (·.1)=Jh:=by rfl):
  PD X Ex (.Call (.Name x p) (e::es) [] pos) (oO f t):=qN (Lf d g i j k.out l m n o) (Px h)
def p8:Ow->List D->R D:=λO xs=>match xs with
 | [x]=>match rk O x with
  |some ds=>.ok (.int ds.length) O
  | none=>match zy x with
   |some ds=>.ok (.int ds.length) O
   | none=>match x with
    |.str cs=>if cs.length<=4000000 then .ok (.int cs.length) O else .bad
    |_=>.bad
 |_=>.bad
def Xy:ue X Ex (λxs H Q=>∃x n,xs=[x]/\N7 X.K x H n/\Q (.int n) H) p8:=by
 intro H l o O xs r Q c d q;unfold p8 at q;split at q
 ·rename_i x;obtain⟨v,rfl,f⟩:=sI d;split at q
  ·rename_i h e;obtain⟨p,i,rfl,j,k⟩:=uj c f e;exact⟨_,h.length,rfl,.inl ⟨i,j,k.length⟩,post.here q c rD⟩
  ·split at q
   ·rename_i h e;obtain⟨p,i,rfl,j,k⟩:=Bj f e;exact⟨_,h.length,rfl,.inr ⟨i,j,k.length⟩,post.here q c rD⟩
   ·split at q
    ·rename_i g _ _;unfold Y2 at f;subst f;obtain⟨m,q⟩:=post.ite q;refine⟨_,g.length,rfl,⟨?_,?_⟩,post.here q c rD⟩
     ·show g.toArray.size<=_;rw[aJ];exact xN m
     ·show g.length=g.toArray.size;rw[aJ]
    ·exact aj q
 ·exact aj q
noncomputable def JA:Ow->List D->R D:=λO xs=>match xs with
 |[.int i]=>.ok (.int i) O
 |[.bl k]=>.ok (.int (if k then 1 else 0)) O
 |_=>.bad
def YD:ue X Ex (λxs H Q=>(∃i,xs=[.int i]/\Q (.int i) H) \/ ∃k,xs=[.bl k]/\Q (.int (if k then 1 else 0)) H) JA:=by
 intro H g h O xs j Q c d q;unfold JA at q;split at q
 ·obtain⟨v,rfl,f⟩:=sI d;unfold Y2 at f;subst f;exact .inl ⟨_,rfl,post.here q c rD⟩
 ·obtain⟨v,rfl,f⟩:=sI d;unfold Y2 at f;subst f;exact .inr ⟨_,rfl,post.here q c rD⟩
 ·exact aj q
def ui:Ow->List D->R D:=λO xs=>match xs with
 | [x]=>match rk O x with
  |some ds=>.ok (.tup ds) O
  | none=>match zy x with
   |some ds=>.ok (.tup ds) O
   |none=>.bad
 |_=>.bad
def zgl:ue X Ex (λxs H Q=>∃p f,xs=[.ref p]/\((qg X.K H p f/\∀l,H l=Jf->Q (.ref l) (upd H l (.tup f)))\/(qX X.K H p f/\Q (.ref p) H))) ui:=by
 intro H m o O xs r Q c d q;unfold ui at q;split at q
 ·rename_i x;obtain⟨v,rfl,g⟩:=sI d;split at q
  ·rename_i n e;obtain⟨p,h,rfl,i,k⟩:=uj c g e;exact⟨p,h,rfl,.inl ⟨i,λl j=>post.ok q (.laid j) (c.laid j) (Y2.newT c j k)⟩⟩
  ·split at q
   ·rename_i n e;obtain⟨p,h,rfl,i,k⟩:=Bj g e;refine⟨p,h,rfl,.inr ⟨i,post.here q c ?_⟩⟩;cases x with
    |tup f=>cases e;exact g
    |_=>cases e
   ·exact aj q
 ·exact aj q
def Bi:Ow->List D->R D:=λO xs=>match xs with
 |[.int i,.int j]=>.ok (.int (if j>i then j else i)) O
 |_=>.bad
def A_:Ow->List D->R D:=λO xs=>match xs with
 |[.int i,.int j]=>.ok (.int (if j<i then j else i)) O
 |_=>.bad
def zi3:ue X Ex (λxs H Q=>∃i j,xs=[.int i,.int j]/\Q (.int (if j>i then j else i)) H) Bi:=by
 intro H h k O xs l Q c d q;unfold Bi at q;split at q
 ·obtain⟨v,w,rfl,f,g⟩:=A9 d;unfold Y2 at f g;subst f;subst g;exact⟨_,_,rfl,post.here q c rD⟩
 ·exact aj q
def Zg:ue X Ex (λxs H Q=>∃i j,xs=[.int i,.int j]/\Q (.int (if j<i then j else i)) H) A_:=by
 intro H h k O xs l Q c d q;unfold A_ at q;split at q
 ·obtain⟨v,w,rfl,f,g⟩:=A9 d;unfold Y2 at f g;subst f;subst g;exact⟨_,_,rfl,post.here q c rD⟩
 ·exact aj q
end
abbrev o5:=List D->Ow->R D
noncomputable def Jx(K:ah)(Ec:XK->Nat->Hp->Prop)(n:Nat)(F:o5):Sp:=λvs H Q E=>vs.length=n/\∃XV μ ds O,np K H XV μ ds vs/\nk K H XV μ O/\qC (Ec E) K H XV μ (F ds O) Q
abbrev zW:XK->Nat->Hp->Prop:=λ_ _ _=>False
section
variable{X:Cx}{CX:vZ}{k:Nat}{f:ab}{fd:d0}{ps:List az}{E:XK}{Ec:XK->Nat->Hp->Prop}{x:az}{p pos:Pos}{e:aS}{es:List aS}{t:DA}{F:o5}{n:Nat}
noncomputable def k_(n:Nat)(F:o5)(t:DA):DE:=λσ O=>(t σ O).bnd λds O1=>if ds.length=n then F ds O1 else .bad
def WE(G:nK X.prog X.w X.K X.mg X.base CX k f fd ps (Jx X.K Ec n F))(d:nD k X.A)(g:Gl X x)(h:X.mg x=Jd (.ref f))(i:cJ X.K (.ref f)=Jg)(j:Binds X.K fd ps [])(l:G0 CX X E)(m:sE X (Ec E) (e::es) t)
  (o:rG x:=by decide) (r:aP (e::es) X.env=(Jh,eval e X.env)::aP es X.env:=by rfl) (s:(backTo pos (aP es X.env)).any (·.1)=Jh:=by rfl):
  PD X (Ec E) (.Call (.Name x p) (e::es) [] pos) (k_ n F t):=
 qN (Qz G d g h i j .nil l m.out o r s) λa I J O L H Q u v q=>sY.go u v q λy z M N B P R C c b=>by
  obtain⟨D,b⟩:=post.ite b;refine⟨by rw[bF,<- c.length];exact D,a,B,y,z,?_,C,b⟩;rw[bF];exact c
end
noncomputable def fin(r:RS):R D:=match r with
 |.nx _ O=>.ok .non O
 |.rt d O=>.ok d O
 |.exc c O=>.exc c O
 |_=>.bad
def pP(n:Nat)(t:DS):o5:=λds O=>fin (t (ds.map Jd++aH (n-ds.length) Jf) O)
def T8(h:np K H XV μ ds vs)(N:List az):nq K H XV μ (ds.map Jd++aH (N.length-ds.length) Jf) (L2.start N vs):=by
 unfold L2.start;have b:=h.length;refine⟨by simp[b],λi d e=>?_⟩;have a:i<ds.length:=by
  by_cases a:i<ds.length
  ·exact a
  ·rw[bb ⇑a,fy] at e;split at e<;>cases e
 rw[aF ⇑a,bd] at e;cases q:ds[i]? with
 |none=>rw[q] at e;cases e
 | some d'=>
  rw[q] at e;cases e;obtain⟨v,c,f⟩:=h.get q;exact⟨v,by rw[aF (by simp;lia),bd,c];rfl,f⟩
abbrev Cj(P:aQ)(w:a8)(K:ah)(mg:az->Option ae)(base:aV)(N:List az)(qual:az)(scope:cG)(f:ab)(ph:ae)(A:be)(outer:List Env)(s:ag)(H:Hp)(E:XK):Cx:=
 (A2 (λ_ _ _ _ _ _=>False) P w K mg base N qual scope f ph A outer s H E).nox
def Wt{P:aQ}{w:a8}{K:ah}{y:az->Option ae}{base:aV}{k:Nat}{f:ab}{name b:az}{i:ip}{body:List dW}{a:cG}{z B j C l ct G:ae}{D I:Option ab}{J:Array (Option ae)}{N p:List az}{t:DS}
  (L:K.lookup f=Jd ⟨G,I,.func (bV name b i body a z B j C D l ct),J⟩) (M:eB K l b=Jg) (S:sW N p a)
  (R:∀(A:be)(g:List Env)(s:ag)(H:Hp)(E:XK),nD k (A.deeper (dR b a s.heap.objs.size f l))->r9 (Cj P w K y base N b a f l A g s H E) pS body t):
  nK P w K y base (λ_ _ _ _ _ _=>False) (k+1) f (bV name b i body a z B j C D l ct) p (Jx K zW p.length (pP N.length t)):=by
 refine oY L M S (λT H Q E h=>h.1) λA g s H T Q E U h=>?_;obtain⟨X,u,V,F,O,d,c,q⟩:=h;refine⟨_,(R A g s H E U).out.nox,u,V,_,O,T8 d N,c,?_⟩;unfold pP at q;generalize t (F.map Jd++aH (N.length-F.length) Jf) O=r at q;cases r with
 |nx σ O'=>exact λY m n x e o=>q .non m n x o Hn
 |rt d' O'=>exact λv m n x o r=>q v m n x o r
 |bk σ O'=>exact aj q
 |ct σ O'=>exact aj q
 |exc o O'=>exact λm n x W=>q m n x W
 |bad=>exact aj q
noncomputable def Bd:D->String
 |.non => "NoneType"
 |.bl _ => "bool"
 |.int _ => "int"
 |.str _ => "str"
 |.lst _ => "list"
 |.own _ => "list"
 |.tup _ => "tuple"
 |.dct => "dict"
 |.exn _ => "exception"
 |.tab _ => "bool"
 |.map _ _ => "dict"
 |.adr _ => "function"
def GA(t c:String):Bool:=t==c||(t == "bool" && c == "int")
section
variable{X:Cx}{Ex:Nat->Hp->Prop}{pos:Pos}{a b c e:aS}{ta te:DE}{Y1:List (ab×Obj)}{b_:St}{H:Hp}{s:ag}{XV μ:List ab}{O:Ow}
def xi:List String:=["NoneType", "bool", "int", "str", "list", "tuple", "dict"]
def yz(K:ah){t c:String}(d:t∈xi)(f:c∈["int", "bool", "str", "list", "tuple", "dict"]):kg K (.type t) (.type c)=Jd (GA t c):=by simp only[xi,ar,bE,or_false] at d f;rcases d with rfl|rfl|rfl|rfl|rfl|rfl|rfl<;>rcases f with rfl|rfl|rfl|rfl|rfl|rfl<;>first|rfl|decide
def z9p(I:L2.Inv X Y1 b_ H s)(E:nk X.K H XV μ O)(h:Y2 X.K H XV μ d v)(r:RelV v u)(F:(Bd d == "function")=Jh):∃(T:ae)(A:aV->Prop),PySem.W.KitX X.K u T A/\A s.heap/\u ≠ .builtin "__main__.__loader__#opaque"/\∀c∈(["int", "bool", "str", "list", "tuple", "dict"]:List String),kg X.K T (.type c)=Jd (GA (Bd d) c):=by
 cases d with
 |non=>unfold Y2 at h;subst h;cases r;exact⟨.type "NoneType",_,PySem.W.kitx_none,fL,(λz=>nomatch z),λc f=>yz X.K (by simp[xi]) f⟩
 |bl _=>unfold Y2 at h;subst h;cases r;exact⟨.type "bool",_,lV,fL,(λz=>nomatch z),λc f=>yz X.K (by simp[xi]) f⟩
 |int _=>unfold Y2 at h;subst h;obtain⟨t,rfl⟩:=r;exact⟨.type "int",_,PySem.W.kitx_int,fL,(λz=>nomatch z),λc f=>yz X.K (by simp[xi]) f⟩
 |str _=>unfold Y2 at h;subst h;obtain⟨t,rfl⟩:=r;exact⟨.type "str",_,PySem.W.kitx_str,fL,(λz=>nomatch z),λc f=>yz X.K (by simp[xi]) f⟩
 | lst x=>
  obtain⟨p,m,rfl,l,q⟩:=h;cases r;obtain⟨B,D,⟨o,n,j,i,_⟩,_⟩:=I.list l.sq;exact⟨.type "list",_,lW,⟨o,j,i⟩,(λz=>nomatch z),λc f=>yz X.K (by simp[xi]) f⟩
 | own k=>
  obtain⟨p,rfl,G⟩:=h;cases r;obtain⟨x,m,_,i,_⟩:=E.at_ k p G;obtain⟨B,D,⟨o,n,j,i,_⟩,_⟩:=I.list (.of i);exact⟨.type "list",_,lW,⟨o,j,i⟩,(λz=>nomatch z),λc f=>yz X.K (by simp[xi]) f⟩
 | tup x=>
  obtain⟨p,m,rfl,l,q⟩:=h;cases r;obtain⟨B,D,⟨o,j,i,_⟩,_⟩:=I.tuple l.sq;exact⟨.type "tuple",_,PySem.W.kitx_tuple,⟨o,j,i⟩,(λz=>nomatch z),λc f=>yz X.K (by simp[xi]) f⟩
 | dct=>
  obtain⟨p,rfl,w,_⟩:=h;cases r;obtain⟨_,_,m,_,o,J,L,j,i,_⟩:=Rd.ok w I.hok;exact⟨.type "dict",_,lX,⟨o,j,i.1⟩,(λz=>nomatch z),λc f=>yz X.K (by simp[xi]) f⟩
 |tab _=>unfold Y2 at h;obtain⟨rfl,_⟩:=h;cases r;exact⟨.type "bool",_,lV,fL,(λz=>nomatch z),λc f=>yz X.K (by simp[xi]) f⟩
 | map ks x=>
  obtain⟨p,m,rfl,w,_⟩:=h;cases r;obtain⟨_,_,m,_,o,J,L,j,i,_⟩:=Rd.ok (.inr w) I.hok;exact⟨.type "dict",_,lX,⟨o,j,i.1⟩,(λz=>nomatch z),λc f=>yz X.K (by simp[xi]) f⟩
 |adr _=>cases F
 | exn C=>
  obtain⟨p,M,rfl,⟨k,g⟩,w,_⟩:=h;cases r;obtain⟨y,_⟩:=Rd.ok w I.hok;refine⟨_,_,XW k,g _ y,(λz=>nomatch z),λc f=>?_⟩;rw[k.kit c f];simp at f;rcases f with rfl|rfl|rfl|rfl|rfl|rfl<;>rfl
def U1:List String:=["int", "bool", "str", "list", "tuple", "dict"]
def zcI:nF X (.builtin "isinstance") (λxs H Q=>∃x C XV μ O d,xs=[x,.ty C]/\C∈U1/\nk X.K H XV μ O/\Y2 X.K H XV μ d x/\(Bd d == "function")=Jh/\Q (.bl (GA (Bd d) C)) H):=by intro Y1 s t H xs v Q I r h;obtain⟨x,C,XV,μ,O,d,rfl,f,g,i,j,q⟩:=h;obtain⟨u,w,rfl,k,l⟩:=GO r;cases l;obtain⟨T,y,Z,p,m,n⟩:=z9p I g i k j;exact wT I (PySem.W.kia_one Z I.kIn p (n _ f) m λo z=>⟨.bl _,H,I.tok o,rfl,q⟩)
def s_(C:String)(t:DE):DE:=λσ O=>(t σ O).bnd λd O1=>if (Bd d == "function")=Jg then .bad else .ok (.bl (GA (Bd d) C)) O1
def G7(t:PD X Ex a ta)(u:n∈U1)(w:Gl X "isinstance")(y:X.mg "isinstance" = Jf)(z:bu "isinstance" = Jd (.builtin "isinstance"))(f:Gl X C)(g:X.mg C=Jf)(h:bu C=Jd (.type n))(i:C ≠ "__name__":=by decide)
  (j:rG C:=by decide) (m:aP [a,.Name C p'] X.env=(Jh,eval a X.env)::aP [.Name C p'] X.env:=by rfl) (k:aP [.Name C p'] X.env=[(Jh,eval (.Name C p') X.env)]:=by rfl) (A:(backTo pos (aP [.Name C p'] X.env)).any (·.1)=Jh:=by rfl):
  PD X Ex (.Call (.Name "isinstance" p) [a,.Name C p'] [] pos) (s_ n ta):=
 qN (Rx (zcI) w y z (Ej t.out (Ej (Zz (v:=.ty n) f g h rfl i j) G6 k) m) 's' 's' m A) λXV μ I O b_ H Q B D q=>rd.go B D q λd E v J F K x o r l=>by
  obtain⟨G,l⟩:=post.iteN l;exact⟨v,n,XV,F,E,d,rfl,u,o,r,G,post.here l o tV⟩
noncomputable def yW(to:DE)(t:DA):DE:=λσ O=>(to σ O).bnd λx O1=>match x with
 | .own k=>(t σ O1).bnd λys O2=>match ys,O2[k]? with
  |[y],Jd ds=>if ds.length<4000000 then .ok .non (O2.set k (ds++[y])) else .bad
  |_,_=>.bad
 |_=>.bad
def zek(n:PD X Ex o to)(u:sE X Ex (e::es) t)(z:attributeBase o "append" X.env (eval o X.env)=eval o X.env:=by rfl)
  (B:((backTo oV (aP (e::es) X.env)).all (λx=>!x.1)&&(backToKw oV (keywordEach [] X.env)).all (λx=>x.1.isSome)&&decide ((e::es).length+([]:List eC).length+(if ([]:List eC).isEmpty then 0 else 1)<30))=Jg:=by rfl)
  (C:(apos.endLine==oV.line)=Jg:=by rfl) (D:aP (e::es) X.env=(Jh,eval e X.env)::aP es X.env:=by rfl) (E:(backTo oV (aP es X.env)).any (·.1)=Jh:=by rfl):
  PD X Ex (.Call (.Attribute o "append" apos) (e::es) [] oV) (yW to t):=
 qN (D2 gT j9 PySem.F.type_list_append SK n.out u.out z B C D E) λXV μ σ O b_ H Q G I q=>rd.go G I q λd O1 v H1 e_ J x h r p=>by
  cases d with
  | own k=>
   have K:=r;obtain⟨A,rfl,L⟩:=r;obtain⟨ds,M,h1,N,h3⟩:=h.at_ k A L;refine⟨.inl ⟨rfl,M,.of N⟩,sY.go J h p λys O2 ws H2 P e3 R i S f=>?_⟩;split at f
   ·rename_i y AQ T;obtain⟨U,f⟩:=post.ite f;obtain⟨w,rfl,V⟩:=sI S;have g:P[k]?=Jd A:=by
     have:=K.ext R;obtain⟨A',W,Y⟩:=this;cases W;exact Y
    obtain⟨DB,Z,j,l,m⟩:=i.at_ k A g;rw[T] at j;cases j;refine⟨A,Z,w,rfl,rfl,l,bi (by rw[<- m.length];exact U) 's',?_⟩;exact post.ok f (.put (aN g) ⟨_,l⟩) (i.put g (m.append (.cons V .nil))) Hn
   ·exact aj f
  |_=>exact aj p
def yT(te to ti:DE):DS:=λσ O=>(te σ O).bnS λy O1=>(to σ O1).bnS λx O2=>(ti σ O2).bnS λi O3=>match x,i with
 | .own k,.int i=>match O3[k]? with
  | some ds=>match ixN ds.length i with
   |some j=>.nx σ (O3.set k (ds.set j y))
   |none=>.bad
  |none=>.bad
 |_,_=>.bad
def ziY(t:PD X Ex e te)(z:PD X Ex o to)(B:PD X Ex i ti)(C:∀v,assign (.Subscript o i pos) X.env v=(do
   let ov <- holding [v] (eval o X.env);let iv <- holding [v,ov] (eval i X.env)
   standAt pos
   holding [v,ov,iv] (setItem ov iv v)
   release [v,ov,iv] []):=by intro _;rfl)(D:fB [.Subscript o i pos] e qU.line X.env=pure Jh:=by rfl)(F:fC [.Subscript o i pos] e X.env=pure Jf:=by rfl)
  (G:(fH [.Subscript o i pos] X.env).map (·.2)=[assign (.Subscript o i pos) X.env]:=by rfl):sS X Ex (.Assign [.Subscript o i pos] e qU) (yT te to ti):=
 xm (Kj t.out (YK z.out B.out zfj C) D F G) λXV μ σ O E b_ H I J q=>rd.goS I J q λy O1 v H1 e_ K x1 L M N=>rd.goS K L N λx O2 u H2 oW P Q R S T=>rd.goS P R T λii O3 w H3 U V l n W d=>by
  split at d
  ·rename_i k j;split at d
   ·rename_i ds Y;split at d
    ·rename_i m Z;have g:=S.ext l;obtain⟨A,rfl,f⟩:=g;subst W;obtain⟨DB,yE,p,h,r⟩:=n.at_ k A f;rw[Y] at p;cases p;refine⟨A,yE,j,m,rfl,rfl,h,by rw[<- r.length];exact Z,?_⟩;exact d b_ _ U (.put (aN f) ⟨_,h⟩) (V.ext (.put (aN f) ⟨_,h⟩)) (n.put f (r.set ((M.ext Q).ext l) m))
    ·exact aj d
   ·exact aj d
  ·exact aj d
def vX:List D->Option (List Bool)
 |[]=>Jd []
 |.bl b::r=>(vX r).map (b :: ·)
 |_=>Jf
theorem Kl:∀{ds:List D}{vs:List V}{f:List Bool},np K H XV μ ds vs->vX ds=Jd f->vs=f.map V.bl
 |[],vs,f,h,e=>by unfold np at h;subst h;cases e;rfl
 | d::ds,vs,f,h,e=>by
  obtain⟨v,r,rfl,g,i⟩:=h;cases d with
  | bl b=>
   unfold vX at e;cases q:vX ds with
   |none=>rw[q] at e;cases e
   | some cs=>
    rw[q] at e;cases e;unfold Y2 at g;subst g;rw[Kl i q];rfl
  |_=>cases e
def uM:Ow->List D->R D:=λO xs=>match xs with
 | [x]=>match rk O x with
  | some ds=>match vX ds with
   |some bs=>.ok (.bl (bs.all id)) O
   |none=>.bad
  |none=>.bad
 |_=>.bad
def Cs:Ow->List D->R D:=λO xs=>match xs with
 | [x]=>match rk O x with
  | some ds=>match vX ds with
   |some bs=>.ok (.bl (bs.any id)) O
   |none=>.bad
  |none=>.bad
 |_=>.bad
def YW:ue X Ex (λxs H Q=>∃(p:ab)(f:List Bool),xs=[.ref p]/\qg X.K H p (f.map V.bl)/\Q (.bl (f.all id)) H) uM:=by
 intro H XV μ O xs k Q c d q;unfold uM at q;split at q
 ·rename_i x;obtain⟨v,rfl,g⟩:=sI d;split at q
  ·rename_i l e;obtain⟨p,m,rfl,h,i⟩:=uj c g e;split at q
   ·rename_i f j;refine⟨p,f,rfl,?_,post.here q c tV⟩;rw[<- Kl i j];exact h
   ·exact aj q
  ·exact aj q
 ·exact aj q
def Xq:ue X Ex (λxs H Q=>∃(p:ab)(f:List Bool),xs=[.ref p]/\qg X.K H p (f.map V.bl)/\Q (.bl (f.any id)) H) Cs:=by
 intro H XV μ O xs k Q c d q;unfold Cs at q;split at q
 ·rename_i x;obtain⟨v,rfl,g⟩:=sI d;split at q
  ·rename_i l e;obtain⟨p,m,rfl,h,i⟩:=uj c g e;split at q
   ·rename_i f j;refine⟨p,f,rfl,?_,post.here q c tV⟩;rw[<- Kl i j];exact h
   ·exact aj q
  ·exact aj q
 ·exact aj q
def zdC(f:List Bool):(aM f.length).all (λi=>f.getD i Jg)=f.all id:=by
 rw[dq,af,af];constructor
 ·intro h b g;obtain⟨i,d,e⟩:=c8.mp g;have:=h i ⇑d;rw[au,ao d,e] at this;exact this
 ·intro h i d;have d:i<f.length:=⇑d
  rw[au,ao d];exact h _ (cm d)
def zco(f:List Bool):(aM f.length).any (λi=>f.getD i Jg)=f.any id:=by
 rw[dq,bL,bL];constructor
 ·rintro⟨i,d,h⟩;have d:i<f.length:=⇑d
  rw[au,ao d] at h;exact⟨_,cm d,h⟩
 ·rintro⟨b,g,h⟩;obtain⟨i,d,e⟩:=c8.mp g;exact⟨i,by simpa using d,by rw[au,ao d,e];exact h⟩
def Ri{d:List Bool}{f:List ae}(r:nu (d.map V.bl) f){i:Nat}{v:ae}(h:f.toArray[i]?=Jd v):v=.bool (d.getD i Jg):=by
 have h:f[i]?=Jd v:=⇑h
 have g:i<d.length:=by
  have:=r.length;have:=(al.mp h).1;simp at *;lia
 obtain⟨u,j,k⟩:=r.get (by rw[bd,ao g];rfl);rw[h] at j;cases j;cases k;rw[au,ao g];rfl
def zdU(k:X.calm=Jg):nF X (.builtin "all") (λxs H Q=>∃(p:ab)(d:List Bool),xs=[.ref p]/\qg X.K H p (d.map V.bl)/\Q (.bl (d.all id)) H):=by
 intro Y1 s B H xs C Q I r h;obtain⟨p,d,rfl,l,q⟩:=h;obtain⟨u,rfl,m⟩:=tu r;cases m;obtain⟨f,j,g,D⟩:=I.list l;have t:f.toArray.size=d.length:=by have:=j.length;simp at *;lia
 have w:p≠s.heap.objs.size:=by obtain⟨o,n,e,_⟩:=g;exact bt (aR e)
 refine wT I (call_all_walk (e9 g.isList ?_));refine⟨s.heap.objs.size,_,_,f.toArray.size,_,_,λi=>d.getD i Jg,rfl,kI (show X.A.in1.handled=Jf from I.ok.hd k) _ p w f.toArray,⟨⟨_,aO _ rfl,rfl,rfl⟩,g.isList.push _⟩,λi v E F G x y=>?_,λJ L z M=>?_⟩
 ·rw[Ri j x];exact cP y
 ·rw[t,zdC];exact⟨.bl _,H,I.kept λb o e=>z b o (by simpa using bt (aR e)) (ai _ e),rfl,q⟩
def zdz(k:X.calm=Jg):nF X (.builtin "any") (λxs H Q=>∃(p:ab)(d:List Bool),xs=[.ref p]/\qg X.K H p (d.map V.bl)/\Q (.bl (d.any id)) H):=by
 intro Y1 s B H xs C Q I r h;obtain⟨p,d,rfl,l,q⟩:=h;obtain⟨u,rfl,m⟩:=tu r;cases m;obtain⟨f,j,g,D⟩:=I.list l;have t:f.toArray.size=d.length:=by have:=j.length;simp at *;lia
 have w:p≠s.heap.objs.size:=by obtain⟨o,n,e,_⟩:=g;exact bt (aR e)
 refine wT I (call_any_walk (e9 g.isList ?_));refine⟨s.heap.objs.size,_,_,f.toArray.size,_,_,λi=>d.getD i Jg,rfl,kI (show X.A.in1.handled=Jf from I.ok.hd k) _ p w f.toArray,⟨⟨_,aO _ rfl,rfl,rfl⟩,g.isList.push _⟩,λi v E F G x y=>?_,λJ L z M=>?_⟩
 ·rw[Ri j x];exact cP y
 ·rw[t,zco];exact⟨.bl _,H,I.kept λb o e=>z b o (by simpa using bt (aR e)) (ai _ e),rfl,q⟩
end
section
variable{X:Cx}{Ex:Nat->Hp->Prop}{pos:Pos}{a b c e o:aS}{ta tb te to:DE}{Y1:List (ab×Obj)}{b_:St}{H:Hp}{s:ag}{XV μ:List ab}{O:Ow}
def OY(K:ah):R2:=λx y H Q=>∃l b xs zs,x=.ref l/\y=.ref b/\qg K H l xs/\qg K H b zs/\xs.length+zs.length<=KM/\∀p,H p=Jf->Q (.ref p) (upd H p (.lst (xs++zs)))
def ZY:pZ X (dZ .Add) (OY X.K):=by
 intro Y1 s P H x y v u Q I m n h;obtain⟨l,b,R,S,rfl,rfl,p,r,T,q⟩:=h;cases m;cases n;obtain⟨d,g,t,U⟩:=I.list p;obtain⟨f,i,w,V⟩:=I.list r;obtain⟨⟨W,Y,Z,z⟩,A,j,B,C,D⟩:=t;obtain⟨⟨c2,d2,t2,E⟩,G,k,J,L,M⟩:=w;subst B C D J L M;have N:d.toArray++f.toArray=(d++f).toArray:=by simp
 have l1:=g.length;have l2:=i.length;refine i5 ⟨_,j,rfl⟩ ⟨_,k,rfl⟩ PySem.noFill_list_add PySem.seq_list_add PySem.F.slot_list_add PySem.F.entry_list_add (PySem.F.args_list_add_2 _ _)
  (PyProof.Rows.list_addW l b d.toArray f.toArray A G Jf Jf z E (by simp;lia)) ⟨j,k,?_⟩
 rw[N];exact⟨.ref _,_,I.lnew (g.append i) (by rw[aw];lia),rfl,q _ I.fresh⟩
def rS:Ow->D->D->R D:=λO x y=>match x,y with
 |.int i,.int j=>.ok (.int (i+j)) O
 |.str p,.str q=>if p.length+q.length<=4000000 then .ok (.str (p++q)) O else .bad
 |.tup xs,.tup ys=>if xs≠[]/\xs.length+ys.length<=4000000 then .ok (.tup (xs++ys)) O else .bad
 | x,y=>match rk O x,rk O y with
  |some xs,Jd ys=>if xs.length+ys.length<=4000000 then .ok (.lst (xs++ys)) O else .bad
  |_,_=>.bad
def JS(K:ah):R2:=λx y H Q=>(∃i j,x=.int i/\y=.int j/\Q (.int (i+j)) H)\/(∃i j,x=.str i/\y=.str j/\i.length+j.length<=KM/\Q (.str (i++j)) H)\/OB K x y H Q\/OY K x y H Q
def Q7:pZ X (dZ .Add) (JS X.K):=pZ.or XB (pZ.or zbC (pZ.or ZO ZY))
def QP:rp X Ex (JS X.K) rS:=by
 intro H XV μ O x y v w Q c d g q;unfold rS at q;split at q
 ·unfold Y2 at d g;subst d;subst g;exact .inl ⟨_,_,rfl,rfl,post.here q c rD⟩
 ·rename_i p j;unfold Y2 at d g;subst d;subst g;obtain⟨k,q⟩:=post.ite q;refine .inr (.inl ⟨_,_,rfl,rfl,?_,?_⟩)
  ·show p.toArray.size+j.toArray.size<=_;simp;exact xN k
  ·have e:((⟨p.toArray⟩:az)++(⟨j.toArray⟩:az))=⟨(p++j).toArray⟩:=by
    show(⟨p.toArray++j.toArray⟩:az)=_;simp
   rw[e];exact post.here q c KQ
 ·rename_i C D;have m:=d;obtain⟨p,n,rfl,A,h⟩:=d;obtain⟨r,t,rfl,B,i⟩:=g;obtain⟨⟨E,k⟩,q⟩:=post.ite q;have u:=h.length;have z:=i.length;refine .inr (.inr (.inl ⟨p,r,n,t,rfl,rfl,A.sq,B.sq,?_,xN 'o',?_,?_⟩))
  ·rintro rfl;exact E (dL.mp u)
  ·rintro rfl;have:=dL.mp z;subst this;rw[bF] at q;exact post.here q c m
  ·intro _ l f;exact post.ok q (.laid f) (c.laid f) (Y2.newT c f (h.append i))
 ·split at q
  ·rename_i C D u z;obtain⟨p,n,rfl,F,h⟩:=uj c d u;obtain⟨r,t,rfl,G,i⟩:=uj c g z;obtain⟨k,q⟩:=post.ite q;have A:=h.length;have B:=i.length;exact .inr (.inr (.inr ⟨p,r,n,t,rfl,rfl,F,G,xN 'o',λl f=>post.ok q (.laid f) (c.laid f) (Y2.newL c f (h.append i))⟩))
  ·exact aj q
def Xu(d:PD X Ex a ta)(f:PD X Ex b tb):PD X Ex (.BinOp a .Add b pos) (h_ rS ta tb):=J4 Q7 QP d f
noncomputable def Wg(i:Int):g_:=((toString i:az)).cps.toList
def zp1:Ow->List D->R D:=λO xs=>match xs with
 |[.int i]=>if i.natAbs<2 ^ 64 then .ok (.str (Wg i)) O else .bad
 |_=>.bad
def KR(x:az):(⟨x.cps.toList.toArray⟩:az)=x:=by cases x;simp
def UM(g:az->az->Option V):V->List V->Hp->VK->Prop:=λx xs H Q=>∃i j v,x=.str i/\xs=[.str j]/\g i j=Jd v/\Q v H
def Oc(i j:az):Option V:=Jd (.int (bP i j 0 i.length (i.length+1)).length)
def zfX:Ju X "str.count" (UM Oc):=by intro Y1 s k H x l v m Q I d f h;obtain⟨i,j,w,rfl,rfl,g,q⟩:=h;obtain⟨t,rfl⟩:=d;obtain⟨u,rfl,n,rfl⟩:=tu f;cases g;exact SC.count ⟨.int _,H,I.tok _,⟨_,rfl⟩,q⟩
def JO(i j:g_):Option D:=Jd (.int (bP ⟨i.toArray⟩ ⟨j.toArray⟩ 0 i.length (i.length+1)).length)
noncomputable def NO(g:g_->g_->Option D)(to:DE)(t:DA):DE:=λσ O=>(to σ O).bnd λx O1=>match x with
 | .str i=>(t σ O1).bnd λys O2=>match ys with
  | [.str j]=>match g i j with
   |some d=>.ok d O2
   |none=>.bad
  |_=>.bad
 |_=>.bad
def WH{t:DA}{h:List aS}{f k:Pos}{name:az}{n:String}{y:az->az->Option V}{g:g_->g_->Option D}(l:Slot "str" name n)(A:typeOf (.builtin n)=pure (.type "method_descriptor"))(B:Ju X n (UM y))
  (u:∀i j d,g i j=Jd d->∃v,y ⟨i.toArray⟩ ⟨j.toArray⟩=Jd v/\∀K H XV μ,Y2 K H XV μ d v) (C:PD X Ex o to) (E:sE X Ex (e::h) t) (F:attributeBase o name X.env (eval o X.env)=eval o X.env:=by rfl)
  (G:((backTo k (aP (e::h) X.env)).all (λx=>!x.1)&&(backToKw k (keywordEach [] X.env)).all (λx=>x.1.isSome)&&decide ((e::h).length+([]:List eC).length+(if ([]:List eC).isEmpty then 0 else 1)<30))=Jg:=by rfl)
  (I:(f.endLine==k.line)=Jg:=by rfl) (J:aP (e::h) X.env=(Jh,eval e X.env)::aP h X.env:=by rfl) (L:(backTo k (aP h X.env)).any (·.1)=Jh:=by rfl):
  PD X Ex (.Call (.Attribute o name f) (e::h) [] k) (NO g to t):=
 qN (D2 jZ l A B C.out E.out F G I J L) λXV μ Z O b_ H Q M N q=>rd.go M N q λd O1 v H1 e_ P x R r p=>by
  cases d with
  | str i=>
   subst r;refine⟨rfl,sY.go P R p λys O2 ws H2 oW e3 x3 S T m=>?_⟩;split at m
   ·rename_i j;obtain⟨w,rfl,z⟩:=sI T;unfold Y2 at z;subst z;split at m
    ·rename_i d U;obtain⟨v,W,Y⟩:=u _ _ _ U;exact⟨_,_,v,rfl,rfl,W,post.here m S (Y _ _ _ _)⟩
    ·exact aj m
   ·exact aj m
  |_=>exact aj p
def Yg:∀i j d,JO i j=Jd d->∃v,Oc ⟨i.toArray⟩ ⟨j.toArray⟩=Jd v/\∀K H XV μ,Y2 K H XV μ d v:=λi j d h=>by
 cases h;have e:(⟨i.toArray⟩:az).length=i.length:=by show i.toArray.size=_;simp
 exact⟨_,rfl,λ_ _ _ _=>by unfold Y2;rw[e]⟩
def DZ:List D->Option (List az)
 |[]=>Jd []
 |.str cs::r=>(DZ r).map (⟨cs.toArray⟩ :: ·)
 |_=>Jf
theorem Rh:∀{ds:List D}{vs:List V}{f:List az},np K H XV μ ds vs->DZ ds=Jd f->vs=f.map V.str
 |[],vs,f,h,e=>by unfold np at h;subst h;cases e;rfl
 | d::ds,vs,f,h,e=>by
  unfold np at h;obtain⟨v,r,rfl,g,i⟩:=h;cases d with
  | str cs=>
   unfold DZ at e;cases q:DZ ds with
   |none=>rw[q] at e;cases e
   | some zs=>
    rw[q] at e;cases e;unfold Y2 at g;subst g;rw[Rh i q];rfl
  |_=>cases e
def HR:∀{d:List az}{f:List ae},nu (d.map V.str) f->jy f d:=by
 intro d
 induction d with
 |nil=>intro f r;rw[lj] at r;cases r;exact .nil
 | cons y d ih=>
  intro f r;cases r with
  | cons r1 r2=>
   obtain⟨t,e⟩:=r1;subst e;exact .cons y t (ih r2)
noncomputable def WJ(K:ah):V->List V->Hp->VK->Prop:=λx xs H Q=>∃i p ys,x=.str i/\xs=[.ref p]/\(qg K H p (ys.map V.str)\/qX K H p (ys.map V.str))/\i.length<=16/\(ys.map (·.length)).sum+ys.length<=1048576/\Q (.str (Txt.join i ys)) H
def ZT:Ju X "str.join" (WJ X.K):=by
 intro Y1 s A H x B v C Q I l m h;obtain⟨i,p,D,rfl,rfl,sq,g,j,q⟩:=h;obtain⟨t,rfl⟩:=l;obtain⟨u,rfl,n⟩:=tu m;cases n;rcases sq with sq|sq
 ·obtain⟨r,d,f,w⟩:=I.list sq;exact wT I (PyProof.Rows.join_listW f.isList (HR d) g j λy k z=>⟨.str _,H,I.tok k,⟨_,rfl⟩,q⟩)
 ·obtain⟨r,d,f,w⟩:=I.tuple sq;exact wT I (PyProof.Rows.join_tupleW f (HR d) g j λy k z=>⟨.str _,H,I.tok k,⟨_,rfl⟩,q⟩)
def GU(to:DE)(t:DA):DE:=λσ O=>(to σ O).bnd λx O1=>match x with
 | .str i=>(t σ O1).bnd λys O2=>match ys with
  | [z]=>match (match rk O2 z with|some ds=>Jd ds|none=>zy z) with
   | some ds=>match DZ ds with
    |some zs=>if i.length<=16/\(zs.map (·.length)).sum+zs.length<=1048576 then .ok (.str (Txt.join ⟨i.toArray⟩ zs).cps.toList) O2 else .bad
    |none=>.bad
   |none=>.bad
  |_=>.bad
 |_=>.bad
def ziR(C:PD X Ex o to)(D:sE X Ex (e::es) t)(E:attributeBase o "join" X.env (eval o X.env)=eval o X.env:=by rfl)
  (G:((backTo oV (aP (e::es) X.env)).all (λx=>!x.1)&&(backToKw oV (keywordEach [] X.env)).all (λx=>x.1.isSome)&&decide ((e::es).length+([]:List eC).length+(if ([]:List eC).isEmpty then 0 else 1)<30))=Jg:=by rfl)
  (I:(apos.endLine==oV.line)=Jg:=by rfl) (J:aP (e::es) X.env=(Jh,eval e X.env)::aP es X.env:=by rfl) (L:(backTo oV (aP es X.env)).any (·.1)=Jh:=by rfl):
  PD X Ex (.Call (.Attribute o "join" apos) (e::es) [] oV) (GU to t):=
 qN (D2 jZ PySem.F.slot_str_join PySem.F.type_str_join ZT C.out D.out E G I J L) λXV μ σ O b_ H Q j M q=>rd.go j M q λd O1 v H1 e_ N x P r p=>by
  cases d with
  | str i=>
   unfold Y2 at r;subst r;refine⟨rfl,sY.go N P p λys R f u S e3 x3 A T g=>?_⟩;split at g
   ·rename_i z;obtain⟨w,rfl,B⟩:=sI T;split at g
    ·rename_i U n;split at g
     ·rename_i V y;obtain⟨⟨k,W⟩,g⟩:=post.ite g;have h:∃p f,w=.ref p/\(qg X.K u p f\/qX X.K u p f)/\np X.K u XV S U f:=by
       cases j:rk R z with
       | some es=>
        rw[j] at n;cases n;obtain⟨p,f,k,l,m⟩:=uj A B j;exact⟨p,f,k,.inl l,m⟩
       | none=>
        rw[j] at n;obtain⟨p,f,k,l,m⟩:=Bj B n;exact⟨p,f,k,.inr l,m⟩
      obtain⟨Y,f,rfl,l,m⟩:=h;have Z:=Rh m y;subst Z;refine⟨_,Y,V,rfl,rfl,l,?_,W,post.here g A ?_⟩
      ·show i.toArray.size<=16;simpa using k
      ·unfold Y2;rw[KR]
     ·exact aj g
    ·exact aj g
   ·exact aj g
  |_=>exact aj p
abbrev DO:=Sg->Ow->R (Option Int)
noncomputable def BE(Ex:Nat->Hp->Prop)(K:ah)(t:DO):TO:=λb_ H Q=>∃XV μ σ O,nq K H XV μ σ b_/\nk K H XV μ O/\post Ex K (λ_ _(d v:Option Int)=>d=v) H XV μ (t σ O) Q
structure zU(X:Cx)(Ex:Nat->Hp->Prop)(e:Option aS)(t:DO):Prop where
 out:PO X e (BE Ex X.K t)
def xH:DO:=λ_ O=>.ok Jf O
def yo(t:DE):DO:=λσ O=>(t σ O).bnd λd O1=>match d with
 |.int i=>.ok (Jd i) O1
 |_=>.bad
def PO.imp{e:Option aS}{t t':TO}(h:PO X e t)(f:∀σ H Q,t' σ H Q->t σ H Q):PO X e t':=λY1 s σ H Q I q=>h Y1 s σ H Q I (f σ H Q q)
def zfL:zU X Ex Jf xH:=zU.mk <| PO.imp Za λb_ H Q ⟨XV,μ,f,O,g,d,q⟩=>post.here q d rfl
def zf8(h:PD X Ex e te):zU X Ex (Jd e) (yo te):=zU.mk <| PO.imp (ziV h.out) λb_ H Q ⟨XV,μ,k,O,f,g,q⟩=>rd.go f g q λd l v m n t x j r p=>by
 cases d with
 |int i=>unfold Y2 at r;subst r;exact⟨i,rfl,post.here p j rfl⟩
 |_=>exact aj p
def BE.go{i j:Type}{l:Hp->List ab->i->j->Prop}{t:DO}{XV μ:List ab}{σ:Sg}{O:Ow}{b_:St}{H:Hp}{Q1:Option Int->Hp->Prop}{k:Option Int->Ow->R i}{Q:j->Hp->Prop}(m:nq X.K H XV μ σ b_)(n:nk X.K H XV μ O)
  (q:post Ex X.K l H XV μ ((t σ O).bnd k) Q)
  (f:∀v O1 g h,nq X.K g XV h σ b_->Ext H μ g h->nk X.K g XV h O1->post Ex X.K l g XV h (k v O1) Q->Q1 v g):BE Ex X.K t b_ H Q1:=
 ⟨XV,μ,σ,O,m,n,post.bnd q λd O1 v g h x c r p=>by
  subst r;exact f d O1 g h (m.ext x) x c p⟩
def N8:V->Option Int->Option Int->Hp->VK->Prop:=λx lo hi H Q=>∃i,x=.str i/\i.length<=KM/\Q (.str (Txt.slice i lo hi)) H
def zb2{h:aV}{m:ab}{n p:ae}{lo q:Option Int}(v:h.IsSliceOf m n p .none)(w:gD n lo)(r:gD p q):∃l u:Option (Int×Tok),h.IsSlice m l u Jf/\l.map (·.1)=lo/\u.map (·.1)=q:=by
 obtain⟨d,g,f,k⟩:=v;cases w with
 | none=>
  cases r with
  |none=>exact⟨Jf,Jf,⟨d,g,f,k⟩,rfl,rfl⟩
  |int j t=>exact⟨Jf,Jd (j,t),⟨d,g,f,k⟩,rfl,rfl⟩
 | int i t=>
  cases r with
  |none=>exact⟨Jd (i,t),Jf,⟨d,g,f,k⟩,rfl,rfl⟩
  |int j t'=>exact⟨Jd (i,t),Jd (j,t'),⟨d,g,f,k⟩,rfl,rfl⟩
def PX:vk X N8:=by intro Y1 s p H x v r w y z A Q I d f g j h;obtain⟨i,rfl,m,q⟩:=h;obtain⟨t,rfl⟩:=d;obtain⟨l,u,n,rfl,rfl⟩:=zb2 f g j;refine⟨"str",_,PySem.F.slot_str_getitem.lookup,typeIs_str s i t,?_⟩;exact wT I (wpAny_getItem_str_slice n rfl (post_val_or_str ⟨aG (Txt.slice_le i _ _) m,λB k C=>⟨.str _,H,I.tok k,⟨_,rfl⟩,q⟩⟩))
def yX(xs:List D)(lo hi:Option Int):List D:=(xs.drop (HT.sIx xs.length 0 lo)).take (HT.sIx xs.length xs.length hi-HT.sIx xs.length 0 lo)
def NC(O:Ow)(x:D)(lo hi:Option Int):R D:=match x with
 |.str i=>if i.length<=4000000 then .ok (.str (Txt.slice ⟨i.toArray⟩ lo hi).cps.toList) O else .bad
 |.tup ds=>if HT.sIx ds.length 0 lo=0/\HT.sIx ds.length ds.length hi=ds.length then .bad else .ok (.tup (yX ds lo hi)) O
 | x=>match rk O x with
  |some ds=>.ok (.lst (yX ds lo hi)) O
  |none=>.bad
def Jp(te:DE)(tl th:DO):DE:=λσ O=>(te σ O).bnd λx O1=>(tl σ O1).bnd λlo O2=>(th σ O2).bnd λhi O3=>NC O3 x lo hi
def zpg(K:ah):V->Option Int->Option Int->Hp->VK->Prop:=λx lo hi H Q=>N8 x lo hi H Q\/N6 K x lo hi H Q\/Og K x lo hi H Q
def EB{K:ah}{ds:List D}{vs:List V}(h:np K H XV μ ds vs)(lo d:Option Int):np K H XV μ (yX ds lo d) (Ab vs lo d):=by unfold yX Ab;rw[h.length];exact np.take _ (np.drop _ h)
def WK{lo w:Option aS}{y z:DO}{A:Pos}(B:PD X Ex e te)(m:zU X Ex lo y)(C:zU X Ex w z):PD X Ex (.Subscript e (.Slice lo w Jf A) pos) (Jp te y z):=
 qN (Sy (vk.or PX (vk.or P4 QK)) B.out m.out C.out) λXV μ V O b_ H Q D E q=>rd.go D E q λd W v Y Z F x G r p=>BE.go F G p λl O2 H2 oW I J K L=>BE.go I K L λu O3 H3 Ck e4 M h f=>by
  have j:=(r.ext J).ext M;unfold NC at f;split at f
  ·rename_i i;unfold Y2 at j;subst j;obtain⟨m.out,f⟩:=post.ite f;refine .inl ⟨_,rfl,?_,post.here f h ?_⟩
   ·show i.toArray.size<=_;rw[aJ];exact xN m.out
   ·unfold Y2;rw[KR]
  ·rename_i N;obtain⟨n,t,rfl,P,k⟩:=j;split at f
   ·exact aj f
   ·rename_i R;refine .inr (.inl ⟨n,t,rfl,P.sq,by rw[<- k.length];exact R,λS g=>post.ok f (.laid g) (h.laid g) (Y2.newT h g (EB k l u))⟩)
  ·split at f
   ·rename_i N T;obtain⟨n,t,rfl,U,k⟩:=uj h j T;exact .inr (.inr ⟨n,t,rfl,U,λS g=>post.ok f (.laid g) (h.laid g) (Y2.newL h g (EB k l u))⟩)
   ·exact aj f
def Gv:Ow->D->D->R D:=λO x y=>match x,y with
 |.str i,.str j=>.ok (.bl (!(bP ⟨j.toArray⟩ ⟨i.toArray⟩ 0 j.length 1).isEmpty)) O
 |_,_=>.bad
def ZR:rp X Ex (λx y H Q=>∃i j,x=.str i/\y=.str j/\Q (.bl (!(bP j i 0 j.length 1).isEmpty)) H) Gv:=by
 intro H XV μ O x y v w Q c d f q;unfold Gv at q;split at q
 ·rename_i i j;unfold Y2 at d f;subst d;subst f;refine⟨_,_,rfl,rfl,post.here q c ?_⟩;have e:(⟨j.toArray⟩:az).length=j.length:=by show j.toArray.size=_;simp
  rw[e];exact tV
 ·exact aj q
def Ze{i j:Nat}{x y:az}{t:DA}{f g h:Pos}{kt k2 BF}(l:X.calm=Jg)(m:X.N.Nodup)(n:X.N[i]?=Jd x)(u:X.N[j]?=Jd y)(z:i≠j)(A:X.env.scope.names.lookup x=Jd .local)(B:X.env.scope.names.lookup y=Jd .local)(C:sE X Ex [a,b] t)
  (D:fC [.Tuple [.Name x f,.Name y g] kt h] (.Tuple [a,b] k2 BF) X.env=pure (Jd [x,y]))
  (F:fB [.Tuple [.Name x f,.Name y g] kt h] (.Tuple [a,b] k2 BF) pos.line X.env=pure Jh:=by rfl):
  sS X Ex (.Assign [.Tuple [.Name x f,.Name y g] kt h] (.Tuple [a,b] k2 BF) pos) (DM i j t):=
 xm (Yb l m n u z A B C.out D F) λXV μ G O E b_ H k I q=>⟨XV,μ,G,O,k,I,nw.bnS q λd R S J K L M r p=>by
  split at p
  ·obtain⟨v,w,rfl,P,Q⟩:=A9 r;exact⟨v,w,rfl,p _ J K .refl (((k.ext L).set P i).set Q j) M⟩
  ·exact aj p⟩
end
def pD(K:ah)(mg:az->Option ae)(x:az)(st:dW):Prop:=∃f fd,mg x=Jd (.ref f)/\L2.Fun K x x st f fd
structure Callee(P:aQ)(w:a8)(K:ah)(mg:az->Option ae)(base:aV)(x:az)(k n:Nat)(F:o5):Prop where
 ex:∃f fd ps,mg x=Jd (.ref f)/\cJ K (.ref f)=Jg/\Binds K fd ps []/\nK P w K mg base xA k f fd ps (Jx K zW n F)
def Pf(c:Callee X.prog X.w X.K X.mg X.base x k n F)(a:nD j X.A)(b:k<=j)(d:Gl X x)(g:sE X pS (e::es) t)
  (h:rG x:=by decide) (i:aP (e::es) X.env=(Jh,eval e X.env)::aP es X.env:=by rfl) (l:(backTo pos (aP es X.env)).any (·.1)=Jh:=by rfl):
  PD X pS (.Call (.Name x p) (e::es) [] pos) (k_ n F t):=by obtain⟨f,r,s,m,o,q,G⟩:=c.ex;exact WE (G.mono b) a d m o q OH g h i l
def fnC(h:pD K mg x st)(S:sW N ps (qr st))
  (l:∀(e c g:ae)(i:Option ab)(b j:ae)(d:List ae),d.length=ps.length->bindArgs (bV x x (xo st) (tY st) (qr st) .none e c g i b j) ⟨d,[]⟩=pure (ps.zip d))
  (m:∀(f:ab)(b:ae)(A:be)(a:List Env)(s:ag)(H:Hp)(E:XK),nD k (A.deeper (dR x (qr st) s.heap.objs.size f b))->r9 (Cj P w K mg base N x (qr st) f b A a s H E) pS (tY st) t):
  Callee P w K mg base x (k+1) ps.length (pP N.length t):=by obtain⟨f,n,o,F⟩:=h;refine⟨f,n,ps,o,F.kp,F.binds l,?_⟩;obtain⟨u,v,e,c,g,i,b,j,y,rfl,p,q⟩:=F.ex;exact Wt p q S λA a s H E r=>m f b A a s H E r
def Callee.imp(c:Callee P w K mg base x k n F)
  (h:∀ds O H XV a Q,nk K H XV a O->qC pS K H XV a (G ds O) Q->qC pS K H XV a (F ds O) Q):Callee P w K mg base x k n G:=by obtain⟨f,e,g,i,j,l,m⟩:=c.ex;refine⟨f,e,g,i,j,l,m.imp λp H Q E ⟨o,XV,a,ds,O,d,b,q⟩=>⟨o,XV,a,ds,O,d,b,h ds O H XV a Q b q⟩⟩
def Callee.bad(c:Callee P w K mg base x k n F):Callee P w K mg base x k n (λ_ _=>.bad):=
 c.imp λ_ _ _ _ _ _ _ q=>aj q
def frz(O:Ow)(n:Nat):Nat->D->Option D
 | 0,d=>match d with
  |.own k=>if k<n then Jd (.own k) else Jf
  |.lst _=>Jf
  |.tup _=>Jf
  |.map _ _=>Jf
  |d=>Jd d
 | f+1,d=>match d with
  | .own k=>if k<n then Jd (.own k) else match O[k]? with
   |some ds=>(pe (frz O n f) ds).map .lst
   |none=>Jf
  |.lst ds=>(pe (frz O n f) ds).map .lst
  |.tup ds=>(pe (frz O n f) ds).map .tup
  |.map _ _=>Jf
  |d=>Jd d
def v8(n:Nat)(r:R D):R D:=match r with
 | .ok d O=>match frz O n 8 d,pe (pe (frz O n 8)) (O.take n) with
  |some d',Jd O'=>.ok d' O'
  |_,_=>.bad
 |r=>r
section
variable{K:ah}{H:Hp}{XV μ ν:List ab}{O:Ow}{n:Nat}
theorem EE(b:∀d d' v,f d=Jd d'->Y2 K H XV μ d v->Y2 K H XV c_ d' v):∀(ds a:List D)(vs:List V),pe f ds=Jd a->np K H XV μ ds vs->np K H XV c_ a vs
 |[],a,vs,e,h=>by cases e;unfold np at h ⊢;exact h
 | d::ds,a,vs,e,h=>by
  unfold pe at e;split at e
  ·rename_i p c g i;cases e;obtain⟨v,r,rfl,j,k⟩:=h;exact .cons (b d p v g j) (EE b ds c r i k)
  ·cases e
def Pk(c:nk K H XV (μ++ν) O)(S:μ.length=n):∀(f:Nat)(d d':D)(v:V),frz O n f d=Jd d'->Y2 K H XV (μ++ν) d v->Y2 K H XV μ d' v:=by
 have s:∀{a:ab},a∉μ++ν->a∉μ:=λh m=>h (bA _ m);have u:∀{k:Nat}{v:V},k<n->Y2 K H XV (μ++ν) (.own k) v->Y2 K H XV μ (.own k) v:=λ{k v}w h=>by
  obtain⟨a,rfl,e⟩:=h;rw[aF 'o'] at e;exact⟨a,rfl,e⟩
 have B:∀{v:V},Y2 K H XV (μ++ν) .dct v->Y2 K H XV μ .dct v:=λ{v}h=>by
  obtain⟨a,rfl,r,x,y⟩:=h;exact⟨a,rfl,r,x,s y⟩
 have E:∀{C:Nat}{v:V},Y2 K H XV (μ++ν) (.exn C) v->Y2 K H XV μ (.exn C) v:=λ{C v}h=>by
  obtain⟨a,G,rfl,g,r,x,y⟩:=h;exact⟨a,G,rfl,g,r,x,s y⟩
 intro f
 induction f with
 | zero=>
  intro d d' v e h;cases d with
  | own k=>
   unfold frz at e;dsimp only at e;split at e
   ·rename_i w;cases e;exact u w h
   ·cases e
  |lst o=>cases e
  |tup o=>cases e
  |dct=>cases e;exact B h
  |map ks o=>cases e
  |adr _=>cases e;unfold Y2 at h ⊢;exact h
  |exn C=>cases e;exact E h
  |tab P=>cases e;unfold Y2 at h ⊢;exact h
  |non=>cases e;unfold Y2 at h ⊢;exact h
  |bl b=>cases e;unfold Y2 at h ⊢;exact h
  |int i=>cases e;unfold Y2 at h ⊢;exact h
  |str i=>cases e;unfold Y2 at h ⊢;exact h
 | succ f ih=>
  intro d d' v e h;cases d with
  | own k=>
   unfold frz at e;dsimp only at e;split at e
   ·rename_i w;cases e;exact u w h
   ·rename_i w;obtain⟨a,rfl,A⟩:=h;obtain⟨o,t,I,J,L⟩:=c.at_ k a A;rw[I] at e;dsimp only at e;cases p:pe (frz O n f) o with
    |none=>rw[p] at e;cases e
    | some ps=>
     rw[p] at e;cases e;refine⟨a,t,rfl,.inl ⟨.inl J,c.nh a (aN A),λm=>?_⟩,EE ih o ps t p L⟩;obtain⟨j,F,M⟩:=c8.mp m;have N:(μ++ν)[j]?=Jd a:=by rw[aF F,ao F,M]
     obtain⟨T,Q⟩:=al.mp N;obtain⟨U,R⟩:=al.mp A;have:=(jw c.nd).mp (Q.trans R.symm);lia
  | lst o=>
   unfold frz at e;dsimp only at e;obtain⟨a,t,rfl,l,q⟩:=h;cases p:pe (frz O n f) o with
   |none=>rw[p] at e;cases e
   | some ps=>
    rw[p] at e;cases e;exact⟨a,t,rfl,l.imp (λz=>⟨z.1,z.2.1,s z.2.2⟩) id,EE ih o ps t p q⟩
  | tup o=>
   unfold frz at e;dsimp only at e;obtain⟨a,t,rfl,l,q⟩:=h;cases p:pe (frz O n f) o with
   |none=>rw[p] at e;cases e
   | some ps=>
    rw[p] at e;cases e;exact⟨a,t,rfl,l.imp (λz=>⟨z.1,z.2.1,s z.2.2⟩) id,EE ih o ps t p q⟩
  |dct=>cases e;exact B h
  |map ks o=>cases e
  |adr _=>cases e;unfold Y2 at h ⊢;exact h
  |exn C=>cases e;exact E h
  |tab P=>cases e;unfold Y2 at h ⊢;exact h
  |non=>cases e;unfold Y2 at h ⊢;exact h
  |bl b=>cases e;unfold Y2 at h ⊢;exact h
  |int i=>cases e;unfold Y2 at h ⊢;exact h
  |str i=>cases e;unfold Y2 at h ⊢;exact h
theorem K1{α β:Type}{f:α->Option β}:∀{l:List α}{r:List β},pe f l=Jd r->r.length=l.length
 |[],r,e=>by cases e;rfl
 | x::l,r,e=>by
  unfold pe at e;split at e
  ·rename_i p b c a;cases e;simp[K1 a]
  ·cases e
theorem RX{α β:Type}{f:α->Option β}:∀{l:List α}{r:List β}{k:Nat}{y:β},pe f l=Jd r->r[k]?=Jd y->∃x,l[k]?=Jd x/\f x=Jd y
 |[],r,k,y,e,h=>by cases e;simp at h
 | x::l,r,k,y,e,h=>by
  unfold pe at e;split at e
  ·rename_i p g a b;cases e;cases k with
   |zero=>simp at h;subst h;exact⟨x,by simp,a⟩
   |succ k=>obtain⟨z,c,d⟩:=RX b ⇑h;exact⟨z,by simpa using c,d⟩
  ·cases e
def Ss{j:Nat->Hp->Prop}{r:R D}{Q:VK}(g:μ.length=n)(q:qC j K H XV μ (v8 n r) Q):qC j K H XV μ r Q:=by
 cases r with
 |bad=>exact q
 |exc c O'=>exact q
 | ok d O'=>
  intro v l G x c h;obtain⟨ν,rfl⟩:=x.pre;have b:qC j K H XV μ (match frz O' n 8 d,pe (pe (frz O' n 8)) (O'.take n) with|some d',Jd O2=>.ok d' O2|_,_=>.bad) Q:=q;cases i:frz O' n 8 d with
  |none=>rw[i] at b;exact aj b
  | some d'=>
   cases f:pe (pe (frz O' n 8)) (O'.take n) with
   |none=>rw[i,f] at b;exact aj b
   | some O2=>
    rw[i,f] at b;have u:Ext H μ l μ:=⟨⟨[],by simp⟩,x.kept,λ_ m=>.inl m,x.there,x.tab⟩;have o:=c.len.symm;have w:nk K l XV μ O2:=by
     refine⟨?_,(e8.mp c.nd).1,λa m=>c.nh a (bA _ m),c.ht,λk a e=>?_⟩
     ·rw[K1 f,bS,o,aw,g];lia
     ·have y:=(al.mp e).1;obtain⟨z,p,A,B,C⟩:=c.at_ k a (by rw[aF y];exact e);have s:k<O2.length:=by rw[K1 f,bS,o,aw,g];lia
      obtain⟨E,t,F⟩:=RX f (ao s);have:E=z:=by
       rw[i6,Ji 'o',A] at t;cases t;rfl
      subst this;exact⟨_,p,ao s,B,EE (Pk c g 8) _ _ p F C⟩
    exact b v l μ u w (Pk c g 8 d d' v i h)
end
def Cp(F:o5):o5:=λds O=>v8 O.length (F ds O)
def Callee.frz(c:Callee P w K mg base x k n F):Callee P w K mg base x k n (Cp F):=
 c.imp λd O H a e Q b q=>Ss b.len q
noncomputable def N_(sc scope:cG)(N':List az)(sl:g_):Bool:=
 (match scope.kind with|.function=>Jg|_=>Jh)&&decide ((scope.names.map (·.1)).Nodup)&&(scope.names.all λy=>!(y.2 == .free)||sc.names.lookup y.1==Jd .cell||sc.names.lookup y.1==Jd .free) &&
 (N'.zipIdx.all λp=>!((scope.names.any λy=>y.1==p.1&&y.2 == .local)||(scope.names.any λy=>y.1==p.1&&y.2 == .cell))||sl.contains p.2)
def Eb(h:N_ sc scope N' sl=Jg):v7 sc scope N' sl:=by
 unfold N_ at h;simp only[aT,decide_eq_true_eq,af] at h;obtain⟨⟨⟨a,b⟩,c⟩,d⟩:=h;refine⟨?_,b,λy f g=>?_,λi x j k=>?_⟩
 ·cases e:scope.kind<;>rw[e] at a<;>first|rfl|cases a
 ·have:=c y f;rw[g] at this;simpa using this
 ·have l:(x,i)∈N'.zipIdx:=by
   rw[List.mem_zipIdx_iff_getElem?];exact j
  have h:=d _ l;have n:((scope.names.any λy=>y.1==x&&y.2 == .local)||(scope.names.any λy=>y.1==x&&y.2 == .cell))=Jg:=by
   rw[iA];exact k.imp (λm=>bL.mpr ⟨_,m,by simp⟩) λm=>bL.mpr ⟨_,m,by simp⟩
  rw[n] at h;simpa using h
structure JL(mg:az->Option ae)(x:az)(cs:g_):Prop where
 ex:∃t,mg x=Jd (.str ⟨cs.toArray⟩ t)
section
variable{X:Cx}{Ex:Nat->Hp->Prop}{pos:Pos}{b c e:aS}{H:Hp}{XV μ:List ab}{O:Ow}
def Z_(h:JL X.mg x cs)(a:Gl X x:=by rfl)(d:rG x:=by decide):PD X Ex (.Name x pos) (dC (.str cs)):=by obtain⟨t,h⟩:=h.ex;exact zfh cs a h rfl d
def uJ:Ow->D->D->R D:=λO x y=>match y with
 |.str _=>Gv O x y
 |_=>pj AH O x y
def vt:Ow->D->D->R D:=λO x y=>match y with
 | .str _=>match Gv O x y with
  |.ok (.bl b) O1=>.ok (.bl (!b)) O1
  |_=>.bad
 |_=>pj Cq O x y
def PU(a:X.A.units+64<cLine):pZ X (bX .In) (λx y H Q=>zD X.K AH x y H Q \/ ∃i j,x=.str i/\y=.str j/\Q (.bl (!(bP j i 0 j.length 1).isEmpty)) H):=pZ.or (ZL a) zcC
def Pj:rp X Ex (λx y H Q=>zD X.K AH x y H Q \/ ∃i j,x=.str i/\y=.str j/\Q (.bl (!(bP j i 0 j.length 1).isEmpty)) H) uJ:=by
 intro H XV μ O x y v w Q c a d q;unfold uJ at q;split at q
 ·exact .inr (ZR H XV μ O _ _ v w Q c a d q)
 ·exact .inl (CM H XV μ O x y v w Q c a d q)
def Rk(a:X.A.units+64<cLine):pZ X (bX .NotIn) (λx y H Q=>zD X.K Cq x y H Q \/ ∃i j,x=.str i/\y=.str j/\Q (.bl (!(!(bP j i 0 j.length 1).isEmpty))) H):=pZ.or (zeZ a) z7L
def Rn:rp X Ex (λx y H Q=>zD X.K Cq x y H Q \/ ∃i j,x=.str i/\y=.str j/\Q (.bl (!(!(bP j i 0 j.length 1).isEmpty))) H) vt:=by
 intro H XV μ O x y v w Q c a d q;unfold vt at q;split at q
 ·rename_i f;cases x with
  | str i=>
   unfold Y2 at a d;subst a;subst d;refine .inr ⟨_,_,rfl,rfl,post.here q c ?_⟩;have e:(⟨f.toArray⟩:az).length=f.length:=by show f.toArray.size=_;simp
   rw[e];exact tV
  |_=>exact aj q
 ·exact .inl (CM H XV μ O x y v w Q c a d q)
end
section
variable{X:Cx}{Y1:List (ab×Obj)}{b_:St}{H:Hp}{s:ag}
def Inv.turns(ch:List ab)(I:L2.Inv X Y1 b_ H s)(k:∀b o,b∉ch->s.heap.get? b=Jd o->h'.get? b=Jd o)(d:∀b∈ch,rC X Y1 H b)(j:0<t':=by first|assumption|exact Inv.tk ‹_›):L2.Inv X Y1 b_ H { s with heap:=h',toks:=t' }:=by
 have f:∀b u,H b=Jd u->b∉ch:=λb u e z=>by rw[(d b z).1] at e;cases e
 have g:Un (t8 X.stack) ch H H s.heap h':=⟨λb o e _ _ n=>k b o n e,λb o e _ _ n=>⟨o.slots,k b o n e⟩,λ_ _ _ n _=>n,λb o e n=>⟨o,k b o n e⟩,λ_ _ e=>e,λ_ _ _ e=>e,λb l e=>⟨#[],by rw[e];simp⟩⟩;have a:HOk X.prog X.w H h':=λb u e=>(I.hok b u e).stay (λc v h q=>k c v (by
  rcases h with z|z
  ·rw[z];exact f b u e
  ·exact f c _ z) q) (λ_ q=>q) λ_ _ q=>q
 exact I.call g a I.bare λb i=>let ⟨_,f1,_,f3,f4,f5⟩:=d b i;⟨f3,f1,f4,f5⟩
end
def Itz(K:ah)(l m:ab):It:=
 ⟨λi H=>∃xs ys x y,qg K H l xs/\qg K H m ys/\xs[i]?=Jd x/\ys[i]?=Jd y,
   λi H v H'=>∃p x y,H p=Jf/\v=.ref p/\(∀xs,qg K H l xs->xs[i]?=Jd x)/\(∀ys,qg K H m ys->ys[i]?=Jd y)/\H'=upd H p (.tup [x,y]),
   λi H=>∃xs ys,qg K H l xs/\qg K H m ys/\(xs.length<=i\/ys.length<=i)⟩
def oa(K:ah)(src:Src)(a:ab)(H:Hp)(XV μ:List ab):Prop:=∀oU H' c_ O',Mv H XV μ H' oU c_->nk K H' oU c_ O'->∃ds vs,qg K H' a vs/\np K H' oU c_ ds vs/\∀i,src.get O' i=ds[i]?
section
variable{K:ah}{H:Hp}{XV μ:List ab}
def oa.val(l:LstAt K H XV μ a vs)(q:np K H XV μ ds vs):oa K (.val ds) a H XV μ:=λb d e f m c=>⟨ds,vs,(l.mv m).sq,q.mv m,λ_=>rfl⟩
def oa.own(d:μ[k]?=Jd a):oa K (.own k) a H XV μ:=by
 intro o p q e m c;obtain⟨f,rfl⟩:=m.pre;have g:(μ++f)[k]?=Jd a:=by rw[aF (al.mp d).1];exact d
 obtain⟨b,h,j,l,n⟩:=c.at_ k a g;exact⟨b,h,.of l,n,λi=>by show(match e[k]? with|some b=>b[i]?|none=>Jf)=_;rw[j]⟩
def oa.mv(h:oa K src a H XV μ)(e:Mv H XV μ H1 vS e_):oa K src a H1 vS e_:=λb d f g m c=>h b d f g (e.trans m) c
def ny.zip(E:oa K s1 a H XV μ)(F:oa K s2 b H XV μ):ny K (Itz K a b) (.zip s1 s2) H XV μ:=by
 intro l n o e m c i;obtain⟨G,f,g,q,I⟩:=E l n o e m c;obtain⟨J,h,j,r,L⟩:=F l n o e m c;show match (match s1.get e i,s2.get e i with|some x,Jd y=>Jd (D.tup [x,y])|_,_=>Jf) with|some d=>_|none=>_
 rw[I,L];cases s:G[i]? with
 | none=>
  exact⟨f,h,g,j,.inl (by rw[<- q.length];exact aY.mp s)⟩
 | some x=>
  cases t:J[i]? with
  | none=>
   exact⟨f,h,g,j,.inr (by rw[<- r.length];exact aY.mp t)⟩
  | some y=>
   obtain⟨v,u,M⟩:=q.get s;obtain⟨w,A,N⟩:=r.get t;refine⟨⟨f,h,v,w,g,j,u,A⟩,λz R O=>?_⟩;obtain⟨p,S,T,k,rfl,P,Q,rfl⟩:=O;have B:=P f g;rw[u] at B;cases B;have C:=Q h j;rw[A] at C;cases C;exact⟨.laid k,c.laid k,Y2.newT c k (.cons M (.cons N .nil))⟩
end
noncomputable def OP:D->Option Src
 |.lst ds=>Jd (.val ds)
 |.own k=>Jd (.own k)
 |_=>Jf
def zpf(t:DA):DI:=λσ O=>(t σ O).bnd λxs O1=>match xs with
 | [x,y]=>match OP x,OP y with
  |some p,Jd q=>.ok (.zip p q) O1
  |_,_=>.bad
 |_=>.bad
section
variable{X:Cx}{Ex:Nat->Hp->Prop}{c e:aS}{Y1:List (ab×Obj)}{H:Hp}{s:ag}{XV μ:List ab}{O:Ow}
def zfP:bu "zip" = Jd (.type "zip"):=by boot_by_name
def Yh{i j:Nat}{x y:az}{b d f:Pos}{g:Nat}(h:X.calm=Jg)(a:X.N.Nodup)(k:X.N[i]?=Jd x)(l:X.N[j]?=Jd y)(m:Loc X.env.scope x)(n:Loc X.env.scope y)
  (o:X.fn x=Jg\/X.env.scope.names.lookup x=Jd .local) (p:X.fn y=Jg\/X.env.scope.names.lookup y=Jd .local):PG X (.Tuple [.Name x b,.Name y d] g f) ((Tg.two i j).rd X.K):=
 O_ h (EK (CY a k m o) (EK (CY a l n p) QQ))
def yk:List D->Option (List Int)
 |[]=>Jd []
 |.int i::r=>(yk r).map (i :: ·)
 |_=>Jf
theorem KH:∀{ds:List D}{vs:List V}{ns:List Int},np K H XV μ ds vs->yk ds=Jd ns->vs=ns.map V.int
 |[],vs,ys,h,e=>by unfold np at h;subst h;cases e;rfl
 | d::ds,vs,ys,h,e=>by
  obtain⟨v,r,rfl,a,b⟩:=h;cases d with
  | int i=>
   unfold yk at e;cases q:yk ds with
   |none=>rw[q] at e;cases e
   | some zs=>
    rw[q] at e;cases e;unfold Y2 at a;subst a;rw[KH b q];rfl
  |_=>cases e
def y0:Ow->List D->R D:=λO xs=>match xs with
 | [.str cs]=>match kh ⟨cs.toArray⟩ with
  |some n=>if cs.length<=640 then .ok (.int n) O else .bad
  |none=>.bad
 |xs=>JA O xs
def zbQ:nF X (.type "int") (λxs H Q=>∃x n,xs=[.str x]/\kh x=Jd n/\x.length<=640/\Q (.int n) H):=by intro Y1 s d H xs f Q I r h;obtain⟨x,n,rfl,a,b,q⟩:=h;obtain⟨u,rfl,t,rfl⟩:=tu r;exact PySem.W.KIN.call_text a b ⟨.int _,H,I.tok _,⟨_,rfl⟩,q⟩
noncomputable def Oo:List V->Hp->VK->Prop:=λxs H Q=>((∃i,xs=[.int i]/\Q (.int i) H) \/ ∃k,xs=[.bl k]/\Q (.int (if k then 1 else 0)) H) \/ ∃x n,xs=[.str x]/\kh x=Jd n/\x.length<=640/\Q (.int n) H
def zdM:nF X (.type "int") Oo:=nF.or zdo zbQ
def zi0:ue X Ex Oo y0:=by
 intro H XV μ O i b Q c d q;unfold y0 at q;split at q
 ·rename_i f;obtain⟨v,rfl,a⟩:=sI d;unfold Y2 at a;subst a;split at q
  ·rename_i n g;obtain⟨h,q⟩:=post.ite q;refine .inr ⟨_,n,rfl,g,?_,post.here q c rD⟩;show f.toArray.size<=640;simpa using h
  ·exact aj q
 ·exact .inl (YD H XV μ O _ b Q c d q)
end
def Callee.self(c:Callee P w K mg base x k n F):Callee P w K mg base x k n F:=c
section
variable{X:Cx}{Ex:Nat->Hp->Prop}{pos:Pos}{e o i:aS}{ti:DE}{Y1:List (ab×Obj)}{b_:St}{H:Hp}{s:ag}{XV μ:List ab}{O:Ow}
def zgB:sS X Ex (.Pass pos) qe:=xm zib λXV μ c O E b_ H a b q=>q b_ H μ .refl a b
noncomputable def tj(tab:List (Int×Int))(i:Int):Option Int:=(tab.find? λkv=>kv.1==i).map (·.2)
def WY(at_:List (Int×Int)->Int->Option Int)(tab:List (Int×Int))(t:DE):DE:=λσ O=>(t σ O).bnd λx O1=>match x with
 | .int i=>match at_ tab i with
  |some v=>.ok (.int v) O1
  |none=>.bad
 |_=>.bad
def DP:List (Int×Int)->DE->DE:=WY tj
noncomputable def Gw:List DictEntry->List (Int×Int)->Bool
 |[],[]=>Jg
 |e::es,(k,v)::r=>(match e.key with|.int i _=>i==k|_=>Jh)&&(e.hash==hashInt k)&&(match e.val with|.int i _=>i==v|_=>Jh)&&Gw es r
 |_,_=>Jh
def GB(o:Obj)(tab:List (Int×Int)):Bool:=(match o.cls with|.type n=>n == "dict"|_=>Jh)&&o.dict.isNone&&o.slots.isEmpty&&decide ((tab.map (·.1)).Nodup)&&(match o.data with|.dict es _=>Gw es.toList tab|_=>Jh)
structure A1(K:ah)(mg:az->Option ae)(x:az)(tab:List (Int×Int)):Prop where
 ex:∃e o,mg x=Jd (.ref e)/\K.lookup e=Jd o/\GB o tab=Jg/\(e==sysModules)=Jh
theorem TK:∀{f:List DictEntry}{tab:List (Int×Int)},Gw f tab=Jg->∃a:List (Int×ae),Pairs (intKind P w) f a/\(∀e∈f,∃k,(intKind P w).is k e.key=Jg/\e.hash=(intKind P w).hash k)/\a.map (·.1)=tab.map (·.1)/\
  ∀i,(valueAt a i).isSome=(tj tab i).isSome/\∀v,tj tab i=Jd v->∃t,valueAt a i=Jd (.int v t)
 |[],[],_=>⟨[],.nil,by simp,rfl,λi=>⟨rfl,λv h=>by cases h⟩⟩
 |[],_::_,h=>by cases h
 |_::_,[],h=>by cases h
 | e::f,(k,v)::r,h=>by
  obtain⟨b,key,x⟩:=e;unfold Gw at h;simp at h;obtain⟨⟨⟨c,g⟩,d⟩,y⟩:=h;split at c
  ·rename_i i t;split at d
   ·rename_i j u;have c:i=k:=⇑c
    have g:b=hashInt k:=⇑g
    have d:j=v:=⇑d
    subst c d;obtain⟨a,p,z,A,l⟩:=TK y;have n:(intKind P w).is i (.int i t)=Jg:=by show g7 i (.int i t)=Jg;simp[g7]
    refine⟨(i,.int j u)::a,.cons n rfl p,λe he=>?_,by simp[A],λq=>?_⟩
    ·rcases ar.mp he with rfl|he
     ·exact⟨i,n,g⟩
     ·exact z e he
    ·unfold valueAt tj;by_cases m:i=q
     ·subst m;simp
     ·have B:(decide ((i,mU j u).1=q))=Jh:=⇑m
      have C:((i,j).1==q)=Jh:=⇑m
      rw[ef,ef,B,C];exact l q
   ·cases d
  ·cases c
def zfy{P:aQ}{w:a8}{o:Obj}{a:List (Int×Int)}(h:GB o a=Jg):∃f:Int->Option ae,(∀(c:aV)(e:ab),c.get? e=Jd o->c.MapOf (intKind P w) e f)/\∀i,(f i).isSome=(tj a i).isSome/\∀v,tj a i=Jd v->∃t,f i=Jd (.int v t):=by
 obtain⟨q,l,m,d⟩:=o;unfold GB at h;simp at h;obtain⟨⟨⟨⟨b,r⟩,u⟩,x⟩,g⟩:=h;split at b
 ·rename_i n;have b:n = "dict":=⇑b
  split at g
  ·rename_i y z;obtain⟨A,p,B,C,j⟩:=TK g;refine⟨valueAt A,λc e k=>?_,j⟩;refine Heap.DictOf.mapOf ⟨_,y,z,k,⟨?_,?_,?_⟩,rfl,?_,p,by rw[C];exact x⟩
   ·show eG n=_;rw[b]
   ·simpa using r
   ·simpa using u
   ·intro e k;exact B e ⇑k
  ·cases g
 ·cases b
def Rp(h:A1 X.K X.mg x tab):∃e,X.mg x=Jd (.ref e)/\(e==sysModules)=Jh/\∃f:Int->Option ae,(∀(Y1:List (ab×Obj))(b_:St)(H:Hp)(s:ag),L2.Inv X Y1 b_ H s->s.heap.MapOf (intKind X.prog X.w) e f)/\
  ∀i,(f i).isSome=(tj tab i).isSome/\∀v,tj tab i=Jd v->∃t,f i=Jd (.int v t):=by obtain⟨e,o,b,c,d,g⟩:=h.ex;obtain⟨f,m,a⟩:=zfy d;exact⟨e,b,g,f,λY1 b_ H s I=>m _ e (I.kIn e o c),a⟩
def LQ(i:Int)(t:Tok):(intKind P w).is i (.int i t)=Jg:=by show g7 i (.int i t)=Jg;simp[g7]
def zhM(h:A1 X.K X.mg x tab)(B:Gl X x)(C:PD X Ex i ti)(D:GC i)(E:rG x:=by decide):PD X Ex (.Subscript (.Name x p) i pos) (DP tab ti):=by
 obtain⟨e,F,V,f,G,k⟩:=Rp h;refine⟨?_⟩;rintro Y1 s b_ H Q I ⟨XV,μ,W,O,J,L,q⟩;refine Q9 js.lookup D (Ei (v:=.ref e) B F rfl E Y1 s b_ H (λv l=>v=.ref e/\l=H) I ⟨rfl,rfl⟩ |> λz=>o7 z λu N ⟨v,l,P,m,R,S⟩=>?_);subst R S;cases m;refine o7 (C.out Y1 N b_ l _ P (rd.go J L q (Q1:=λy b=>∃XV c g d,nk X.K b XV c g/\Y2 X.K b XV c d y/\qC Ex X.K b XV c (match d with|.int i=>(match tj tab i with|some v=>.ok (.int v) g|none=>.bad)|_=>.bad) Q)
  λd g y b c Y Z n r a=>⟨XV,c,g,d,n,r,a⟩)) λu T ⟨y,b,A,m,XV,c,g,d,n,r,a⟩=>?_
 have M:=G Y1 b_ b T A;cases d with
 | int j=>
  unfold Y2 at r;subst r;obtain⟨t,rfl⟩:=m;have a:qC Ex X.K b XV c (match tj tab j with|some v=>.ok (.int v) g|none=>.bad) Q:=a;cases w:tj tab j with
  |none=>rw[w] at a;exact aj a
  | some v=>
   rw[w] at a;obtain⟨t',U⟩:=(k j).2 v w;exact⟨M.typeIs,wpAny_getItem_of (LQ j t) M U ⟨.int v,b,A.tok _,⟨_,rfl⟩,post.here a n rD⟩⟩
 |_=>exact aj a
def zo(neg:Bool)(tab:List (Int×Int))(t:DE):DE:=λσ O=>(t σ O).bnd λx O1=>match x with
 |.int i=>.ok (.bl (if neg=Jg then !(tj tab i).isSome else (tj tab i).isSome)) O1
 |_=>.bad
def RY(a:Bool)(h:A1 X.K X.mg x tab)(B:Gl X x)(C:PD X Ex i ti)(D:rG x:=by decide):PC X (if a=Jg then .NotIn else .In) i (.Name x p) (rd Ex X.K (zo a tab ti)):=by
 obtain⟨e,E,A,f,F,n⟩:=Rp h;rintro Y1 s b_ H Q I ⟨XV,μ,W,O,G,J,q⟩;refine o7 (C.out Y1 s b_ H _ I (rd.go G J q (Q1:=λy c=>∃XV g k d,nk X.K c XV g k/\Y2 X.K c XV g d y/\qC Ex X.K c XV g (match d with|.int i=>.ok (.bl (if a=Jg then !(tj tab i).isSome else (tj tab i).isSome)) k|_=>.bad) Q)
  λd k y c g Y Z l r b=>⟨XV,g,k,d,l,r,b⟩)) λu L ⟨y,c,N,P,XV,g,k,d,l,r,b⟩=>?_
 refine o7 (Ei (v:=.ref e) B E rfl D Y1 L b_ c (λv R=>v=.ref e/\R=c) N ⟨rfl,rfl⟩) λw S ⟨v,m,z,T,U,V⟩=>?_;subst U V;cases T;have M:=F Y1 b_ m S z;cases d with
 | int j=>
  unfold Y2 at r;subst r;obtain⟨t,rfl⟩:=P;have b:qC Ex X.K m XV g (.ok (.bl (if a=Jg then !(tj tab j).isSome else (tj tab j).isSome)) k) Q:=b;rw[<- (n j).1] at b;cases a with
  |false=>exact wpAny_in_of (LQ j t) A M ⟨.bl _,m,z.tok _,rfl,post.here b l tV⟩
  |true=>exact wpAny_notIn_of (LQ j t) A M ⟨.bl _,m,z.tok _,rfl,post.here b l tV⟩
 |_=>exact aj b
def zdy(h:A1 X.K X.mg x tab)(a:Gl X x)(b:PD X Ex i ti)(c:rG x:=by decide)(d:behindInMarks .NotIn (.Name x p)=Jh:=by rfl):PD X Ex (.Compare i [.NotIn] [.Name x p] pos) (zo Jg tab ti):=⟨YF (RY Jg h a b c) d⟩
def WL(a:nq X.K H XV μ σ b_)(b:nk X.K H XV μ O)(q:xk Ex X.K H XV μ (o8 td σ O) Q):tB (rd Ex X.K td) b_ H Q:=
 RV (λXV μ σ O b_ H Q a b q=>⟨XV,μ,σ,O,a,b,q⟩) XV μ σ O b_ H Q a b q
def zbw(h:A1 X.K X.mg x tab)(a:Gl X x)(b:PD X Ex i ti)(c:rG x:=by decide)(d:behindInMarks .NotIn (.Name x p)=Jh:=by rfl):qM X Ex (.Compare i [.NotIn] [.Name x p] pos) (o8 (zo Jg tab ti)):=
 G4 (XY (RY Jg h a b c) d) λXV μ j O b_ H Q f g q=>WL f g q
end
end DL
namespace DL
open PySem L2 PyProof.Rows
noncomputable def tO:List D->Option m_
 |[]=>Jd []
 |.str cs::r=>(tO r).map (cs :: ·)
 |_=>Jf
section
variable{H:Hp}{XV μ:List ab}
theorem Hq{K:ah}:∀{ds:List D}{vs:List V}{a:m_},np K H XV μ ds vs->tO ds=Jd a->vs=a.map λcs=>V.str ⟨cs.toArray⟩
 |[],vs,ys,h,e=>by unfold np at h;subst h;cases e;rfl
 | d::ds,vs,ys,h,e=>by
  unfold np at h;obtain⟨v,r,rfl,b,c⟩:=h;cases d with
  | str cs=>
   unfold tO at e;cases q:tO ds with
   |none=>rw[q] at e;cases e
   | some zs=>
    rw[q] at e;cases e;unfold Y2 at b;subst b;rw[Hq c q];rfl
  |_=>cases e
def Xn:bu "len" = Jd (.builtin "len"):=by boot_by_name
def Y6:bu "all" = Jd (.builtin "all"):=by boot_by_name
def Yv:bu "any" = Jd (.builtin "any"):=by boot_by_name
def Pa:bu "int" = Jd (.type "int"):=by boot_by_name
def Xc:bu "str" = Jd (.type "str"):=by boot_by_name
def Ry:bu "tuple" = Jd (.type "tuple"):=by boot_by_name
def Zu:bu "list" = Jd (.type "list"):=by boot_by_name
def X6:bu "max" = Jd (.builtin "max"):=by boot_by_name
def Ks:bu "min" = Jd (.builtin "min"):=by boot_by_name
def HX:bu "sorted" = Jd (.builtin "sorted"):=by boot_by_name
def Iv:bu "isinstance" = Jd (.builtin "isinstance"):=by boot_by_name
def ziE:bu "bool" = Jd (.type "bool"):=by boot_by_name
def zhP:bu "dict" = Jd (.type "dict"):=by boot_by_name
end
end DL
namespace DL
def Zs{α:Type}(a ds:List α)(d:α):(a++d::ds)[a.length]?=Jd d:=by simp
theorem S_:∀(ds a Ja:List D)(f:Nat),ds.length<=f->(∀d∈ds,∀Ja:List D,Ja.length<4000000->step d O Ja=.ok (Ja++g d) O)->Ja.length+(ds.flatMap g).length+ds.length<4000000->
  pR (.val (a++ds)) step f a.length O Ja=.ok (Ja++ds.flatMap g) O
 | [],a,Ja,f,_,_,_=>by
  cases f<;>(unfold pR;simp[Src.get])
 |d::ds,a,Ja,0,h,_,_=>by simp at h
 | d::ds,a,Ja,f+1,h,hs,hl=>by
  unfold pR;have e:Src.get (.val (a++d::ds)) O a.length=Jd d:=Zs a ds d;rw[e];simp only[cg,aw,bg] at hl;show((step d O Ja).bnd λb c=>pR (.val (a++d::ds)) step f (a.length+1) c b)=_;rw[hs d am Ja 'o'];show pR (.val (a++d::ds)) step f (a.length+1) O (Ja++g d)=_;have:=S_ ds (a++[d]) (Ja++g d) f ⇑h (λi j=>hs i (ak _ j)) (by rw[aw];lia);rw[ba,List.singleton_append,aw,eR] at this;rw[this];simp
def Ly(n:it0 σ O=.ok (.val ds) O)(u:ds.length<1900000)
  (q:∀d∈ds,r8 ts ((pf (pf (σ++aH ext Jf) [i]) [i]).set i (Jd d)) O=.ok (p d) O) (r:∀d∈ds,p d=Jg->te ((pf (pf (σ++aH ext Jf) [i]) [i]).set i (Jd d)) O=.ok (e d) O) (o:Bool):
  pB o ext it0 (.one i) ts [] te σ O=ua o (.ok ((ds.filter p).map e) O):=by
 unfold pB yw;rw[n];show ua o (vM (pR (.val ds) _ ds.length 0 O []))=_;have c:∀d∈ds,∀a:List D,a.length<4000000->xh ⟨it0,.one i,ts⟩ [] te (pf (σ++aH ext Jf) (pK [⟨it0,.one i,ts⟩])) d O a=.ok (a++(if p d=Jg then [e d] else [])) O:=by
  intro d j a s;show(match Tg.put (.one i) d (pf (pf (σ++aH ext Jf) [i]) [i]) with|some qj=>(r8 ts qj O).bnd λb k=>if b=Jg then r_ [] te qj k a else .ok a k|none=>.bad)=_;show(r8 ts ((pf (pf (σ++aH ext Jf) [i]) [i]).set i (Jd d)) O).bnd _=_;rw[q d j];show(if p d=Jg then r_ [] te _ O a else .ok a O)=_;by_cases f:p d=Jg
  ·rw[Ji f,Ji f];unfold r_;rw[r d j f];show(if a.length<4000000 then _ else _)=_;rw[Ji s]
  ·rw[Jk f,Jk f];simp
 have m:∀l:List D,(l.flatMap λd=>if p d=Jg then [e d] else [])=(l.filter p).map e:=by
  intro l
  induction l with
  |nil=>rfl
  | cons x l ih=>
   rw[cg,ih,cZ];by_cases h:p x=Jg
   ·rw[Ji h,Ji h];rfl
   ·rw[Jk h,Jk h];rfl
 have g:((ds.filter p).map e).length<=ds.length:=by rw[aA];exact a7 _ _
 have w:=S_ ds [] [] ds.length (aE _) c (by rw[m];simp at g ⊢;lia);rw[dP,m,dP] at w;have t:pR (.val ds) (xh ⟨it0,.one i,ts⟩ [] te (pf (σ++aH ext Jf) (pK [⟨it0,.one i,ts⟩]))) ds.length 0 O []=.ok ((ds.filter p).map e) O:=w;rw[t];rfl
theorem Te(I:Nat->Sg->Ow->Prop)(h:∀i σ O d,I i σ O->ds[i]?=Jd d->∃σ' O',step d σ O=.nx σ' O'/\I (i+1) σ' O'):
  ∀(f i:Nat)(σ:Sg)(O:Ow),I i σ O->ds.length<=i+f->i<=ds.length->∃σ' O',uf (.val ds) step f i σ O=.nx σ' O'/\I ds.length σ' O'
 | 0,i,σ,O,hI,h1,h2=>by
  have:i=ds.length:=by lia
  subst this;refine⟨σ,O,?_,hI⟩;unfold uf;have e:Src.get (.val ds) O ds.length=Jf:=by simp[Src.get]
  rw[e]
 | f+1,i,σ,O,hI,h1,h2=>by
  unfold uf;have a:Src.get (.val ds) O i=ds[i]?:=rfl;rw[a];cases e:ds[i]? with
  | none=>
   have:i=ds.length:=by have:=aY.mp e;lia
   subst this;exact⟨σ,O,rfl,hI⟩
  | some d=>
   obtain⟨σ',O',b,c⟩:=h i σ O d hI e;dsimp only;rw[b];exact Te I h f (i+1) σ' O' c 'o' (by have:=(al.mp e).1;lia)
theorem Ln(I:Nat->Ow->List D->Prop)(h:∀i O Ja d,I i O Ja->ds[i]?=Jd d->∃a O',step d O Ja=.ok a O'/\I (i+1) O' a):
  ∀(f i:Nat)(O:Ow)(Ja:List D),I i O Ja->ds.length<=i+f->i<=ds.length->∃a O',pR (.val ds) step f i O Ja=.ok a O'/\I ds.length O' a
 | 0,i,O,Ja,hI,h1,h2=>by
  have:i=ds.length:=by lia
  subst this;refine⟨Ja,O,?_,hI⟩;unfold pR;have e:Src.get (.val ds) O ds.length=Jf:=by simp[Src.get]
  rw[e]
 | f+1,i,O,Ja,hI,h1,h2=>by
  unfold pR;have b:Src.get (.val ds) O i=ds[i]?:=rfl;rw[b];cases e:ds[i]? with
  | none=>
   have:i=ds.length:=by have:=aY.mp e;lia
   subst this;exact⟨Ja,O,rfl,hI⟩
  | some d=>
   obtain⟨a,O',c,g⟩:=h i O Ja d hI e;dsimp only;rw[c];exact Ln I h f (i+1) O' a g 'o' (by have:=(al.mp e).1;lia)
def yi(n:Nat):D->Bool
 |.own k=>decide (k<n)
 |.lst _=>Jh
 |.tup _=>Jh
 |.map _ _=>Jh
 |_=>Jg
def zZ(O:Ow):Prop:=∀c∈O,∀d∈c,yi O.length d=Jg
def HI(h:yi n d=Jg):frz O n f d=Jd d:=by
 cases d with
 | own k=>
  have h:k<n:=by simpa [yi] using h
  cases f<;>(unfold frz;dsimp only;rw[Ji h])
 |lst ds=>cases h
 |tup ds=>cases h
 |map _ _=>cases h
 |_=>cases f<;>rfl
theorem zr{α:Type}{f:α->Option α}:∀{l:List α},(∀x∈l,f x=Jd x)->pe f l=Jd l
 |[],_=>rfl
 | x::l,h=>by
  unfold pe;rw[h x am,zr λy a=>h y (ak _ a)]
section
variable{σ σ':Sg}{O O1 O2:Ow}{t u ta tb:DE}{tA:DA}{x y:D}{b:Bool}{ds:List D}
def oP(h:t σ O=.ok x O1):a_ t f_ σ O=.ok [x] O1:=by show((t σ O).bnd _)=_;rw[h];rfl
def o_(a:t σ O=.ok x O1)(c:u σ O1=.ok y O2):a_ t (a_ u f_) σ O=.ok [x,y] O2:=by show((t σ O).bnd _)=_;rw[a];show((a_ u f_ σ O1).bnd _)=_;rw[oP c];rfl
def Ar(a:t σ O=.ok x O1)(c:tA σ O1=.ok ds O2):a_ t tA σ O=.ok (x::ds) O2:=by show((t σ O).bnd _)=_;rw[a];show((tA σ O1).bnd _)=_;rw[c];rfl
def tW(h:tA σ O=.ok ds O1)(a:ds.length=n):k_ n F tA σ O=F ds O1:=by show((tA σ O).bnd _)=_;rw[h];show(if ds.length=n then _ else _)=_;rw[Ji a]
def vG(h:tA σ O=.ok ds O1):oO f tA σ O=f O1 ds:=by show((tA σ O).bnd _)=_;rw[h];rfl
def qD(a:ta σ O=.ok x O1)(c:tb σ O1=.ok y O2):h_ f ta tb σ O=f O2 x y:=by show((ta σ O).bnd _)=_;rw[a];show((tb σ O1).bnd _)=_;rw[c];rfl
def rK(h:t σ O=.ok (.bl b) O1):o8 t σ O=.ok b O1:=by show((t σ O).bnd _)=_;rw[h];rfl
def tF(h:t σ O=.ok (.bl b) O1):qk t σ O=.ok b O1:=by show((t σ O).bnd _)=_;rw[h];rfl
def tD(h:c σ O=.ok b O1):qS c σ O=.ok (!b) O1:=by show((c σ O).bnd _)=_;rw[h];rfl
def sV(h:t σ O=.ok (.lst ds) O1):pA t σ O=.ok (.val ds) O1:=by show((t σ O).bnd _)=_;rw[h];rfl
def Am(h:t σ O=.ok (.tup ds) O1):pA t σ O=.ok (.val ds) O1:=by show((t σ O).bnd _)=_;rw[h];rfl
def CS(h:t σ O=.ok x O1):pN i t σ O=.nx (σ.set i (Jd x)) O1:=by show((t σ O).bnS _)=_;rw[h];rfl
def qO(h:t σ O=.ok x O1):oX t σ O=.rt x O1:=by show((t σ O).bnS _)=_;rw[h];rfl
def Hz(h:t σ O=.ok x O1):rg t σ O=.nx σ O1:=by show((t σ O).bnS _)=_;rw[h];rfl
def tU(h:c σ O=.ok b O1):qc c a d σ O=if b=Jg then a σ O1 else d σ O1:=by show((c σ O).bnS _)=_;rw[h];rfl
def tX(h:a σ O=.nx σ' O1):oM a d σ O=d σ' O1:=by show(match a σ O with|.nx σ' O'=>_|r=>r)=_;rw[h]
def Eo(h:a σ O=.rt x O1):oM a d σ O=.rt x O1:=by show(match a σ O with|.nx σ' O'=>_|r=>r)=_;rw[h]
def Zl(h:it σ O=.ok src O1):yg it g body σ O=uf src (λd σ O=>match g.put d σ with|some σ'=>body σ' O|none=>.bad) (src.size O1) 0 σ O1:=by show((it σ O).bnS _)=_;rw[h];rfl
def Hu(h:tA σ O=.ok [.int (n:Nat)] O1)(c:n<100000):vf tA σ O=.ok (.val ((aM n).map λ(i:Nat)=>D.int (i:Int))) O1:=by
 have a:-1000000<=((n:Nat):Int)/\((n:Nat):Int)<=1000000:=by constructor<;>lia
 unfold vf;rw[h];dsimp only[R.bnd];rw[Ji a];unfold PB;have d:(((n:Nat):Int)-0).toNat=n:=by lia
 congr 2;refine dj λi _=>?_;rw[Int.zero_add]
def R1(h:cs.length<=4000000):p8 O [.str cs]=.ok (.int cs.length) O:=by show(if cs.length<=4000000 then R.ok (D.int cs.length) O else R.bad)=_;rw[Ji h]
def Qn{cs:g_}{i:Nat}(h:cs.length<=4000000)(a:i<cs.length):pY O (.str cs) (.int (i:Int))=.ok (.str [cs[i]]) O:=by show(if cs.length<=4000000 then (match L2.atI cs (i:Int) with|some ch=>R.ok (D.str [ch]) O|none=>R.bad) else R.bad)=_;rw[Ji h,L2.atI_nat (ao a)]
def KJ(a:i<ds.length):pY O (.tup ds) (.int (i:Int))=.ok ds[i] O:=by show(match L2.atI ds (i:Int) with|some d=>R.ok d O|none=>R.bad)=_;rw[L2.atI_nat (ao a)]
def KS(a:i<ds.length):pY O (.lst ds) (.int (i:Int))=.ok ds[i] O:=by show(match L2.atI ds (i:Int) with|some d=>R.ok d O|none=>R.bad)=_;rw[L2.atI_nat (ao a)]
end
theorem SA{α:Type}{src:Src}{step:D->Ow->List D->R (List D)}{O:Ow}{inj:α->D}{g:α->List D}{c:List α}(j:∀i,src.get O i=(c.map inj)[i]?):∀(ds b:List α)(Ja:List D)(f:Nat),c=b++ds->ds.length<=f->
  (∀a∈ds,∀Ja:List D,Ja.length<4000000->step (inj a) O Ja=.ok (Ja++g a) O)->Ja.length+(ds.flatMap g).length+ds.length<4000000->pR src step f b.length O Ja=.ok (Ja++ds.flatMap g) O
 | [],b,Ja,f,ha,_,_,_=>by
  have e:src.get O b.length=Jf:=by rw[j,ha];simp
  cases f<;>(unfold pR;rw[e];simp)
 |d::ds,b,Ja,0,_,h,_,_=>by simp at h
 | d::ds,b,Ja,f+1,ha,h,hs,hl=>by
  unfold pR;have e:src.get O b.length=Jd (inj d):=by rw[j,ha];simp
  rw[e];simp only[cg,aw,bg] at hl;show((step (inj d) O Ja).bnd λk l=>pR src step f (b.length+1) l k)=_;rw[hs d am Ja 'o'];show pR src step f (b.length+1) O (Ja++g d)=_;have:=SA j ds (b++[d]) (Ja++g d) f (by rw[ha];simp) ⇑h (λm n=>hs m (ak _ n)) (by rw[aw];lia);rw[aw,eR] at this;rw[this];simp
theorem EO{α β:Type}(p:α->Bool)(e:α->β):∀l:List α,(l.flatMap λd=>if p d=Jg then [e d] else [])=(l.filter p).map e
 |[]=>rfl
 | x::l=>by
  rw[cg,EO p e l,cZ];by_cases a:p x=Jg
  ·rw[Ji a,Ji a];rfl
  ·rw[Jk a,Jk a];rfl
def Bt{α:Type}{ext:Nat}{it0:DI}{g:Tg}{ts:List DT}{te:DE}{σ:Sg}{O O0:Ow}{src:Src}{l:List α}{inj:α->D}{p:α->Bool}{e:α->D}{τ:α->Sg}{o:Bool}(m:it0 σ O0=.ok src O)(n:∀i,src.get O i=(l.map inj)[i]?)(hsz:src.size O=l.length)(v:l.length<1900000)
  (q:∀a∈l,g.put (inj a) (pf (pf (σ++aH ext Jf) (g.slots++[])) (g.slots++[]))=Jd (τ a)) (r:∀a∈l,r8 ts (τ a) O=.ok (p a) O) (s:∀a∈l,p a=Jg->te (τ a) O=.ok (e a) O):
  pB o ext it0 g ts [] te σ O0=ua o (.ok ((l.filter p).map e) O):=by
 unfold pB yw;rw[m];show ua o (vM (pR src _ (src.size O) 0 O []))=_;have d:∀a∈l,∀c:List D,c.length<4000000->xh ⟨it0,g,ts⟩ [] te (pf (σ++aH ext Jf) (pK [⟨it0,g,ts⟩])) (inj a) O c=.ok (c++(if p a=Jg then [e a] else [])) O:=by
  intro a j c t;show(match g.put (inj a) (pf (pf (σ++aH ext Jf) (g.slots++[])) (g.slots++[])) with|some qj=>(r8 ts qj O).bnd λb k=>if b=Jg then r_ [] te qj k c else .ok c k|none=>.bad)=_;rw[q a j];show(r8 ts (τ a) O).bnd _=_;rw[r a j];show(if p a=Jg then r_ [] te _ O c else .ok c O)=_;by_cases f:p a=Jg
  ·rw[Ji f,Ji f];unfold r_;rw[s a j f];show(if c.length<4000000 then _ else _)=_;rw[Ji t]
  ·rw[Jk f,Jk f];simp
 have h:((l.filter p).map e).length<=l.length:=by rw[aA];exact a7 _ _
 have w:=SA n l [] [] l.length rfl (aE _) d (by rw[EO];simp at h ⊢;lia);rw[EO,dP] at w;have u:pR src (xh ⟨it0,g,ts⟩ [] te (pf (σ++aH ext Jf) (pK [⟨it0,g,ts⟩]))) (src.size O) 0 O []=.ok ((l.filter p).map e) O:=by rw[hsz];exact w
 rw[u];rfl
section
variable{α:Type}{ext:Nat}{it0:DI}{i:Nat}{t:DT}{te:DE}{σ:Sg}{O O0:Ow}{l:List α}{inj:α->D}{p:α->Bool}{e:α->D}{τ:α->Sg}{o:Bool}
def Et{σ:Sg}{O:Ow}{b:Bool}(h:t σ O=.ok b O):r8 [t] σ O=.ok b O:=by show((t σ O).bnd _)=_;rw[h];cases b<;>rfl
def CD(b:it0 σ O0=.ok (.val (l.map inj)) O)(c:l.length<1900000)(d:∀a,(pf (pf (σ++aH ext Jf) [i]) [i]).set i (Jd (inj a))=τ a)(f:∀a∈l,t (τ a) O=.ok (p a) O)(g:∀a∈l,p a=Jg->te (τ a) O=.ok (e a) O):
  pB o ext it0 (.one i) [t] [] te σ O0=ua o (.ok ((l.filter p).map e) O):=
 Bt b (λ_=>rfl) (by show(l.map inj).length=_;simp) c (λa _=>congrArg Jd (d a)) (λa h=>Et (f a h)) g
def vd(c:it0 σ O0=.ok (.val (l.map inj)) O)(d:l.length<1900000)(f:∀a,(pf (pf (σ++aH ext Jf) [i]) [i]).set i (Jd (inj a))=τ a)(h:∀a∈l,te (τ a) O=.ok (e a) O):
  pB o ext it0 (.one i) [] [] te σ O0=ua o (.ok (l.map e) O):=by have:=Bt (o:=o) (g:=.one i) (ts:=[]) c (λ_=>rfl) (by show(l.map inj).length=_;simp) d (λa _=>congrArg Jd (f a)) (λa b=>rfl) λa b _=>h a b;rw[this,iJ.mpr (λ_ _=>rfl)]
end
def PV{α:Type}{it:DI}{i:Nat}{body:DS}{σ:Sg}{O0 O:Ow}{l:List α}{inj:α->D}(f:it σ O0=.ok (.val (l.map inj)) O)(I:Nat->Sg->Ow->Prop)(h:∀(k:Nat)a σ O,l[k]?=Jd a->I k σ O->∃σ' O',body (σ.set i (Jd (inj a))) O=.nx σ' O'/\I (k+1) σ' O')(g:I 0 σ O):
  ∃σ' O',yg it (.one i) body σ O0=.nx σ' O'/\I l.length σ' O':=by
 obtain⟨σ',O',m,c⟩:=Te (step:=λd σ O=>match Tg.put (.one i) d σ with|some σ'=>body σ' O|none=>.bad) I (λj σ O d n b=>by
  rw[bd] at b;cases e:l[j]? with
  |none=>rw[e] at b;cases b
  | some a=>
   rw[e] at b;cases b;exact h j a σ O e n) (l.map inj).length 0 σ O g 'd' (bN _)
 rw[aA] at c;exact⟨σ',O',(Zl f).trans m,c⟩
theorem K4:∀l:List Bool,vX (l.map D.bl)=Jd l
 |[]=>rfl
 | x::l=>by
  show(vX (l.map D.bl)).map (x :: ·)=_;rw[K4 l];rfl
def RQ{α:Type}(O:Ow)(l:List α)(p:α->Bool):Cs O [.lst (l.map λa=>D.bl (p a))]=.ok (.bl (l.any p)) O:=by
 show(match vX (l.map λa=>D.bl (p a)) with|some bs=>R.ok (D.bl (bs.any id)) O|none=>R.bad)=_;have:(l.map λa=>D.bl (p a))=(l.map p).map D.bl:=by rw[aZ];rfl
 rw[this,K4];show R.ok (D.bl _) O=_;rw[List.any_map];rfl
def C2{α:Type}(O:Ow)(l:List α)(p:α->Bool):uM O [.lst (l.map λa=>D.bl (p a))]=.ok (.bl (l.all p)) O:=by
 show(match vX (l.map λa=>D.bl (p a)) with|some bs=>R.ok (D.bl (bs.all id)) O|none=>R.bad)=_;have:(l.map λa=>D.bl (p a))=(l.map p).map D.bl:=by rw[aZ];rfl
 rw[this,K4];show R.ok (D.bl _) O=_;rw[lA];rfl
end DL
namespace DL
open PySem L2
structure XAt(h0:aV)(H:Hp)(h:aV)(a:ab)(C:ae):Prop where
 ex:∃oe vs,h.get? a=Jd oe/\(oe.cls=C/\oe.dict=Jf)/\oe.data=.fields vs/\1<vs.size/\(vs[1]?=Jd .none \/ ∃T oT ts,vs[1]?=Jd (.ref T)/\T≠a/\h0.get? T=Jf/\H T=Jf/\h.get? T=Jd oT/\oT.data=.fields ts/\ts[3]?=Jd .none)
 new:h0.get? a=Jf
 free:H a=Jf
structure Kp(h0:aV)(H:Hp)(fs:List ab)(h h':aV):Prop where
 keep:∀b o,h.get? b=Jd o->b∉fs->(H b≠Jf\/h0.get? b≠Jf)->h'.get? b=Jd o
 slot:∀b o,h.get? b=Jd o->b∈fs->∃sl,h'.get? b=Jd { o with slots:=sl }
 there:∀b o,h.get? b=Jd o->∃o',h'.get? b=Jd o'
 size:h.objs.size<=h'.objs.size
open PyProof.Rows (AllBare)
def NW(P:aQ)(w:a8)(Cl:Nat->ae):vZ:=λouter H s E e s'=>∃a c H',e=.ref a/\s'.os=s.os/\0<s'.toks/\gN s'.gens/\Un (t8 outer) [] H H' s.heap s'.heap/\HOk P w H' s'.heap/\XAt s.heap H' s'.heap a (Cl c)/\E (Cl c) Jf H'
abbrev Xk(Cl:Nat->ae)(E:XK):Nat->Hp->Prop:=λc H=>E (Cl c) Jf H
def Kp.hok(k:Kp h0 H fs h h')(x:L2.HOk P w H h)(c:∀b∈fs,H b=Jf):L2.HOk P w H h':=λa o e=>
 (x a o e).stay (λb u hb q=>k.keep b u q (λz=>by
  rcases hb with rfl|hb
  ·rw[c _ z] at e;cases e
  ·rw[c _ z] at hb;cases hb) (.inl (by
  rcases hb with rfl|hb
  ·rw[e];exact λz=>nomatch z
  ·rw[hb];exact λz=>nomatch z))) (λ_ q=>q) λ_ _ q=>q
section
end
structure nY(Cl:Nat->ae)(P:aQ)(w:a8)(K:ah)(mg:az->Option ae)(base:aV)(x:az)(k n:Nat)(F:o5):Prop where
 ex:∃f fd ps,mg x=Jd (.ref f)/\cJ K (.ref f)=Jg/\Binds K fd ps []/\nK P w K mg base (NW P w Cl) k f fd ps (Jx K (Xk Cl) n F)
section
variable{Cl:Nat->ae}{P:aQ}{w:a8}{K:ah}{mg:az->Option ae}{base:aV}{k n:Nat}{x:az}{F G:o5}
def nY.imp(c:nY Cl P w K mg base x k n F)(h:∀ds O H XV a b Q,nk K H XV a O->qC b K H XV a (G ds O) Q->qC b K H XV a (F ds O) Q):nY Cl P w K mg base x k n G:=by obtain⟨f,g,i,j,l,m,o⟩:=c.ex;refine⟨f,g,i,j,l,m,o.imp λr H Q E ⟨p,XV,a,ds,O,d,e,q⟩=>⟨p,XV,a,ds,O,d,e,h ds O H XV a _ Q e q⟩⟩
def nY.bad(c:nY Cl P w K mg base x k n F):nY Cl P w K mg base x k n (λ_ _=>.bad):=c.imp λ_ _ _ _ _ _ _ _ q=>aj q
end
open PyProof.Rows (AllBare IntsAre)
section
variable{X:Cx}{Y1:List (ab×Obj)}{σ:St}{H:Hp}{s:ag}
def Inv.fake(I:L2.Inv X Y1 σ H s)(e:X.N[i]?=Jd x)(f:¬ uA X.env.scope x):L2.Inv X Y1 (σ.set i (Jd v)) H s:=by
 obtain⟨m,g,h⟩:=I.loc;refine⟨I.ok,I.os,I.bare,I.base,⟨m,g,λj y w a b c=>?_⟩,I.cell,I.free,I.freeC,I.pin,I.hok,by rw[ck];exact I.len,I.tk⟩;by_cases d:j=i
 ·subst d;rw[e] at a;cases a;exact absurd c f
 ·rw[bj (bI d)] at b;exact h j y w a b c
def rZ.fake(a:X.N[i]?=Jd x)(b:¬ uA X.env.scope x)(h:rZ X body t):rZ X body λD σ H=>t D (σ.set i (Jd v)) H:=
 λY1 s σ H D I q=>h Y1 s _ H D (Inv.fake I a b) q
end
def nI.empty(h:H P=Jd (.tbl #[])):nI H P:=⟨#[],h,trivial,λa b e=>by cases e⟩
noncomputable def yV(K:ah)(Ec:XK->Nat->Hp->Prop)(n:Nat)(P:ab)(F:o5):Sp:=λvs H Q E=>vs.length=n/\∃XV μ ds O,np K H XV μ ds vs/\nk K H XV μ O/\nI H P/\qC (Ec E) K H XV μ (F ds O) Q
def uN(n i:Nat)(P:Nat)(t:DS):o5:=λds O=>fin (t ((ds.map Jd++aH (n-ds.length) Jf).set i (Jd (.tab P))) O)
structure tT(mg:az->Option ae)(base:aV)(c Pt:ab):Prop where
 hd:mL base c Pt
 bl:base.BuiltinsAt mg Pt
def zds
  (Q:K.In oK.heap) (AL:oK.heap.Ns bB mg) (g:oK.heap.Ns builtinsNs mb) (R:∀x:az,x ≠ "__name__"->mb x=bu x) (BY:oK.heap.NoLimit) (hg:oK.gens = #[]) (qf:0<oK.toks)
  (y:oK.heap.get? a=Jd { cls:=.type "list",data:=.seq vs.toArray }) (hi:gP vs ns) (hl:ns.length<=KM) (hr:nD k callerA)
  (hC:mL oK.heap c Pt) (j:oK.heap.get? Pt=Jd (mM #[])) (hK:iP K=Jg) (hB:oK.heap.BuiltinsAt mg Pt)
  (F:∀base:aV,K.In base->base.Ns bB mg->tT mg base c Pt->nK P w K mg base CX k fa fd [x] sp) (ux:∀(s:ag)(u:ae),j8 s fd ⟨[u],[]⟩ [(x,u)])
  (Dm:∀H:Hp,H Pt=Jd (.tbl #[])->qg K H a (ns.map V.int)->sp [.ref a] H (λv _=>v=.bl Jg) λ_ _ _=>False)
  (S:∀H e i,CX [] H oK (λ_ _ _=>False) e i->False):
  codeAny (aC P w) callerA (.call (.ref fa) ⟨[.ref a],[]⟩) (λr i=>r=.ok (.ret (.bool Jg))/\OldK oK.heap i.heap/\i.os=oK.os/\gN i.gens) oK:=by
 have rv:=SV hi;have MJ:=hi.length;have T:a≠Pt:=by rintro rfl;rw[y] at j;cases j
 have U:K.lookup Pt=Jf:=by
  cases q:K.lookup Pt with
  |none=>rfl
  | some o=>
   have e:=Q Pt o q;rw[j] at e;cases e;have X:=af.mp hK (Pt,_) (PySem.W.mem_of_lookupK q);exact absurd (X) bU
 -- H: zB table, and zB Mp where it is Jf of zB Fs objects
 have p:∀H:Hp,H Pt=Jd (.tbl #[])->qg K H a (ns.map V.int)->HOk P w H oK.heap->(∀b,H b≠Jf->b=a\/b=Pt)->(H a=Jf\/(K.lookup a=Jf/\∃o xs,H a=Jd (.frz o (.lst xs))))->
   codeAny (aC P w) callerA (.call (.ref fa) ⟨[.ref a],[]⟩) (λr i=>r=.ok (.ret (.bool Jg))/\OldK oK.heap i.heap/\i.os=oK.os/\gN i.gens) oK:=by
  intro H hT hS B J Vo;have f:∀{b:ab}{o:Obj},oK.heap.get? b=Jd o->H b=Jf->(yd oK.heap H).get? b=Jd o:=λe n=>zgK e n;have zE:∀{b:ab}{o:Obj}{L:Array DictEntry}{M:Nat},oK.heap.get? b=Jd o->o.data=.dict L M->H b=Jf:=λ{b o L M}e d=>by
   cases q:H b with
   |none=>rfl
   | some u=>
    rcases J b (by rw[q];simp) with e'|e'
    ·subst e';rw[y] at e;cases e;have Y:=d;cases Y
    ·subst e';rw[j] at e;cases e;have Y:=d;cases Y
  have N:∀{b:ab}{m:az->Option ae},oK.heap.Ns b m->(yd oK.heap H).Ns b m:=λ{b m}⟨o,L,M,e,d,r⟩=>⟨o,L,M,f e (zE e d),d,r⟩;have Vn:K.In (yd oK.heap H):=λb o e=>f (Q b o e) (by
   cases q:H b with
   |none=>rfl
   | some u=>
    rcases J b (by rw[q];simp) with e'|e'
    ·subst e';rcases Vo with z|⟨z,_⟩
     ·rw[z] at q;cases q
     ·rw[z] at e;cases e
    ·subst e';rw[U] at e;cases e)
  have hM:Mod K mg (yd oK.heap H):=⟨Vn,N AL,⟨mb,N g,R⟩,let ⟨mc,h1,X⟩:=BY;⟨mc,N h1,X⟩⟩;have e0:n8 P w K mg (yd oK.heap H) callerA [] oK H:=⟨rfl,hM,λb o e=>Zb e,gH (zeu _ _),trivial,λb g=>absurd (show b∈([]:List ab) from g) 'd',B,.of_eq hg,qf⟩;have UU:∀{b:ab}{o:Obj},oK.heap.get? b=Jd o->o.cls ≠ .none->(o.cls ≠ .type "list")->H b=Jf:=λ{b o}e d1 d2=>by
   cases q:H b with
   |none=>rfl
   | some u=>
    rcases J b (by rw[q];simp) with e'|e'
    ·subst e';rw[y] at e;cases e;exact absurd rfl d2
    ·subst e';rw[j] at e;cases e;exact absurd rfl d1
  have hL:tT mg (yd oK.heap H) c Pt:=by
   obtain⟨o,vs,C,tf,t,tg,AH,D,tt,E,Z,r⟩:=hC;obtain⟨bm,ob,b1,b2,b3,b4,b5,b6,b7,b8⟩:=hB;exact⟨⟨o,vs,C,tf,t,tg,AH,D,tt,f E (UU E (by rw[Z];exact λz=>nomatch z) (by rw[Z];decide)),Z,r⟩,⟨bm,ob,b1,b2,b3,b4,f b5 (UU b5 (by rw[b6];exact λz=>nomatch z) (by rw[b6];decide)),b6,b7,b8⟩⟩
  refine fZ ((F _ Vn (N AL) hL).run callerA [] oK H ⟨[.ref a],[]⟩ [.ref a] [.ref a] _ _ hr e0 (ux oK (.ref a)) (.cons rfl .nil) (Dm H hT hS)) λr i h=>?_;cases r with
  |error e=>exact(S H e i h).elim
  | ok fl=>
   cases fl with
   |next=>exact aj h
   |brk=>exact aj h
   |cont=>exact aj h
   | ret u=>
    obtain⟨⟨v,H',os,G,O,FO,r',q⟩,_⟩:=h;have q':=q;subst q';obtain rfl:u=kE Jg:=r';obtain⟨I,hT'⟩:=O.tbls Pt #[] hT;have Jm:=FO Pt _ hT';refine⟨rfl,⟨λb o e=>?_,λb o e=>?_⟩,os,G⟩
    ·by_cases xv:b=Pt
     ·subst xv;rw[j] at e;cases e;exact .inr (.inl ⟨(hC.tab j).isCodeTable,rfl,#[],I,rfl,Jm⟩)
     ·cases q:H b with
      |none=>exact .inl (O.keep b o e q (by intro z;exact absurd (show b∈([]:List ab) from z) 'd') 'd')
      | some u=>
       rcases J b (by rw[q];simp) with e'|e'
       ·subst e';rcases Vo with z|⟨_,ob,xs,z⟩
        ·rw[q] at z;cases z
        ·have z2:=O.frzs b ob _ z;obtain⟨E,_⟩:=B b _ z;obtain⟨e2,_⟩:=FO b _ z2;rw[e] at E;cases E;exact .inl e2
       ·exact absurd e' xv
    ·exact O.there b o e 'd'
 cases hk:K.lookup a with
 | some o=>
  have e:=Q a o hk;rw[y] at e;cases e;refine p (λb=>if b=Pt then Jd (.tbl #[]) else Jf) (Ji rfl) (.inr ⟨_,vs.toArray,_,hk,rfl,rfl,rfl,by rw[aJ,MJ];exact hl,by simpa using rv⟩) (λb u z=>?_) (λb z=>?_) (.inl (Jk T))
  ·by_cases g:b=Pt
   ·have l:=(Ji g).symm.trans z;cases l;subst g;exact j
   ·have l:=(Jk g).symm.trans z;cases l
  ·by_cases g:b=Pt
   ·exact .inr g
   ·exact absurd (Jk g) z
 | none=>
  refine p (λb=>if b=Pt then Jd (.tbl #[]) else if b=a then Jd (.frz { cls:=.type "list",data:=.seq vs.toArray } (.lst (ns.map V.int))) else Jf) (Ji rfl) (.inl (.inr ⟨{ cls:=.type "list",data:=.seq vs.toArray },(Jk T).trans (Ji rfl)⟩)) (λb u z=>?_) (λb z=>?_) (.inr ⟨hk,_,_,(Jk T).trans (Ji rfl)⟩)
  ·by_cases g:b=Pt
   ·have l:=(Ji g).symm.trans z;cases l;subst g;exact j
   ·by_cases A:b=a
    ·have l:=((Jk g).trans (Ji A)).symm.trans z;cases l;subst A;exact⟨y,by rw[aA];exact hl,vs,_,rv,y⟩
    ·have l:=((Jk g).trans (Jk A)).symm.trans z;cases l
  ·by_cases g:b=Pt
   ·exact .inr g
   ·by_cases A:b=a
    ·exact .inl A
    ·exact absurd ((Jk g).trans (Jk A)) z
def z7f{f d:Pos}{c g:ae}(l:List ae)(h:TriplesOk l)(e:codeAmong d (l++[ee f.line,ee f.col,c])=Jd g):codeAmong d l=Jd g\/g=c:=by
 fun_induction TriplesOk l with
 | case1=>
  simp only[dP,codeAmong,ee] at e;split at e
  ·cases e;exact .inr rfl
  ·cases e
 | case2 a t b u x rest ih=>
  simp only[jz,codeAmong] at e ⊢;split at e
  ·rename_i i;rw[Ji i];exact .inl e
  ·rename_i i;rw[Jk i];exact ih h e
 |case3 l h1 h2=>exact h.elim
def zdH{q:az}{H:Hp}{P c:ab}{d:Pos}{i:Array ae}(j:H P=Jd (.tbl i))(w:H c=Jf)(k:ab)(x:nI H k):
  nI (upd (upd H P (.tbl (i ++ #[ee d.line,ee d.col,.ref c]))) c (.ext λh=>h.CodeRec (.ref c) q)) k:=by
 have l:∀{b:ab}{o:HO},H b=Jd o->b≠c:=λe=>rf e w;obtain⟨y,g,m,u⟩:=x;have a:∀{b:ab}{f:aV->Prop},H b=Jd (.ext f)->upd (upd H P (.tbl (i ++ #[ee d.line,ee d.col,.ref c]))) c (.ext λh=>h.CodeRec (.ref c) q) b=Jd (.ext f):=λ{b f}e=>by
  rw[o9 (l e),o9 (Wv e j (λz=>nomatch z))];exact e
 by_cases v:k=P
 ·subst v;rw[j] at g;cases g;refine⟨_,by rw[o9 (l j),qP],?_,λp n e=>?_⟩
  ·rw[bJ];exact TriplesOk_snoc _ _ _ _ m
  ·rw[bJ] at e;rcases z7f _ m e with e|e
   ·obtain⟨r,f,rfl,s,t⟩:=u p n e;exact⟨r,f,rfl,a s,t⟩
   ·exact⟨c,_,e,qP,λh z=>⟨q,z⟩⟩
 ·refine⟨y,by rw[o9 (l g),o9 v];exact g,m,λp n e=>?_⟩;obtain⟨r,f,rfl,s,t⟩:=u p n e;exact⟨r,f,rfl,a s,t⟩
section
variable{X:Cx}{Y1:List (ab×Obj)}{b_:St}{H:Hp}{s:ag}{E:ae->ag->Prop}
abbrev A8(H:Hp)(P c:ab)(ps:Array ae)(pos:Pos)(q:az):Hp:=upd (upd H P (.tbl (ps ++ #[ee pos.line,ee pos.col,.ref c]))) c (.ext λh=>h.CodeRec (.ref c) q)
def C4(a:H P=Jd (.tbl ps))(d:H c=Jf)(e:H b=Jd o)(f:CB o):A8 H P c ps pos q b=Jd o:=by
 have g:b≠P:=by rintro rfl;rw[a] at e;cases e;exact f _ rfl
 show upd (upd H P _) c _ b=Jd o;rw[o9 (rf e d),o9 g];exact e
def Ta(a:H P=Jd (.tbl ps))(d:H c=Jf)(f:List ab):Ext H f (A8 H P c ps pos q) f:=
 ⟨⟨[],by simp⟩,λb o e _ g=>C4 a d e g,λ_ m=>.inl m,λb h=>xq b (xq b h),λi j=>zdH a d i j⟩
def z9b(d:H P=Jd (.tbl f))(g:H c=Jf)(b:nk K H XV μ O):nk K (A8 H P c f pos q) XV μ O:=by refine⟨b.len,b.nd,b.nh,λa m=>xq a (xq a (b.ht a m)),λk a e=>?_⟩;obtain⟨h,i,j,l,n⟩:=b.at_ k a e;exact⟨h,i,j,C4 d g l (by intro f z;cases z),n.ext (Ta d g μ)⟩
def Uh{h h':aV}{c:ab}{q:az}(x:h.CodeRec (.ref c) q)(k:∀o,h.get? c=Jd o->h'.get? c=Jd o):h'.CodeRec (.ref c) q:=by obtain⟨d,o,a,t,e,b,r⟩:=x;cases e;exact⟨c,o,a,t,rfl,k o b,r⟩
def Y5{c P:ab}{a:ip}{body:aS}{d:cG}{g:Pos}{y:List (az×ab)}{Q:ae->ag->Prop}(I:L2.Inv X Y1 b_ H s)(L:tT X.mg X.base c P)(sZ:X.env.code=.ref c)(ti:nI H P)
  (rn:closureFor d X.env=pure y) (x8:defaultsOf a X.env=([],[]))
  (h:∀(k:ab)(cd l:ae)(h':aV)(tk:Tok)(H':Hp),L2.Inv X Y1 b_ H' { s with heap:=h',toks:=tk }->(∀B,Ext H B H' B)->(∀XV B O,nk X.K H XV B O->nk X.K H' XV B O)->H' k=Jf->s.heap.objs.size<=k->
   h'.get? k=Jd { cls:=.type "function",data:=.func (dG "<lambda>" (X.env.qual ++ "<lambda>") a body d y ((X.mg "__name__").getD .none) cd l) }->(∃c G,cd=.ref c/\H' c=Jd (.ext G)/\∀h:aV,G h->∃q,h.CodeRec (.ref c) q)->Q (.ref k) { s with heap:=h',toks:=tk }):
  ay (aC X.prog X.w) X.A (eval (.Lambda a body d g) X.env) Q E s:=by
 obtain⟨j,i,h2,h3⟩:=id ti;have R:=I.hok P _ i;have S:=I.mod.glob.keeps I.bk;have T:bB≠P:=λz=>by
  obtain⟨o,es,ep,e,J,_⟩:=S;rw[z,R] at e;cases e;cases J
 have M:s.heap.BuiltinsAt X.mg P:=by
  obtain⟨bm,ob,b1,C,b3,b4,b5,r⟩:=L.bl;exact⟨bm,ob,b1,C,b3,b4,I.bk _ _ b5,r⟩
 have J:=L.hd.keeps I.bk;refine PySem.W.kla_eval x8 ?_;cases U:codeAmong g j.toList with
 | some cv=>
  obtain⟨f,G,rfl,k1,k2⟩:=h3 g cv U;refine wT I (PySem.W.kla_makeFunctionHit rn I.ok.glob S sZ J R h2 U M λl h' tk hk D qf=>?_);have x:∀b u,s.heap.get? b=Jd u->(h'.push { cls:=.type "function",data:=.func (dG "<lambda>" (X.env.qual ++ "<lambda>") a body d y ((X.mg "__name__").getD .none) (.ref f) l) }).get? b=Jd u:=λb u e=>ai _ (hk b u e);exact h h'.objs.size (.ref f) l _ tk H (I.kept x) (λB=>.refl) (λ_ _ _ z=>z) (I.hok.fresh D) D (aO _ rfl) ⟨f,G,rfl,k1,k2⟩
 | none=>
  refine wT I (PySem.W.kla_makeFunction rn I.ok.glob S sZ J R h2 U T M λf l h' tk hx N V ur Y qf=>?_);have v:=I.hok.fresh N;have F:∀{b:ab},H b=Jf->b≠P:=λe=>bI (rf i e);have x:∀b u,b≠P->s.heap.get? b=Jd u->(h'.push (jP "<lambda>" (X.env.qual ++ "<lambda>") a body d y ((X.mg "__name__").getD .none) f l)).get? b=Jd u:=λb u n e=>ai _ (hx b u n e);have Jm:(h'.push (jP "<lambda>" (X.env.qual ++ "<lambda>") a body d y ((X.mg "__name__").getD .none) f l)).get? P=Jd (mM (j ++ #[ee g.line,ee g.col,.ref f])):=ai _ Y;have AJ:(h'.push (jP "<lambda>" (X.env.qual ++ "<lambda>") a body d y ((X.mg "__name__").getD .none) f l)).CodeRec (.ref f) (X.env.qual ++ "<lambda>"):=Uh ur λo e=>ai _ e;have xU:∀{b:ab},s.heap.objs.size<=b->b≠f->A8 H P f j g (X.env.qual ++ "<lambda>") b=Jf:=λ{b}M n=>by
   have e:=I.hok.fresh M;show upd (upd H P _) f _ b=Jf;rw[o9 n,o9 (F e)];exact e
  refine h h'.objs.size (.ref f) l _ tk (A8 H P f j g (X.env.qual ++ "<lambda>")) ?_ (Ta i v) (λ_ _ _ z=>z9b i v z) (xU (fk (lB N V)) (eJ V)) (fk (lB N V)) (aO _ rfl) ⟨f,_,rfl,qP,λh z=>⟨_,z⟩⟩;have p9:∀b o,s.heap.get? b=Jd o->H b=Jf->A8 H P f j g (X.env.qual ++ "<lambda>") b=Jf:=λb o e n=>by
   show upd (upd H P _) f _ b=Jf;rw[o9 (bt (bi (aR e) N)),o9 (F n)];exact n
  refine I.step (ch:=[]) (λ_ z=>nomatch z) (λb o _ _ _ e n=>x b o (F n) e) (λb o _ _ _ e n=>⟨o.slots,x b o (F n) e⟩) (λb o _ e n=>p9 b o e n) (λb o _ e=>?_)
   (λb xs e=>C4 i v e (by intro j z;cases z)) (λb o u e=>C4 i v e (by intro j z;cases z)) (λb UP e=>?_) (λm hm=>?_) ?_ I.bare qf
  ·by_cases p:b=P
   ·subst p;exact⟨_,Jm⟩
   ·exact⟨o,x b o p e⟩
  ·by_cases p:b=P
   ·subst p;rw[i] at e;cases e;exact⟨_,by show upd (upd H b _) f _ b=_;rw[o9 (rf i v),qP]⟩
   ·exact⟨#[],by show upd (upd H P _) f _ b=_;rw[o9 (rf e v),o9 p,e];simp⟩
  ·obtain⟨o,es,ep,e,r⟩:=hm;exact⟨o,es,ep,x _ o (F I.free) e,r⟩
  ·intro b u e;by_cases Vh:b=f
   ·subst Vh;have e':A8 H P b j g (X.env.qual ++ "<lambda>") b=_:=qP;rw[e'] at e;cases e;refine⟨AJ,?_,λha uG za zk=>Uh za zk⟩;obtain⟨c2,o,vs,t,z,ho,_⟩:=AJ;cases z;exact⟨o,ho⟩
   ·have Z:=(o9 Vh).symm.trans e;by_cases p:b=P
    ·subst p;rw[qP] at Z;cases Z;exact Jm
    ·have e2:=(o9 p).symm.trans Z;refine(I.hok b u e2).stay (λC u2 vU z=>x C u2 (λzz=>?_) z) (λC z=>C4 i v z (by intro j z;cases z)) λC xs z=>C4 i v z (by intro j z;cases z);rcases vU with rfl|vU
     ·exact p zz
     ·rw[zz,i] at vU;cases vU
end
abbrev xg(q:az)(scope:cG)(L f:ab)(cd:ae)(cl:List (az×ab)):Env:={ scope,locals:=L,globals:=bB,cells:=cl,qual:=q ++ ".<locals>.",func:=Jd f,code:=cd,frame:=Jd L,builtins:=builtinsNs }
section
end
noncomputable def cxL(CX:vZ)(P:aQ)(w:a8)(K:ah)(mg:az->Option ae)(base:aV)(N:List az)(env:Env)(A:be)(outer:List Env)(s:ag)(H:Hp)(E:XK):Cx where
 prog:=P
 w:=w
 K:=K
 mg:=mg
 base:=base
 A:=A.deeper env
 N:=N
 s₀:=s
 H₀:=H
 env:=env
 outer:=outer
 stack:=env::outer
 ex:=[]
 calm:=Jg
 fn:=λ_=>Jh
 pn:=[]
 xe:=λe s'=>ay (aC P w) (A.deeper env) (leaving env e) (λ_ rF=>CX outer H s E e rF) (λe' rF=>CX outer H s E e' rF) s'
section
variable{h0:aV}{H:Hp}
def Kp.refl:Kp h0 H fs h h:=⟨λ_ _ e _ _=>e,λb o e _=>⟨o.slots,e⟩,λ_ o e=>⟨o,e⟩,aE _⟩
def Kp.trans(x:Kp h0 H fs h h1)(y:Kp h0 H fs h1 h2):Kp h0 H fs h h2:=
 ⟨λb o e n k=>y.keep b o (x.keep b o e n k) n k,λb o e n=>by
  obtain⟨g,a⟩:=x.slot b o e n;obtain⟨c,d⟩:=y.slot b _ a n;exact⟨c,d⟩,λb o e=>by
  obtain⟨f,a⟩:=x.there b o e;exact y.there b f a,aG x.size y.size⟩
end
section
variable{X:Cx}{Y1:List (ab×Obj)}{σ:St}{H:Hp}{s:ag}
abbrev Cx.mk'(X:Cx)(a:ab):Cx:={ X with A:=X.A.mark (Jd (.ref a)),calm:=Jh,xe:=λ_ _=>False }
def Inv.mk'(I:L2.Inv X Y1 σ H s)(a:ab):L2.Inv (Cx.mk' X a) Y1 σ H s:=
 ⟨⟨I.ok.mod,I.ok.kind,I.ok.glob,I.ok.blt,I.ok.above,I.ok.inj,I.ok.has,I.ok.cab,λz=>absurd (show Jh=Jg from z) 's',I.ok.frames,I.ok.stk,I.ok.exf,I.ok.bs,I.ok.bsz,I.ok.noex,I.ok.exfs,I.ok.funs,I.ok.frf⟩,I.os,I.bare,I.base,I.loc,I.cell,I.free,I.freeC,I.pin,I.hok,I.len,I.tk⟩
end
section
end
section
end
section
end
structure zpc(nf n y xT:az)(p0 p1 p2 p3 p5 p6 p7 pq pc:Pos)(kc):Prop where
 hfd:rG nf:=by decide
 hfcd:(nf==("__classdict__":az))=Jh:=by decide
 hnd:rG n:=by decide
 hncd:(n==("__classdict__":az))=Jh:=by decide
 hTd:rG xT:=by decide
 hs0:∀env:Env,swapsWith (.Call (.Name nf p1) [] [] p2) Jf p3.line env=pure Jh:=by intro _;rfl
 hsA:∀env:Env,swapsWith (.Constant .none kc pc) (Jd (.Name y pq)) p0.line env=pure Jh:=by intro _;rfl
 hs:∀env:Env,fB [.Name y p5] (.Name n p6) p7.line env=pure Jh:=by intro _;rfl
 hw:∀env:Env,fC [.Name y p5] (.Name n p6) env=pure Jf:=by intro _;rfl
section
end
section
end
section
end
section
variable{X:Cx}{Y1:List (ab×Obj)}{σ:St}{H:Hp}{s s2:ag}
def Rj(a:Un fs [] H H h h')(z:h.IsCell c v)(n:H c=Jf):h'.IsCell c v:=by obtain⟨o,b,d⟩:=z;obtain⟨f,e⟩:=a.any b n 'd';exact⟨_,e,d⟩
def zbz{b:List (az×ab)}(I:L2.Inv X Y1 σ H s)(d:Un (t8 X.stack) [] H H s.heap s2.heap)(a:∀x c,b.lookup x=Jd c->X.env.cells.lookup x=Jd c):∀x c,b.lookup x=Jd c->(∃v,s2.heap.IsCell c v)/\H c=Jf:=λx c e=>by
 obtain⟨v,z⟩:=I.cell x c (a x c e);exact⟨⟨v,Rj d z (I.freeC x c (a x c e))⟩,I.freeC x c (a x c e)⟩
def zgI{a:List (az×ab)}(I:L2.Inv X Y1 σ H s)(b:∀x c,a.lookup x=Jd c->X.env.cells.lookup x=Jd c):∀x y c,a.lookup x=Jd c->a.lookup y=Jd c->x=y:=λx y c d e=>I.ok.inj x y c (b x c d) (b y c e)
def zcF{b:List (az×ab)}{a:cG}(I:L2.Inv X Y1 σ H s)(j:Un (t8 X.stack) [] H H s.heap s2.heap)(k:∀x c,b.lookup x=Jd c->X.env.cells.lookup x=Jd c)(d:∀x,a.names.lookup x=Jd .free->∃c,b.lookup x=Jd c)
  (f:∀x,a.names.lookup x=Jd .free->X.env.scope.names.lookup x=Jd .cell\/X.env.scope.names.lookup x=Jd .free):
  ∀(i:Nat)x v,X.N[i]?=Jd x->σ[i]?=Jd (Jd v)->a.names.lookup x=Jd .free->∃u c,RelV v u/\b.lookup x=Jd c/\s2.heap.IsCell c (Jd u):=λi x v n o e=>by
 obtain⟨m,y,p⟩:=I.loc;obtain⟨u,r,l⟩:=p i x v n o (.inr (f x e));obtain⟨c,g⟩:=d x e;refine⟨u,c,r,g,?_⟩;rcases l with⟨z,_⟩|⟨_,A,h,t⟩
 ·have w:X.env.scope.names.lookup x=Jd .local:=z;rcases f x e with q|q<;>(rw[w] at q;cases q)
 ·have:=k x c g;rw[h] at this;cases this;exact Rj j t (I.freeC x _ h)
end
structure zfM(out sc:cG):Prop where
 kind:sc.kind=.function
 co:sc.isCoroutine=Jh
 gen:sc.isGenerator=Jh
 nd:(sc.names.map (·.1)).Nodup
 cell:∀x∈sc.names,x.2 ≠ .cell
 loc:∀x∈sc.names,x.2 ≠ .local
 frees:∀y∈sc.names,y.2=.free->out.names.lookup y.1=Jd .cell\/out.names.lookup y.1=Jd .free
section
end
def XO{K:ah}{b:XK->Nat->Hp->Prop}{Pt:ab}{F:o5}{H:Hp}{a:ab}{ns:List Int}(h:∃O,F [.lst (ns.map .int)] []=.ok (.bl Jg) O)(c:H Pt=Jd (.tbl #[]))(d:qg K H a (ns.map V.int)):yV K b 1 Pt F [.ref a] H (λv _=>v=.bl Jg) λ_ _ _=>False:=by
 obtain⟨O,h⟩:=h;have f:∀(l:List Int),np K H [] [] (l.map D.int) (l.map V.int):=λl=>by
  induction l with
  |nil=>exact .nil
  |cons x r ih=>exact .cons rD ih
 refine⟨rfl,[],[],[.lst (ns.map .int)],[],.cons ?_ .nil,⟨rfl,by simp,by simp,by simp,λk a e=>by simp at e⟩,nI.empty c,?_⟩
 ·unfold Y2;exact⟨a,_,rfl,d.imp (λz=>⟨z,by simp,by simp⟩) id,f ns⟩
 ·rw[h];intro v g i _ _ r;unfold Y2 at r;exact r
def yc(h:sc.names.lookup z=Jf):¬ uA sc z:=by intro v;rcases v with v|v|v<;>(rw[h] at v;cases v)
def Xe{K:ah}{x name e:az}{f c Pt:ab}{b:ip}{body:List dW}{d:cG}{j k g l m n h:ae}{o p i:Option ab}{q r:Array (Option ae)}{vs:Array ae}(a:fv K bB x=Jd (Jd (.ref f)))
  (s:K.lookup f=Jd ⟨n,p,.func (bV name e b body d j k g l o (.ref c) m),q⟩) (t:K.lookup c=Jd ⟨h,i,.fields vs,r⟩) (u:vs[11]?=Jd (.ref Pt)):jf K x=Jd (c,Pt):=by unfold jf;rw[a];simp only[s];show(match K.lookup c with|some ⟨_,_,.fields vs,_⟩=>_|_=>Jf)=_;simp only[t,u]
structure nQ(P:aQ)(w:a8)(ia:ab)(fp:List ab)(n:Nat)(Pv:Nat->ae->Prop)(Sx:Nat->aV->Prop):Prop where
 stab:∀i h h',Sx i h->(∀b∈ia::fp,∀o,h.get? b=Jd o->h'.get? b=Jd o)->Sx i h'
 item:∀(A:be)(i:Nat)(s:ag)(Q:ae->ag->Prop)(E:ae->ag->Prop),i<n->Sx i s.heap->(∀v h' tk,Pv i v->Sx (i+1) h'->dB ia s.heap h'->Q v { s with heap:=h',toks:=tk })->ay (aC P w) A (cw (.ref ia)) Q E s
 done:∀(A:be)(i:Nat)(s:ag)(Q:ae->ag->Prop)(E:ae->ag->Prop),A.handled=Jf->n<=i->Sx i s.heap->(∀h' e,md ia s.heap h'->(∃o,h'.get? e=Jd o/\o.cls=.type "StopIteration")->E (.ref e) { s with heap:=h' })->ay (aC P w) A (cw (.ref ia)) Q E s
section
variable{P:aQ}{w:a8}{A:be}{E:ae->ag->Prop}{s:ag}
def zgd{α:Type}{Q:α->ag->Prop}(c:A.handled=Jf)(h:∀h' e,(∀b o,s.heap.get? b=Jd o->h'.get? b=Jd o)->(∃o,h'.get? e=Jd o/\o.cls=.type "StopIteration")->E (.ref e) { s with heap:=h' }):
  ay (aC P w) A (newExc (.type "StopIteration") [] >>= λe=>(raiseNew e:Sem α)) Q E s:=by refine aa ?_;simp only[newExc,newTuple];refine aa (di (?_) (by size_fits));refine aa (m:=firstArgMember _ _) (ma (a:=.none) (by first|rfl|(simp only[firstArgMember];rfl)) (di ?_ (by size_fits)));simp only[raiseNew];refine aa (wpAny_handled ?_);rw[c];refine aa (aq (wpAny_throw (h _ _ (λb o e=>ai _ (ai _ e)) ⟨_,aO _ rfl,rfl⟩)))
def ze5(j f:ab)(items:Array ae)(I:f≠j):nQ P w j [f] items.size (λi v=>items[i]?=Jd v) (λi h=>h.IsTupleIter j f i/\h.IsTuple f items) where
 stab:=by
  rintro i h y ⟨⟨o,e,c,d⟩,⟨B,J,r⟩⟩ k;exact⟨⟨o,k j 'd' o e,c,d⟩,⟨B,k f 'd' B J,r⟩⟩
 item:=by
  rintro A i s Q E q ⟨a,t⟩ u;obtain⟨K,l,C,g⟩:=id a;obtain⟨D,m,F,G,n⟩:=id t;have p:items[i]?=Jd items[i]:=dk q;unfold cw;refine aa (cH (name := "__next__") a.typeIs eT (cB eT a.typeIs i7 ?_ (iQ _)));show ay _ _ (field (.ref j) 0 >>= _) _ _ s;refine aa (bQ l g (x:=.ref f) rfl ?_);show ay _ _ (if (fG f==iu)=Jg then _ else _) _ _ s;rw[Jk (by exact bU)];show ay _ _ (field (.ref j) 1 >>= _) _ _ s;refine aa (bQ l g (x:=.int i 0) rfl ?_);show ay _ _ (seqItems? (.ref f) >>= _) _ _ s;refine aa (dh m n ?_);simp only[jo,p];refine aa (wpAny_setField l g 'd' (aq ⟨_,rfl,aq (u _ _ s.toks p ⟨?_,?_⟩ (eu ..))⟩))
  ·exact⟨_,d6 _ l (Obj.isFreed_of_fields (lC g _)),(Obj.cls_mapFields ..).trans C,by rw[lC g];simp[ee]⟩
  ·exact⟨D,(eu ..).extBut _ _ I m,F,G,n⟩
 done:=by
  rintro A i s Q E H q ⟨a,t⟩ u;obtain⟨K,l,C,g⟩:=id a;obtain⟨D,m,F,G,n⟩:=id t;have p:items[i]?=Jf:=by simp[q]
  unfold cw;refine aa (cH (name := "__next__") a.typeIs eT (cB eT a.typeIs i7 ?_ (iQ _)));show ay _ _ (field (.ref j) 0 >>= _) _ _ s;refine aa (bQ l g (x:=.ref f) rfl ?_);show ay _ _ (if (fG f==iu)=Jg then _ else _) _ _ s;rw[Jk (by exact bU)];show ay _ _ (field (.ref j) 1 >>= _) _ _ s;refine aa (bQ l g (x:=.int i 0) rfl ?_);show ay _ _ (seqItems? (.ref f) >>= _) _ _ s;refine aa (dh m n ?_);simp only[jo,p];refine aa (dF (aa (wpAny_setField l g 'd' ?_)));refine zgd (by first|exact H|(show A.in1.handled=Jf;exact H)) λy e k L=>u y e (λb o M z=>k b o ((eu ..).extBut _ _ M z)) L
end
structure Gg(z ti to:ab)(i1 i2:ab)(rX rN:List ab):Prop where
 a1:ti≠z
 a2:to≠z
 a3:ti≠to
 b1:∀b∈i1::rX,b≠z/\b≠to
 b2:∀b∈i2::rN,b≠z/\b≠to
 c1:i1∉i2::rN
 c2:i2∉i1::rX
 d1:ti≠i1
 d2:ti≠i2
section
variable{P:aQ}{w:a8}{A:be}{E:ae->ag->Prop}{s:ag}{z ti to i1 i2:ab}{rX rN:List ab}{n1 n2 k:Nat}{P1 P2:Nat->ae->Prop}{S1 S2:Nat->aV->Prop}{a b:ae}
def nQ.but(J:nQ P w ia fp n Pv Sx)(x:Sx i h)(e:md c h h')(d:∀b∈ia::fp,b≠c):Sx i h':=J.stab i h h' x λb f o z=>e b o (d b f) z
def zhN{Q:ae->ag->Prop}(i:nQ P w i1 rX n1 P1 S1)(j:nQ P w i2 rN n2 P2 S2)(D:Gg z ti to i1 i2 rX rN)(l:jt s.heap z ti to .none)(BP:fc s.heap ti (.ref i1) (.ref i2))(BO:fc s.heap to a b)(h1:S1 k s.heap)(h2:S2 k s.heap)(l1:k<n1)(l2:k<n2)
  (hq:∀x y h' tk,P1 k x->P2 k y->jt h' z ti to (ee s.heap.objs.size)->fc h' to x y->S1 (k+1) h'->S2 (k+1) h'->fc h' s.heap.objs.size x y->
   (∀c o,c≠z->c≠to->c≠i1->c≠i2->s.heap.get? c=Jd o->h'.get? c=Jd o)->Q (.ref s.heap.objs.size) { s with heap:=h',toks:=tk }):
  ay (aC P w) A (fY.«zip.__next__» ⟨[.ref z],[]⟩) (λf s'=>∃v,f=.done (.ret v)/\Q v s') E s:=by
 have g:∀b∈i1::rX,b≠z:=λb d=>(D.b1 b d).1;have h:∀b∈i2::rN,b≠z:=λb d=>(D.b2 b d).1;have I:∀b∈i1::rX,b≠to:=λb d=>(D.b1 b d).2;have J:∀b∈i2::rN,b≠to:=λb d=>(D.b2 b d).2;have MD:∀b∈i2::rN,b≠i1:=λb d e=>D.c1 (e▸d);have K:∀b∈i1::rX,b≠i2:=λb d e=>D.c2 (e▸d);have S:i1∈i1::rX:=am;have T:i2∈i2::rN:=am;show ay _ _ (field (.ref z) 2 >>= _) _ _ s;refine aa (bQ l rfl rfl ?_);refine aa (bQ l rfl rfl (aa (dh BP rfl ?_)));refine aa ?_;unfold dH;refine aa (bQ l rfl rfl (aq ?_));simp only[if_true];refine aa (dF (aa (bQ l rfl rfl ?_)));refine aa (cz l 'd' λha za m=>?_);refine aa ?_;simp only[ij,mG,gq,mN];refine aa (aa (jg ?_));show ay _ _ (cw (.ref i1) >>= _) _ _ _;refine aa (i.item _ k _ _ _ l1 (i.but h1 m.extBut g) λx d tZ px UJ n=>aq ?_);have U:=n.extBut _ _ (bI (I _ S)) (m.extBut _ _ D.a2 BO);refine aa (dh U rfl (aa (iB U λhc Uz p=>?_)));refine aa (fQ (aq (aa (aa (jg ?_)))));show ay _ _ (cw (.ref i2) >>= _) _ _ _;refine aa (j.item _ k _ _ _ l2 (j.but (j.but (j.but h2 m.extBut h) n.extBut MD) p.extBut J) λy hd tk2 py L r=>aq ?_);have V:=r.extBut _ _ (bI (J _ T)) Uz;refine aa (dh V rfl (aa (iB V λt C u=>?_)));have C:fc t to x y:=C;refine aa (fQ (aq (aq (aa (dh C rfl (aa (iS ?_)))))));have B:t.objs.size=s.heap.objs.size:=by rw[u.1,r.1,p.1,n.1,m.1]
 have W:=u.extBut _ _ (bI D.a2) (r.extBut _ _ (bI (h _ T)) (p.extBut _ _ (bI D.a2) (n.extBut _ _ (bI (g _ S)) za)));have ke:∀c o,c≠z->c≠to->c≠i1->c≠i2->s.heap.get? c=Jd o->t.get? c=Jd o:=λc o F G M N e=>u.extBut _ _ G (r.extBut _ _ N (p.extBut _ _ G (n.extBut _ _ M (m.extBut _ _ F e))));have O:=i.but (i.but (i.but UJ p.extBut I) r.extBut K) u.extBut I;have R:=j.but L u.extBut J;have X:=aR W;refine aa ?_;unfold eO;have zf:jt (t.push { cls:=.type "tuple",data:=.seq #[x,y] }) z ti to .ellipsis:=ai _ W;refine aa (cz zf 'd' λhg zg Y=>?_);refine cz zg 'd' λZ zi si=>?_;have H:∀c o,c≠z->t.get? c=Jd o->Z.get? c=Jd o:=λc o q e=>si.extBut _ _ q (Y.extBut _ _ q (ai _ e));have pi:=si.extBut _ _ (eJ X) (Y.extBut _ _ (eJ X) (aO _ rfl));rw[B] at zi pi;refine aq ⟨_,rfl,?_⟩;rw[B];exact hq x y Z _ px py zi (H _ _ D.a2 C) (i.stab _ _ _ O λb d o e=>H b o (g b d) e) (j.stab _ _ _ R λb d o e=>H b o (h b d) e) pi λc o F G M N e=>H c o F (ke c o F G M N e)
def ZN(K:A.handled=Jf)(u:nQ P w i1 rX n1 P1 S1)(v:nQ P w i2 rN n2 P2 S2)(D:Gg z ti to i1 i2 rX rN)(g:jt s.heap z ti to .none)(U:fc s.heap ti (.ref i1) (.ref i2))(V:fc s.heap to a b)(L:S1 k s.heap)(W:S2 k s.heap)(l:n1<=k\/(k<n1/\n2<=k))
  (M:∀h' tk e,(∀c o,c≠z->c≠to->c≠i1->c≠i2->s.heap.get? c=Jd o->h'.get? c=Jd o)->(∃o,h'.get? e=Jd o/\o.cls=.type "StopIteration")->E (.ref e) { s with heap:=h',toks:=tk }):
  ay (aC P w) A (fY.«zip.__next__» ⟨[.ref z],[]⟩) Q E s:=by
 have f:∀b∈i1::rX,b≠z:=λb d=>(D.b1 b d).1;have m:∀b∈i2::rN,b≠z:=λb d=>(D.b2 b d).1;have X:∀b∈i1::rX,b≠to:=λb d=>(D.b1 b d).2;have Y:∀b∈i2::rN,b≠to:=λb d=>(D.b2 b d).2;have Z:∀b∈i2::rN,b≠i1:=λb d e=>D.c1 (e▸d);have C:i1∈i1::rX:=am;have m2:i2∈i2::rN:=am;show ay _ _ (field (.ref z) 2 >>= _) _ _ s;refine aa (bQ g rfl rfl ?_);refine aa (bQ g rfl rfl (aa (dh U rfl ?_)));refine aa ?_;unfold dH;refine aa (bQ g rfl rfl (aq ?_));simp only[if_true];refine aa (dF (aa (bQ g rfl rfl ?_)));refine aa (cz g 'd' λha N i=>?_);refine aa ?_;simp only[ij,mG,gq,mN];refine aa (aa (jg ?_));show ay _ _ (cw (.ref i1) >>= _) _ _ _;have n:∀{h:aV}{e:ab},jt h z ti to .ellipsis->(∃o,h.get? e=Jd o/\o.cls=.type "StopIteration")->e≠z:=λ{h e}g ⟨o,ho,y⟩ q=>by subst q;rw[g] at ho;cases ho;simp at y
 rcases l with l|⟨l1,l⟩
 ·refine aa (u.done _ k _ _ _ K l (u.but L i.extBut f) λd e p r=>?_);have O:=p _ _ (bI (f _ C)) N;have F:=n O r;obtain⟨G,H,I⟩:=r;exact cz O 'd' λy _ j=>M y _ e (λc o t _ J _ x=>j.extBut _ _ t (p _ _ J (i.extBut _ _ t x))) ⟨G,j.extBut _ _ F H,I⟩
 ·refine aa (u.item _ k _ _ _ l1 (u.but L i.extBut f) λx d tZ px UJ B=>aq ?_);have R:=B.extBut _ _ (bI (X _ C)) (i.extBut _ _ D.a2 V);refine aa (dh R rfl (aa (iB R λy Uz j=>?_)));refine aa (fQ (aq (aa (aa (jg ?_)))));show ay _ _ (cw (.ref i2) >>= _) _ _ _;refine aa (v.done _ k _ _ _ K l (v.but (v.but (v.but W i.extBut m) B.extBut Z) j.extBut Y) λhd e p r=>?_);have S:=p _ _ (bI (m _ m2)) (j.extBut _ _ (bI D.a2) (B.extBut _ _ (bI (f _ C)) N));have F:=n S r;obtain⟨G,H,I⟩:=r;exact cz S 'd' λhf _ T=>M hf _ e (λc o t q2 J q4 x=>T.extBut _ _ t (p _ _ q4 (j.extBut _ _ q2 (B.extBut _ _ J (i.extBut _ _ t x))))) ⟨G,T.extBut _ _ F H,I⟩
def zhY{Q:Option ae->ag->Prop}(f:nQ P w i1 rX n1 P1 S1)(g:nQ P w i2 rN n2 P2 S2)(D:Gg z ti to i1 i2 rX rN)(d:jt s.heap z ti to .none)(h:fc s.heap ti (.ref i1) (.ref i2))(i:fc s.heap to a b)(j:S1 k s.heap)(l:S2 k s.heap)(m:k<n1)(n:k<n2)
  (p:∀x y h' tk,P1 k x->P2 k y->jt h' z ti to (ee s.heap.objs.size)->fc h' to x y->S1 (k+1) h'->S2 (k+1) h'->fc h' s.heap.objs.size x y->
   (∀c o,c≠z->c≠to->c≠i1->c≠i2->s.heap.get? c=Jd o->h'.get? c=Jd o)->Q (Jd (.ref s.heap.objs.size)) { s with heap:=h',toks:=tk }):ay (aC P w) A (pyNext (.ref z)) Q E s:=by have e:s.TypeIs (.ref z) "zip":=⟨_,d,rfl⟩;exact aa (fD (cH e iC (cB iC e mn (zhN f g D d h i j l m n λx y h' tk q r t u v B C F=>aq (p x y h' tk q r t u v B C F)) (lY _))))
def YQ(g:A.handled=Jf)(h:nQ P w i1 rX n1 P1 S1)(i:nQ P w i2 rN n2 P2 S2)(D:Gg z ti to i1 i2 rX rN)(d:jt s.heap z ti to .none)(j:fc s.heap ti (.ref i1) (.ref i2))(l:fc s.heap to a b)(m:S1 k s.heap)(n:S2 k s.heap)(p:n1<=k\/(k<n1/\n2<=k))
  (q:∀h' tk,(∀c o,c≠z->c≠to->c≠i1->c≠i2->s.heap.get? c=Jd o->h'.get? c=Jd o)->Q Jf { s with heap:=h',toks:=tk }):ay (aC P w) A (pyNext (.ref z)) Q E s:=by have f:s.TypeIs (.ref z) "zip":=⟨_,d,rfl⟩;refine aa (fD (cH f iC (cB iC f mn (ZN g h i D d j l m n p λh' tk e r t=>?_) (lY _))));obtain⟨u,v,x⟩:=t;exact aa (wpAny_isInstance ⟨u,v,x⟩ isSubtype_stop (aq (q _ tk r)))
end
inductive ZK where
 |tup (t:ab) (items:Array ae)
 |str (x:az) (t:Tok)
 |lst (l:ab) (items:Array ae)
def ZK.val:ZK->ae
 |.tup t _=>.ref t
 |.str x t=>.str x t
 |.lst l _=>.ref l
noncomputable def ZK.obj:ZK->Obj
 |.tup t _=>{ cls:=.type "tuple_iterator",data:=.fields #[.ref t,.int 0 0] }
 |.str x t=>{ cls:=.type "str_ascii_iterator",data:=.fields #[.str x t,.int 0 0] }
 |.lst l _=>{ cls:=.type "list_iterator",data:=.fields #[.ref l,.int 0 0] }
def ZK.pre(h:aV):ZK->Prop
 |.tup t items=>h.IsTuple t items
 |.str x _=>x.cps.all (· < 128)=Jg
 |.lst l items=>h.IsList l items
def ZK.keep(k:∀b o,h.get? b=Jd o->h'.get? b=Jd o):∀(q:ZK),q.pre h->q.pre h'
 |.tup t items,⟨o,e,r⟩=>⟨o,k _ _ e,r⟩
 |.str x t,e=>e
 |.lst l items,⟨o,e,r⟩=>⟨o,k _ _ e,r⟩
def ZK.iter(q:ZK)(h:q.pre s.heap)(a:Q (.ref s.heap.objs.size) { s with heap:=s.heap.push q.obj }):ay (aC P w) A (pyIter q.val) Q E s:=by
 cases q with
 |tup t items=>exact lu h a
 |str x t=>exact wpAny_pyIter_ascii h a
 |lst l items=>exact e9 h a
abbrev zH(h:aV)(a b:ZK):aV:=(((((h.push a.obj).push b.obj).push { cls:=.type "tuple",data:=.seq #[.ref h.objs.size,.ref (h.push a.obj).objs.size] }).push { cls:=.type "tuple",data:=.seq #[.none,.none] }).push
 { cls:=.type "zip",data:=.fields #[.none,.bool Jh,.bool Jh,.ref ((h.push a.obj).push b.obj).objs.size,.ref (((h.push a.obj).push b.obj).push { cls:=.type "tuple",data:=.seq #[.ref h.objs.size,.ref (h.push a.obj).objs.size] }).objs.size] })
abbrev zA(h:aV)(a b:ZK):ab:=((((h.push a.obj).push b.obj).push { cls:=.type "tuple",data:=.seq #[.ref h.objs.size,.ref (h.push a.obj).objs.size] }).push { cls:=.type "tuple",data:=.seq #[.none,.none] }).objs.size
def zim(a b:ZK)(k l:ae)(n:a.val=k)(p:b.val=l):Meets (fY.«zip.__new__» ⟨[.type "zip",k,l],[]⟩) (λ_ R s=>a.pre s.heap/\b.pre s.heap/\R (.ok (.ret (.ref (zA s.heap a b)))) { s with heap:=zH s.heap a b }):=
 .of_wp λP w A R s h=>by
  obtain⟨f,g,d,i,j⟩:=s;obtain⟨q,r,h⟩:=h;have v:=sub_zip;have t:∀{E:ae->ag->Prop}{Q:ae->ag->Prop},Q (.ref f.objs.size) ⟨f.push a.obj,g,d,i,j⟩->ay (aC P w) A.in1 (pyIter k) Q E ⟨f,g,d,i,j⟩:=λ{E Q}hq=>by rw[<- n];exact a.iter (s:=⟨f,g,d,i,j⟩) q hq
  have m:b.pre (f.push a.obj):=b.keep (λc o e=>ai _ e) r;have u:∀{E:ae->ag->Prop}{Q:ae->ag->Prop},Q (.ref (f.push a.obj).objs.size) ⟨(f.push a.obj).push b.obj,g,d,i,j⟩->ay (aC P w) A.in1 (pyIter l) Q E ⟨f.push a.obj,g,d,i,j⟩:=λ{E Q}hq=>by rw[<- p];exact b.iter (s:=⟨f.push a.obj,g,d,i,j⟩) m hq
  wp_walk using t,u
  exact⟨_,rfl,h⟩
section
variable{P:aQ}{w:a8}{A:be}{E:ae->ag->Prop}{s:ag}
def zcv(a b:ZK)(n:a.pre s.heap)(p:b.pre s.heap)
  (h:∀h',jt h' (s.heap.objs.size+4) (s.heap.objs.size+2) (s.heap.objs.size+3) .none->fc h' (s.heap.objs.size+2) (.ref s.heap.objs.size) (.ref (s.heap.objs.size+1))->fc h' (s.heap.objs.size+3) .none .none->
   h'.get? s.heap.objs.size=Jd a.obj->h'.get? (s.heap.objs.size+1)=Jd b.obj->(∀c o,s.heap.get? c=Jd o->h'.get? c=Jd o)->Q (.ref (s.heap.objs.size+4)) { s with heap:=h' }):
  ay (aC P w) A (call (.type "zip") [a.val,b.val]) Q E s:=by
 refine callType_new F.called_zip 's' (F.typeCall_zip_2 _ _) (F.newCall_zip_2 _ _) (λd=>F.args_object_init_3 d _ _) F.entry_zip_new (zim a b _ _ rfl rfl) ⟨n,p,?_⟩;have q:a.obj.isFreed=Jh:=by cases a<;>rfl
 have r:b.obj.isFreed=Jh:=by cases b<;>rfl
 have e:(s.heap.push a.obj).objs.size=s.heap.objs.size+1:=cU ..;have f:((s.heap.push a.obj).push b.obj).objs.size=s.heap.objs.size+2:=by rw[cU,e]
 have g:(((s.heap.push a.obj).push b.obj).push { cls:=.type "tuple",data:=.seq #[.ref s.heap.objs.size,.ref (s.heap.push a.obj).objs.size] }).objs.size=s.heap.objs.size+3:=by rw[cU,f]
 have j:zA s.heap a b=s.heap.objs.size+4:=by show Array.size _=_;rw[cU,g]
 have i:(zH s.heap a b).get? (zA s.heap a b)=Jd _:=aO _ rfl;have k:(zH s.heap a b).get? (((s.heap.push a.obj).push b.obj).push { cls:=.type "tuple",data:=.seq #[.ref s.heap.objs.size,.ref (s.heap.push a.obj).objs.size] }).objs.size=Jd _:=ai _ (aO _ rfl);have l:(zH s.heap a b).get? ((s.heap.push a.obj).push b.obj).objs.size=Jd _:=ai _ (ai _ (aO _ rfl));have m:(zH s.heap a b).get? (s.heap.push a.obj).objs.size=Jd _:=ai _ (ai _ (ai _ (aO _ r)));have t:(zH s.heap a b).get? s.heap.objs.size=Jd _:=ai _ (ai _ (ai _ (ai _ (aO _ q))));rw[f,g,j] at i;rw[g] at k;rw[e,f] at l;rw[e] at m;rw[j];exact⟨⟨_,i,rfl⟩,h _ i l k t m λc o x=>ai _ (ai _ (ai _ (ai _ (ai _ x))))⟩
end
def Held(X:Cx)(H:Hp)(h:aV)(b:ab):Prop:=H b≠Jf \/ ∃o,X.base.get? b=Jd o
def Held.far{X:Cx}{a:List (ab×Obj)}{σ:St}{H:Hp}{s:ag}{b q:ab}(I:L2.Inv X a σ H s)(x:Held X H s.heap b)(f:rC X a H q):b≠q:=by
 rintro rfl;rcases x with x|⟨o,e⟩
 ·exact x f.1
 ·rcases f.2.2.2.1 with z|z
  ·exact I.ok.noex b o e z
  ·exact absurd (bi (aR e) I.ok.bsz) (Nat.not_lt.mpr z)
structure DF(P:aQ)(w:a8)(K:ah)(J:It)(ia:ab)(S:Nat->aV->Prop):Prop where
 obj:∀i h,S i h->∃o,h.get? ia=Jd o/\∀v,o.data ≠ .cell v
 keep:∀i h h',S i h->(∀o,h.get? ia=Jd o->h'.get? ia=Jd o)->S i h'
 got:∀(X:Cx),X.prog=P->X.w=w->X.K=K->∀(i:Nat)(Y1:List (ab×Obj))(s:ag)(σ:St)(H:Hp),L2.Inv X Y1 σ H s->rC X Y1 H ia->S i s.heap->(J.go i H\/J.stop i H)->
  ∃fp n Pv Sx,nQ P w ia fp n Pv Sx/\Sx i s.heap/\(∀j h,Sx j h->S j h)/\(J.go i H->i<n)/\(J.stop i H->n<=i)/\(∀v,Pv i v->∃x,RelV x v/\J.yld i H x H)/\∀b∈fp,Held X H s.heap b
section
variable{P:aQ}{w:a8}{K:ah}
def Qa{X:Cx}{b:List (ab×Obj)}{σ:St}{H:Hp}{s:ag}{a:ab}{xs:List V}(I:L2.Inv X b σ H s)(h:qX X.K H a xs):Held X H s.heap a:=by
 rcases h with h|⟨o,d,n,c,_⟩
 ·exact .inl (by rcases h with h|⟨_,h⟩<;>(rw[h];simp))
 ·exact .inr ⟨o,I.ok.mod.kin a o c⟩
def zdI{xs:List V}{a:List ae}{i:Nat}{v:ae}(r:nu xs a)(e:a[i]?=Jd v):∃x,xs[i]?=Jd x/\RelV x v:=by
 have f:=r.length;have b:i<xs.length:=by have:=(al.mp e).1;lia
 obtain⟨u,c,d⟩:=r.get (ao b);rw[e] at c;cases c;exact⟨_,ao b,d⟩
def X7(a l:ab):DF P w K (NS K a) l (λi h=>h.IsTupleIter l a i) where
 obj:=λi h ⟨o,e,c,d⟩=>⟨o,e,λv z=>by rw[d] at z;cases z⟩
 keep:=λi h R ⟨o,e,c,d⟩ k=>⟨o,k o e,c,d⟩
 got:=by
  intro X B C D i q s S H I E F G;subst B C D;have J:∃g,qX X.K H a g:=by
   rcases G with⟨g,x,h,_⟩|⟨g,h,_⟩<;>exact⟨g,h⟩
  obtain⟨g,f⟩:=J;obtain⟨r,t,p,T⟩:=I.tuple f;have U:=t.length;refine⟨[a],_,_,_,ze5 l a r.toArray ((Qa I f).far I E),⟨F,p⟩,λj h z=>z.1,λ⟨u,y,m,A⟩=>?_,λ⟨u,m,A⟩=>?_,λv L=>?_,λb M=>?_⟩
  ·have e:=I.tuple_inj m f;subst e;have:=(al.mp A).1;simp;lia
  ·have e:=I.tuple_inj m f;subst e;simp;lia
  ·have n:r[i]?=Jd v:=⇑L
   obtain⟨x,N,O⟩:=zdI t n;exact⟨x,O,rfl,λu Q=>by rw[I.tuple_inj Q f];exact N⟩
  ·have:b=a:=⇑M
   subst this;exact Qa I f
end
def VI(J1 J2:It):It:=
 ⟨λi H=>J1.go i H/\J2.go i H,λi H v H'=>∃p x y,H p=Jf/\v=.ref p/\J1.yld i H x H/\J2.yld i H y H/\H'=upd H p (.tup [x,y]),λi H=>J1.stop i H/\(J2.go i H\/J2.stop i H)\/J1.go i H/\J2.stop i H⟩
def V8(z t o i j:ab)(S1 S2:Nat->aV->Prop)(n:Nat)(h:aV):Prop:=jt h z t o .none/\fc h t (.ref i) (.ref j)/\(∃a b,fc h o a b)/\S1 n h/\S2 n h
def zcm(z t o i j:ab)(ap:[z,t,o,i,j].Nodup)(W:DF P w K J1 i S1)(Y:DF P w K J2 j S2):v9 P w K (.Tuple es kt pt) (VI J1 J2) [z,t,o,i,j] z (V8 z t o i j S1 S2):=by
 simp only[bo,ar,bE,or_false,not_or,gQ,and_true] at ap;obtain⟨⟨a1,a2,a3,a4⟩,⟨b1,b2,b3⟩,⟨c1,c2⟩,d1,_⟩:=ap;have RE:∀{X:Cx}{d:List (ab×Obj)}{s:ag}{C:St}{H:Hp}{Z rN:List ab},L2.Inv X d C H s->(∀b∈[z,t,o,i,j],rC X d H b)->(∀b∈Z,Held X H s.heap b)->(∀b∈rN,Held X H s.heap b)->Gg z t o i j Z rN:=λ{X d s C H Z rN}I r h1 h2=>
  ⟨bI a1,bI a2,b1,λb f=>(ar.mp f).elim (λe=>by rw[e];exact⟨bI a3,bI c1⟩) λf=>⟨(h1 b f).far I (r z 'd'),(h1 b f).far I (r o 'd')⟩,
   λb f=>(ar.mp f).elim (λe=>by rw[e];exact⟨bI a4,bI c2⟩) λf=>⟨(h2 b f).far I (r z 'd'),(h2 b f).far I (r o 'd')⟩,
   λf=>(ar.mp f).elim d1 λf=>(h2 i f).far I (r i 'd') rfl,λf=>(ar.mp f).elim (bI d1) λf=>(h1 j f).far I (r j 'd') rfl,b2,b3⟩
 refine⟨by simp,λn h F b f=>?_,λn h h' F k=>?_,?_,?_,λA n s Q E F q=>wpAny_pyIter_zip F.1 q⟩
 ·obtain⟨J,G,⟨a,b',L⟩,M,N⟩:=F;simp only[ar,bE,or_false] at f;rcases f with rfl|rfl|rfl|rfl|rfl
  ·exact⟨_,J,λv e=>by cases e⟩
  ·exact⟨_,G,λv e=>by cases e⟩
  ·exact⟨_,L,λv e=>by cases e⟩
  ·exact W.obj n h M
  ·exact Y.obj n h N
 ·obtain⟨J,G,⟨a,b',L⟩,M,N⟩:=F;exact⟨k z 'd' _ J,k t 'd' _ G,⟨a,b',k o 'd' _ L⟩,W.keep n h h' M (k i 'd'),Y.keep n h h' N (k j 'd')⟩
 ·intro X O R S l n d s C H E I r F hg;obtain⟨g1,g2⟩:=hg;obtain⟨J,G,⟨a,b,L⟩,M,N⟩:=F;obtain⟨Z,n1,P1,T1,Z1,s1,u1,Dz,p_,y1,f1⟩:=W.got X O R S n d s C H I (r i 'd') M (.inl g1);obtain⟨rN,n2,P2,T2,Z2,s2,u2,Vq,pJ,y2,f2⟩:=Y.got X O R S n d s C H I (r j 'd') N (.inl g2);have D:=RE I r f1 f2;subst O R S;refine wT I (zhY Z1 Z2 D J G L s1 s2 (Dz g1) (Vq g2) λx y h' tk px py q1 q2 q3 q4 q5 hk qf=>⟨_,rfl,?_⟩);obtain⟨vx,rx,yx⟩:=y1 x px;obtain⟨vy,ry,yy⟩:=y2 y py;refine wpAny_letOwnedTupleGo_zip q1 λT e1 U=>?_;have nb:∀q∈[z,t,o,i,j],s.heap.objs.size≠q:=λq hq e=>by
   have:∃m,s.heap.get? q=Jd m:=by
    simp only[ar,bE,or_false] at hq;rcases hq with rfl|rfl|rfl|rfl|rfl
    ·exact⟨_,J⟩
    ·exact⟨_,G⟩
    ·exact⟨_,L⟩
    ·obtain⟨m,g,_⟩:=W.obj n _ M;exact⟨_,g⟩
    ·obtain⟨m,g,_⟩:=Y.obj n _ N;exact⟨_,g⟩
   obtain⟨m,g⟩:=this;exact absurd (aR g) (by rw[e];exact cR _)
  have B:∀c m,c∉[z,t,o,i,j]->s.heap.get? c=Jd m->T.get? c=Jd m:=λc m l e=>by
   simp only[ar,bE,or_false,not_or] at l;exact U.extBut _ _ l.1 (hk c m l.1 l.2.2.1 l.2.2.2.1 l.2.2.2.2 e)
  have I1:L2.Inv X d C H { s with heap:=T,toks:=tk }:=Inv.turns [z,t,o,i,j] I B r;have xU:T.get? s.heap.objs.size=Jd { cls:=.type "tuple",data:=.seq #[x,y] }:=U.extBut _ _ (nb z 'd') q5;have V:H s.heap.objs.size=Jf:=I.hok.fresh (aE _);have I2:L2.Inv X d C (upd H s.heap.objs.size (.tup [vx,vy])) { s with heap:=T,toks:=tk }:=by
   have un:Un (t8 X.stack) [z,t,o,i,j] H (upd H s.heap.objs.size (.tup [vx,vy])) s.heap T:=by
    refine⟨λc m e _ _ l=>B c m l e,λc m e _ _ l=>⟨m.slots,B c m l e⟩,λc m e hn _=>?_,λc m e l=>⟨m,B c m l e⟩,λc zs e=>?_,λc m u e=>?_,λc ps e=>⟨#[],?_⟩⟩
    ·rw[o9 (bt (aR e))];exact hn
    ·rw[o9 (rf e V)];exact e
    ·rw[o9 (rf e V)];exact e
    ·rw[o9 (rf e V),e];simp
   have hok:HOk X.prog X.w (upd H s.heap.objs.size (.tup [vx,vy])) T:=by
    intro c u' e;by_cases l:c=s.heap.objs.size
    ·subst l;rw[qP] at e;cases e;exact⟨by show 2<=KM;decide,[x,y],.cons rx (.cons ry .nil),⟨_,xU,rfl,⟨_,rfl⟩,rfl⟩⟩
    ·rw[o9 l] at e;refine(I1.hok c u' e).stay (λ_ _ _ q=>q) (λp q=>?_) λp zs q=>?_
     ·by_cases hp:p=s.heap.objs.size
      ·subst hp;rw[V] at q;cases q
      ·rw[o9 hp];exact q
     ·by_cases hp:p=s.heap.objs.size
      ·subst hp;rw[V] at q;cases q
      ·rw[o9 hp];exact q
   exact I.call (t':=tk) (d':=s.drawn) un hok I.bare λb f=>let ⟨_,f1,_,f3,f4,f5⟩:=r b f;⟨f3,f1,f4,f5⟩
  refine⟨.ref s.heap.objs.size,_,I2,rfl,⟨_,vx,vy,V,rfl,yx,yy,rfl⟩,⟨e1,?_,⟨_,_,U.extBut _ _ D.a2 q2⟩,?_,?_⟩,λb f=>?_⟩
  ·exact U.extBut _ _ D.a1 (hk _ _ D.a1 D.a3 D.d1 D.d2 G)
  ·exact u1 _ _ (Z1.but q3 U.extBut λb f=>(D.b1 b f).1)
  ·exact u2 _ _ (Z2.but q4 U.extBut λb f=>(D.b2 b f).1)
  ·rw[o9 (bI (nb b f))];exact(r b f).1
 ·intro X O R S l n d s C H E I r F hg;obtain⟨J,G,⟨a,b,L⟩,M,N⟩:=F;have k1:J1.go n H\/J1.stop n H:=hg.elim (λz=>.inr z.1) λz=>.inl z.1;have k2:J2.go n H\/J2.stop n H:=hg.elim (λz=>z.2) λz=>.inr z.2;obtain⟨Z,n1,P1,T1,Z1,s1,u1,Dz,p_,y1,f1⟩:=W.got X O R S n d s C H I (r i 'd') M k1;obtain⟨rN,n2,P2,T2,Z2,s2,u2,Vq,pJ,y2,f2⟩:=Y.got X O R S n d s C H I (r j 'd') N k2;have D:=RE I r f1 f2;subst O R S;refine wT I (YQ (I.ok.hd l) Z1 Z2 D J G L s1 s2 (hg.elim (λq=>.inl (p_ q.1)) λq=>.inr ⟨Dz q.1,pJ q.2⟩) λh' tk hk qf=>⟨rfl,?_⟩);refine Inv.turns (t':=tk) [z,t,o,i,j] I (λc m l e=>?_) r;simp only[ar,bE,or_false,not_or] at l;exact hk c m l.1 l.2.2.1 l.2.2.2.1 l.2.2.2.2 e
noncomputable def zY:D->Option Src
 |.tup ds=>Jd (.val ds)
 |_=>Jf
def Be(t:DA):DI:=λσ O=>(t σ O).bnd λxs O1=>match xs with
 | [x,y]=>match zY x,zY y with
  |some p,Jd q=>.ok (.zip p q) O1
  |_,_=>.bad
 |_=>.bad
def ny.zipW(n:ny K J1 s1 H XV μ)(o:ny K J2 s2 H XV μ):ny K (VI J1 J2) (.zip s1 s2) H XV μ:=by
 intro j g k b m c i;have e:=n j g k b m c i;have a:=o j g k b m c i;show match (match s1.get b i,s2.get b i with|some x,Jd y=>Jd (D.tup [x,y])|_,_=>Jf) with|some d=>_|none=>_
 cases l:s1.get b i with
 | none=>
  rw[l] at e;refine .inl ⟨e,?_⟩;cases f:s2.get b i with
  |none=>rw[f] at a;exact .inr a
  |some d=>rw[f] at a;exact .inl a.1
 | some d1=>
  rw[l] at e;cases f:s2.get b i with
  |none=>rw[f] at a;exact .inr ⟨e.1,a⟩
  | some d2=>
   rw[f] at a;refine⟨⟨e.1,a.1⟩,λv t q=>?_⟩;obtain⟨p,x,y,h,rfl,r,s,rfl⟩:=q;exact⟨.laid h,c.laid h,Y2.newT c h (.cons (e.2 x g r).2.2 (.cons (a.2 y g s).2.2 .nil))⟩
section
variable{X:Cx}{Ex:Nat->Hp->Prop}{pos:Pos}{a b c e:aS}{Y1:List (ab×Obj)}{b_:St}{H:Hp}{s:ag}{XV μ:List ab}{O:Ow}
def JQ(I:L2.Inv X Y1 b_ H s)(c:nk X.K H XV μ O)(h:Y2 X.K H XV μ d v)(r:RelV v u)(e:zY d=Jd src):
  ∃(k:ZK)(J:It),k.val=u/\k.pre s.heap/\ny X.K J src H XV μ/\∀f,∃S,DF X.prog X.w X.K J f S/\∀h:aV,h.get? f=Jd k.obj->S 0 h:=by
 cases d with
 | tup ds=>
  unfold Y2 at h;obtain⟨q,j,rfl,l,g⟩:=h;cases e;cases r;obtain⟨i,_,p,_⟩:=I.tuple l.sq;exact⟨.tup q i.toArray,_,rfl,p,.tup l g,λf=>⟨_,X7 q f,λh z=>⟨_,z,rfl,rfl⟩⟩⟩
 |_=>cases e
def zeX(C:Gl X "zip")(D:X.mg "zip" = Jf)(E:sE X Ex [a,b] t)(F:aP [a,b] X.env=[(Jh,eval a X.env),(Jh,eval b X.env)]:=by rfl)(r:aP [b] X.env=[(Jh,eval b X.env)]:=by rfl):
  sD X Ex (.Tuple AQ kt pt) (.Call (.Name "zip" p) [a,b] [] pos) (Be t):=by
 refine⟨?_⟩;rintro Y1 s b_ H G I ⟨XV,μ,σ,O,m,L,q⟩;refine jJ (Ai I C D zfP (dO (o7 (E.out pos Y1 s b_ H _ I (sY.go m L q (Q1:=λo g=>∃XV h i j,nk X.K g XV h i/\np X.K g XV h j o/\
   post Ex X.K (λH' M s J=>ny X.K J s H' XV M) g XV h (match j with|[x,y]=>(match zY x,zY y with|some p,Jd q=>.ok (.zip p q) i|_,_=>.bad)|_=>.bad) G)
  λj i o g h u x k d p=>⟨XV,h,i,j,k,d,p⟩)) λus f ⟨o,g,l,N,XV,h,i,j,k,d,p⟩=>?_) (by rw[F,r]) (by rw[r];rfl)))
 split at p
 ·rename_i x y;split at p
  ·rename_i sp sq m u;obtain⟨v,w,rfl,P,Q⟩:=A9 d;obtain⟨u1,u2,rfl,R,S⟩:=GO N;obtain⟨T,J1,U,V,W,Y⟩:=JQ l k P R m;obtain⟨Z,J2,v2,p2,t2,i2⟩:=JQ l k Q S u;rw[<- U,<- v2];refine zcv T Z V p2 λh' z g3 g4 g1 g2 hk=>?_;refine wpAny_pyIter_zip z ?_;have I2:L2.Inv X Y1 b_ g { f with heap:=h',toks:=f.toks }:=l.kept hk;obtain⟨S1,N1,z1⟩:=Y f.heap.objs.size;obtain⟨S2,N2,z2⟩:=i2 (f.heap.objs.size+1);refine⟨f.heap.objs.size+4,[f.heap.objs.size+4,f.heap.objs.size+2,f.heap.objs.size+3,f.heap.objs.size,f.heap.objs.size+1],_,_,g,rfl,I2,zcm _ _ _ _ _ ?_ N1 N2,⟨z,g3,⟨_,_,g4⟩,z1 _ g1,z2 _ g2⟩,λb A=>?_,post.here p k (.zipW W t2)⟩
   ·have nn:∀(n:ab),[n+4,n+2,n+3,n,n+1].Nodup:=λn=>by
     simp only[bo,ar,bE,or_false,not_or,gQ,and_true];refine⟨⟨?_,?_,?_,?_⟩,⟨?_,?_,?_⟩,⟨?_,?_⟩,?_,not_false⟩<;>simp[ab] at * <;> lia
    exact nn _
   ·have B:f.heap.objs.size<=b:=by
     simp only[ar,bE,or_false] at A;rcases A with rfl|rfl|rfl|rfl|rfl<;>lia
    exact l.fpOk (H':=g) B (l.hok.fresh B)
  ·exact aj p
 ·exact aj p
end
end DL
namespace DL
open PySem L2
open AutoSeq1 (wpAny_loadPart')
section
variable{P:aQ}{w:a8}{A:be}{E:ae->ag->Prop}{s:ag}
variable{ea ia:ab}{fp:List ab}{n k:Nat}{Pv:Nat->ae->Prop}{Sx:Nat->aV->Prop}{old:ae}
def zfE(J:nQ P w ia fp n Pv Sx)(v:gJ s.heap ea ia (k:Nat) old)(X:Sx k s.heap)(Y:k<n)(j:∀b∈ia::fp,b≠ea)
  (Z:∀x h' tk ti,Pv k x->IsEnumOut h' ea ia ((k:Int)+1) x s.heap.objs.size->Sx (k+1) h'->h'.get? s.heap.objs.size=Jd { cls:=.type "tuple",data:=.seq #[.int (k:Nat) ti,x] }->(∀b o,b≠ea->b≠ia->s.heap.get? b=Jd o->h'.get? b=Jd o)->Q (Jd (.ref s.heap.objs.size)) { s with heap:=h',toks:=tk }):
  ay (aC P w) A (pyNext (.ref ea)) Q E s:=by
 have T:s.TypeIs (.ref ea) "enumerate":=⟨_,v,rfl⟩;have D:ea≠ia:=bI (j ia am);unfold pyNext;refine aa (fD (cH (name := "__next__") T eS (cB eS T j0 ?_ (jK _))));obtain⟨e,g,d,tk,f⟩:=s;show ay _ _ (field (.ref ea) 2 >>= _) _ _ _;refine aa (bQ v rfl (x:=.ref ia) rfl (aa (J.item _ k _ _ _ Y X λx h a px F l=>?_)));have l:dB ia e h:=l;have G:gJ h ea ia (k:Nat) old:=(l.2 ea D).trans v;show ay _ _ (field (.ref ea) 3 >>= _) _ _ ⟨h,g,d,a,f⟩;refine aa (bQ G rfl (x:=ee (k:Nat)) rfl ?_);show ay _ _ (field (.ref ea) 4 >>= _) _ _ ⟨h,g,d,a,f⟩;refine aa (bQ G rfl (x:=(.none)) rfl ?_);show ay _ _ (mkInt (k:Nat) >>= _) _ _ ⟨h,g,d,a,f⟩;refine aa (wpAny_mkInt ?_);show ay _ _ (setField (.ref ea) 3 (ee ((k:Int)+1)) >>= _) _ _ ⟨h,g,d,a+1,f⟩;refine aa (cz G 'd' λy H m=>?_);have m:dB ea h y:=m;have H:gJ y ea ia ((k:Int)+1) old:=H;show ay _ _ (setField (.ref ea) 4 .none >>= _) _ _ ⟨y,g,d,a+1,f⟩;refine aa (cz H 'd' λc I p=>?_);have p:dB ea y c:=p;have I:gJ c ea ia ((k:Int)+1) old:=I;show ay _ _ (newTuple [.int (k:Nat) a,x] >>= _) _ _ ⟨c,g,d,a+1,f⟩;refine aa (iS ?_);have B:gJ (c.push { cls:=.type "tuple",data:=.seq #[.int (k:Nat) a,x] }) ea ia ((k:Int)+1) old:=ai _ I;have q:c.objs.size=e.objs.size:=by rw[p.1,m.1,l.1]
 have K:ea<e.objs.size:=aR v;have U:(c.push { cls:=.type "tuple",data:=.seq #[.int (k:Nat) a,x] }).get? e.objs.size=Jd { cls:=.type "tuple",data:=.seq #[.int (k:Nat) a,x] }:=by rw[<- q];exact aO _ rfl
 have V:∀b o,b≠ea->b≠ia->e.get? b=Jd o->(c.push { cls:=.type "tuple",data:=.seq #[.int (k:Nat) a,x] }).get? b=Jd o:=λb o i L z=>ai _ (p.extBut b o i (m.extBut b o i (l.extBut b o L z)));have W:Sx (k+1) (c.push { cls:=.type "tuple",data:=.seq #[.int (k:Nat) a,x] }):=J.stab _ _ _ (J.but (J.but F m.extBut j) p.extBut j) λb _ o z=>ai _ z;generalize c.push { cls:=.type "tuple",data:=.seq #[.int (k:Nat) a,x] } = h4 at B U V W;show ay _ _ (dH (.ref ea) >>= _) _ _ ⟨h4,g,d,a+1,f⟩;rw[q];refine aa ?_;unfold dH;refine aa (bQ B rfl (x:=(.none)) rfl (aq ?_));simp only[if_true];refine aa (dF (aa (bQ B rfl (x:=old) rfl (aa (cz B 'd' λC M r=>?_)))));have r:dB ea h4 C:=r;have M:gJ C ea ia ((k:Int)+1) x:=M;show ay _ _ (eO (.ref ea) (.ref e.objs.size) >>= _) _ _ ⟨C,g,d,a+1,f⟩;refine aa ?_;unfold eO;refine aa (cz M 'd' λN O t=>?_);have t:dB ea C N:=t;have O:IsEnumOut N ea ia ((k:Int)+1) x e.objs.size:=O;refine cz O 'd' λR S u=>?_;have u:dB ea N R:=u;have S:IsEnumOut R ea ia ((k:Int)+1) x e.objs.size:=S;refine aa (fQ (aq ⟨_,rfl,aq (Z x R _ a px S (J.but (J.but (J.but W r.extBut j) t.extBut j) u.extBut j) ?_ λb o i L z=>u.extBut b o i (t.extBut b o i (r.extBut b o i (V b o i L z))))⟩));exact u.extBut _ _ (eJ K) (t.extBut _ _ (eJ K) (r.extBut _ _ (eJ K) U))
def Zk(d:A.handled=Jf)(J:nQ P w ia fp n Pv Sx)(a:gJ s.heap ea ia (k:Nat) old)(f:Sx k s.heap)(g:n<=k)(h:∀h',md ia s.heap h'->Q Jf { s with heap:=h' }):ay (aC P w) A (pyNext (.ref ea)) Q E s:=by have c:s.TypeIs (.ref ea) "enumerate":=⟨_,a,rfl⟩;unfold pyNext;refine aa (fD (cH (name := "__next__") c eS (cB eS c j0 ?_ (jK _))));show ay _ _ (field (.ref ea) 2 >>= _) _ _ _;refine aa (bQ a rfl (x:=.ref ia) rfl (aa (J.done _ k _ _ _ d g f λh' e i j=>?_)));obtain⟨l,m,o⟩:=j;exact aa (wpAny_isInstance (T := "StopIteration") (b:=Jg) ⟨l,m,o⟩ isSubtype_stop (aq (h _ i)))
end
end DL
namespace DL
open PySem L2
def VL(J:It):It:=⟨J.go,λi H v H'=>∃p x,H p=Jf/\v=.ref p/\J.yld i H x H/\H'=upd H p (.tup [.int (i:Nat),x]),J.stop⟩
def Wp(ea ia:ab)(S:Nat->aV->Prop)(n:Nat)(h:aV):Prop:=(∃old,gJ h ea ia (n:Nat) old)/\S n h
def zcc(f i:ab)(ap:f≠i)(N:DF P w K J i S)(FG:∀(A:be)(n:Nat)(s:ag)(Q E:ae->ag->Prop),(∃o,gJ s.heap f i (n:Nat) o)->Q (.ref f) s->ay (aC P w) A (pyIter (.ref f)) Q E s):v9 P w K (.Tuple es kt pt) (VL J) [f,i] f (Wp f i S):=by
 refine⟨by simp,λn h t b r=>?_,λn h R t k=>?_,?_,?_,λA n s Q E t q=>FG A n s Q E t.1 q⟩
 ·obtain⟨⟨o,y⟩,z⟩:=t;simp at r;rcases r with rfl|rfl
  ·exact⟨_,y,λv e=>by cases e⟩
  ·exact N.obj n h z
 ·obtain⟨⟨o,y⟩,z⟩:=t;exact⟨⟨o,k f 'd' _ y⟩,N.keep n h R z (k i 'd')⟩
 ·intro X U V W d n j s G H E I B t D;obtain⟨⟨o,y⟩,z⟩:=t;obtain⟨fp,m,Pv,T,Z,Y,u1,Dz,p_,y1,L⟩:=N.got X U V W n j s G H I (B i 'd') z (.inl D);have ne:∀b∈i::fp,b≠f:=λb r=>(ar.mp r).elim (λe=>by rw[e];exact bI ap) λr=>(L b r).far I (B f 'd');refine wT I (zfE Z y Y (Dz D) ne λx R tk tki px q1 q2 q3 hk qf=>⟨_,rfl,?_⟩);obtain⟨M,rx,yx⟩:=y1 x px;refine wpAny_letOwnedTupleGo_enum q1 λO e1 e2=>?_;have nb:∀q∈[f,i],s.heap.objs.size≠q:=λq hq e=>by
   have:∃a,s.heap.get? q=Jd a:=by
    simp at hq;rcases hq with rfl|rfl
    ·exact⟨_,y⟩
    ·obtain⟨a,g,_⟩:=N.obj n _ z;exact⟨_,g⟩
   obtain⟨a,g⟩:=this;exact absurd (aR g) (by rw[e];exact cR _)
  have l:∀c a,c∉[f,i]->s.heap.get? c=Jd a->O.get? c=Jd a:=λc a d e=>by
   simp at d;exact e2.extBut _ _ d.1 (hk c a d.1 d.2 e)
  have I1:=Inv.turns [f,i] I l B;have xU:=e2.extBut _ _ (nb f 'd') q3;have C:=I.hok.fresh (aE _);have I2:L2.Inv X j G (upd H s.heap.objs.size (.tup [.int (n:Nat),M])) { s with heap:=O,toks:=tk }:=by
   have un:Un (t8 X.stack) [f,i] H (upd H s.heap.objs.size (.tup [.int (n:Nat),M])) s.heap O:=by
    refine⟨λc a e _ _ d=>l c a d e,λc a e _ _ d=>⟨a.slots,l c a d e⟩,λc a e hn _=>?_,λc a e d=>⟨a,l c a d e⟩,λc zs e=>?_,λc a u e=>?_,λc ps e=>⟨#[],?_⟩⟩
    ·rw[o9 (bt (aR e))];exact hn
    ·rw[o9 (rf e C)];exact e
    ·rw[o9 (rf e C)];exact e
    ·rw[o9 (rf e C),e];simp
   have hok:HOk X.prog X.w (upd H s.heap.objs.size (.tup [.int (n:Nat),M])) O:=by
    intro c u' e;by_cases d:c=s.heap.objs.size
    ·subst d;rw[qP] at e;cases e;exact⟨by show 2<=KM;decide,[.int (n:Nat) tki,x],.cons ⟨_,rfl⟩ (.cons rx .nil),⟨_,xU,rfl,⟨_,rfl⟩,rfl⟩⟩
    ·rw[o9 d] at e;refine(I1.hok c u' e).stay (λ_ _ _ q=>q) (λp q=>?_) λp zs q=>?_
     ·by_cases F:p=s.heap.objs.size
      ·subst F;rw[C] at q;cases q
      ·rw[o9 F];exact q
     ·by_cases F:p=s.heap.objs.size
      ·subst F;rw[C] at q;cases q
      ·rw[o9 F];exact q
   exact I.call un hok I.bare λb r=>let ⟨_,L,_,f3,f4,f5⟩:=B b r;⟨f3,L,f4,f5⟩
  refine⟨.ref s.heap.objs.size,_,I2,rfl,⟨_,M,C,rfl,yx,rfl⟩,⟨⟨_,by exact_mod_cast e1⟩,?_⟩,λb r=>?_⟩
  ·exact u1 _ _ (Z.but q2 e2.extBut ne)
  ·rw[o9 (bI (nb b r))];exact(B b r).1
 ·intro X U V W d n j s G H E I B t D;obtain⟨⟨o,y⟩,z⟩:=t;obtain⟨fp,m,Pv,T,Z,Y,u1,Dz,p_,y1,L⟩:=N.got X U V W n j s G H I (B i 'd') z (.inr D);refine Zk (I.ok.hd d) Z y Y (p_ D) λR eb=>⟨rfl,?_⟩;refine Inv.turns [f,i] I (λc a d e=>?_) B;simp at d;exact eb c a d.2 e
def yj(ds:List D):List D:=ds.zipIdx.map λq=>.tup [.int (q.2:Nat),q.1]
def S9(ds:List D)(i:Nat):(yj ds)[i]?=(ds[i]?).map λd=>D.tup [.int (i:Nat),d]:=by unfold yj;rw[bd,List.getElem?_zipIdx];cases ds[i]?<;>simp
def ny.enum(l:ny K J (.val ds) H XV μ):ny K (VL J) (.val (yj ds)) H XV μ:=by
 intro g a b j m c i;have e:match ds[i]? with|some d=>J.go i a/\∀x f,J.yld i a x f->Ext a b f b/\nk K f g b j/\Y2 K f g b d x|none=>J.stop i a:=l g a b j m c i
 show match (yj ds)[i]? with|some d=>_|none=>_
 rw[S9];cases k:ds[i]? with
 |none=>rw[k] at e;exact e
 | some d1=>
  rw[k] at e;refine⟨e.1,λv f n=>?_⟩;obtain⟨p,x,h,rfl,o,rfl⟩:=n;exact⟨.laid h,c.laid h,Y2.newT c h (.cons rD (.cons (e.2 x a o).2.2 .nil))⟩
section
variable{s:ag}
def zcB:bu "enumerate" = Jd (.type "enumerate"):=by boot_by_name
def SJ(b d:ab)(A:be)(n:Nat)(s:ag)(Q E:ae->ag->Prop)(h:∃a,gJ s.heap b d (n:Nat) a)(q:Q (.ref b) s):ay (aC P w) A (pyIter (.ref b)) Q E s:=by obtain⟨a,h⟩:=h;have c:s.TypeIs (.ref b) "enumerate":=⟨_,h,rfl⟩;refine wpAny_pyIter_slot c ki (cB ki c F.entry_enumerate_iter ?_ (F.args_enumerate_iter_1 _));exact aq ⟨_,rfl, "enumerate",_,c,eS.lookup,q⟩
end
end DL
namespace DL
open PySem L2
open PyProof.Rows hiding St
section
variable{X:Cx}{Ex:Nat->Hp->Prop}{pos:Pos}{a b c e:aS}{ta tb te:DE}{Y1:List (ab×Obj)}{b_:L2.St}{H:Hp}{s:ag}{XV μ:List ab}{O:Ow}
def zpa:Ow->D->D->R D:=λO x y=>match x,y with
 |.bl p,.bl q=>.ok (.bl (p==q)) O
 |_,_=>.bad
def zl:Ow->D->D->R D:=λO x y=>match x,y with
 |.bl p,.bl q=>.ok (.bl (!(p==q))) O
 |_,_=>.bad
def zgE(p q:Bool):(kE p==kE q)=(p==q):=by cases p<;>cases q<;>decide
def Qj:pZ X (bX .IsNot) (λx y H Q=>∃p q,x=.bl p/\y=.bl q/\Q (.bl (!(p==q))) H):=by intro Y1 s i H x y v u Q I d f h;obtain⟨p,q,rfl,rfl,g⟩:=h;cases d;cases f;exact wpAny_isNot_plain (by rfl) ⟨.bl (!(p==q)),H,I,by rw[zgE];rfl,g⟩
def RD:rp X Ex (λx y H Q=>∃p q,x=.bl p/\y=.bl q/\Q (.bl (!(p==q))) H) zl:=by
 intro H XV μ O x y v w Q c d f q;unfold zl at q;split at q
 ·unfold Y2 at d f;subst d;subst f;exact⟨_,_,rfl,rfl,post.here q c tV⟩
 ·exact aj q
def Ou(K:ah):R2:=λx y H Q=>∃a b ys,x=.ref a/\y=.ref b/\qX K H a []/\qX K H b ys/\Q (.ref b) H
def ZZ:pZ X (dZ .Add) (Ou X.K):=by
 intro Y1 s M H x y v u Q I g i h;obtain⟨p,q,N,rfl,rfl,j,k,l⟩:=h;cases g;cases i;obtain⟨m,n,⟨⟨P,o,r,t⟩,d,w,z,A⟩,_⟩:=I.tuple j;obtain⟨B,R,⟨⟨S,C,D,E⟩,f,F,G,J⟩,_⟩:=I.tuple k;have L:m=[]:=by cases n;rfl
 subst L;subst w;subst F;subst A;subst J;exact i5 ⟨_,d,rfl⟩ ⟨_,f,rfl⟩ jx kQ hJ gR (gC _ _) (PyProof.Rows.tuple_addW0 p q #[] B.toArray z G o C t E rfl) ⟨d,f,⟨.ref q,H,I,rfl,l⟩⟩
def vC:Ow->D->D->R D:=λO x y=>match x,y with
 |.tup [],.tup ys=>.ok (.tup ys) O
 |x,y=>rS O x y
def zfa:rp X Ex (λx y H Q=>Ou X.K x y H Q\/JS X.K x y H Q) vC:=by
 intro H XV μ O x y v w Q c g d q;unfold vC at q;split at q
 ·rename_i m;have f:=d;obtain⟨p,n,rfl,l,h⟩:=g;obtain⟨i,j,rfl,k,o⟩:=d;unfold np at h;subst h;exact .inl ⟨p,i,j,rfl,rfl,l.sq,k.sq,post.here q c f⟩
 ·exact .inr (QP H XV μ O _ _ v w Q c g d q)
def ZE(d:PD X Ex a ta)(f:PD X Ex b tb):PD X Ex (.BinOp a .Add b pos) (h_ vC ta tb):=J4 (pZ.or ZZ Q7) zfa d f
noncomputable def Wq(K:ah):V->Option Int->Option Int->Hp->VK->Prop:=λx lo hi H Q=>∃a xs,x=.ref a/\qX K H a xs/\(HT.sIx xs.length 0 lo=0/\HT.sIx xs.length xs.length hi=xs.length)/\Q (.ref a) H
def z7s{P:aQ}{w:a8}{A:be}{E:ae->ag->Prop}{s:ag}{t g:ab}{items:Array ae}{j k:ae}{lo f:Option Int}{Q:ae->ag->Prop}(d:IsTup s.heap t items)(l:s.heap.IsSliceOf g j k .none)(n:gD j lo)(o:gD k f)
  (m:HT.sIx items.size 0 lo=0/\HT.sIx items.size items.size f=items.size) (h:Q (.ref t) s):ay (aC P w) A (getItem (.ref t) (.ref g)) Q E s:=by
 obtain⟨p,q,i,v⟩:=id l;have r:s.TypeIs (.ref g) "slice":=⟨p,q,i⟩;unfold getItem
 try with_reducible refine bK ?_
 first|refine aa (aq ?_)|skip
 refine aa (wpAny_sequenceKey d.typeIs 's' (aa (cH d.typeIs cu (cB cu d.typeIs kX ?_ (lh _ _)))));show ay _ _ (je (.ref t) >>= _) _ _ s;refine aa (tupleItemsOf_ d (aa (li r ?_)));refine aa (HT.sliceApplied_gen l n o ?_);have u:(((HT.sIx items.size 0 lo:Nat):Int)==0&&(1:Int)==1&&(HT.sIx items.size items.size f-HT.sIx items.size 0 lo)==items.size)=Jg:=by
  rw[m.1,m.2];simp
 show ay _ _ (if (((HT.sIx items.size 0 lo:Nat):Int)==0&&(1:Int)==1&&(HT.sIx items.size items.size f-HT.sIx items.size 0 lo)==items.size)=Jg then _ else _) _ _ s;rw[Ji u];refine aa ?_;refine aa (li d.typeIs (aq ?_));exact aa (dF (aq ⟨_,rfl,aq h⟩))
def zg3:vk X (Wq X.K):=by
 intro Y1 s t H x v u w y z A Q I g i j k h;obtain⟨p,l,rfl,m,n,q⟩:=h;cases g;obtain⟨o,r,f,B⟩:=I.tuple m;have d:o.toArray.size=l.length:=by rw[aJ];exact r.length.symm
 exact⟨"tuple",_,cu.lookup,f.typeIs,z7s f i j k (by rw[d];exact n) ⟨.ref p,H,I,rfl,q⟩⟩
def Wh(O:Ow)(x:D)(lo hi:Option Int):R D:=match x with
 |.tup ds=>if HT.sIx ds.length 0 lo=0/\HT.sIx ds.length ds.length hi=ds.length then .ok (.tup ds) O else .ok (.tup (yX ds lo hi)) O
 |x=>NC O x lo hi
def yU(te:DE)(tl th:DO):DE:=λσ O=>(te σ O).bnd λx O1=>(tl σ O1).bnd λlo O2=>(th σ O2).bnd λhi O3=>Wh O3 x lo hi
def YL{lo B:Option aS}{C D:DO}{J:Pos}(L:PD X Ex e te)(M:zU X Ex lo C)(N:zU X Ex B D):PD X Ex (.Subscript e (.Slice lo B Jf J) pos) (yU te C D):=
 qN (Sy (vk.or zg3 (vk.or PX (vk.or P4 QK))) L.out M.out N.out) λXV μ σ O b_ H Q P R q=>rd.go P R q λd O1 v H1 e_ S x T r p=>BE.go S T p λl O2 H2 oW U V W Y=>BE.go U W Y λu y E F e4 Z h w=>by
  have n:=(r.ext V).ext Z;cases d with
  | tup j=>
   have rr:=n;obtain⟨o,t,rfl,G,m⟩:=n;have f:qC Ex X.K E XV F (if HT.sIx j.length 0 l=0/\HT.sIx j.length j.length u=j.length then .ok (.tup j) y else .ok (.tup (yX j l u)) y) Q:=w;split at f
   ·rename_i z;exact .inl ⟨o,t,rfl,G.sq,by rw[<- m.length];exact z,post.here f h rr⟩
   ·rename_i z;exact .inr (.inr (.inl ⟨o,t,rfl,G.sq,by rw[<- m.length];exact z,λI g=>post.ok f (.laid g) (h.laid g) (Y2.newT h g (EB m l u))⟩))
  | str i=>
   unfold Y2 at n;subst n;have f:=w;obtain⟨Nc,f⟩:=post.ite f;refine .inr (.inl ⟨_,rfl,?_,post.here f h ?_⟩)
   ·show i.toArray.size<=_;rw[aJ];exact xN Nc
   ·unfold Y2;rw[KR]
  | lst j=>
   have f:=w;obtain⟨o,t,rfl,A,m⟩:=uj h n (rfl);exact .inr (.inr (.inr ⟨o,t,rfl,A,λI g=>post.ok f (.laid g) (h.laid g) (Y2.newL h g (EB m l u))⟩))
  | own k=>
   have f:qC Ex X.K E XV F (match y[k]? with|some j=>.ok (.lst (yX j l u)) y|none=>.bad) Q:=w;split at f
   ·rename_i j NJ;obtain⟨o,t,rfl,A,m⟩:=uj h n (NJ);exact .inr (.inr (.inr ⟨o,t,rfl,A,λI g=>post.ok f (.laid g) (h.laid g) (Y2.newL h g (EB m l u))⟩))
   ·exact aj f
  |_=>exact aj w
end
end DL
namespace DL
open PySem L2
section
variable{X:Cx}{Ex:Nat->Hp->Prop}
noncomputable def yQ:Ow->D->D->R D:=λO x y=>match x,y with
 |.int i,.int j=>.ok (.bl (decide (i<j))) O
 |.str p,.str q=>.ok (.bl (decide (p<q))) O
 |_,_=>.bad
def Pw:pZ X (bX .Lt) (λx y H Q=>(∃i j,x=.str i/\y=.str j/\Q (.bl (decide (i.cps.toList<j.cps.toList))) H)\/uD (λi j=>.bl (decide (i<j))) x y H Q):=pZ.or zed JZ
def QI:rp X Ex (λx y H Q=>(∃i j,x=.str i/\y=.str j/\Q (.bl (decide (i.cps.toList<j.cps.toList))) H)\/uD (λi j=>.bl (decide (i<j))) x y H Q) yQ:=by
 intro H a e O x y v w Q c b d q;unfold yQ at q;split at q
 ·rename_i i j;exact .inr (Km H a e O (.int i) (.int j) v w Q c b d q)
 ·unfold Y2 at b d;subst b;subst d;exact .inl ⟨_,_,rfl,rfl,post.here q c tV⟩
 ·exact aj q
end
section
variable{X:Cx}{Ex:Nat->Hp->Prop}{pos:Pos}{b_:St}{H:Hp}{XV μ:List ab}{O:Ow}
structure JD(mg:az->Option ae)(x:az)(i:Int):Prop where
 ex:∃t,mg x=Jd (.int i t)
def Z4(h:JD X.mg x i)(a:Gl X x:=by rfl)(b:rG x:=by decide):PD X Ex (.Name x pos) (dC (.int i)):=by obtain⟨t,h⟩:=h.ex;exact qN (Ei (v:=.int i) a h ⟨_,rfl⟩ b) λXV μ d O b_ H Q e c q=>post.here q c rD
end
section
variable{X:Cx}{Ex:Nat->Hp->Prop}{pos:Pos}{tg e:aS}{te:DE}
def Gs(g:Tg)(te:DE):DS:=λσ O=>(te σ O).bnS λd O1=>match g.put d σ with
 |some σ'=>.nx σ' O1
 |none=>.bad
def zi2(b:PD X Ex e te)(f:PG X tg (g.rd X.K))(h:fB [tg] e pos.line X.env=pure Jh:=by rfl)(i:fC [tg] e X.env=pure Jf:=by rfl)(j:(fH [tg] X.env).map (·.2)=[assign tg X.env]:=by rfl):sS X Ex (.Assign [tg] e pos) (Gs g te):=
 xm (Kj b.out f h i j) λk y l O E z H m n q=>rd.goS m n q λd A v o s t x c r p=>by
  cases a:g.put d l with
  |none=>rw[a] at p;exact aj p
  | some σ'=>
   rw[a] at p;exact g.ok2 t r a λu w _=>p u o s .refl w c
end
end DL
namespace DL
open PySem L2 PySem.Spec PyProof.Rows
section
variable{X:Cx}{Ex:Nat->Hp->Prop}{pos:Pos}{tg e:aS}{te:DE}
noncomputable def D3(i j k:Nat)(te:DE):DS:=λσ O=>(te σ O).bnS λd O1=>match d with
 |.tup [x,y,z]=>.nx (((σ.set i (Jd x)).set j (Jd y)).set k (Jd z)) O1
 |_=>.bad
def W5{K:ah}{H:Hp}{XV d:List ab}{a b c:D}{vs:List V}(h:np K H XV d [a,b,c] vs):∃u v w,vs=[u,v,w]/\Y2 K H XV d a u/\Y2 K H XV d b v/\Y2 K H XV d c w:=by unfold np at h;obtain⟨u,r,rfl,f,g⟩:=h;obtain⟨v,w,rfl,i,j⟩:=A9 g;exact⟨u,v,w,rfl,f,i,j⟩
def zgp{i j k:Nat}{x y z:az}{c d f g:Pos}{h:Nat}(l:X.calm=Jg)(a:X.N.Nodup)(m:X.N[i]?=Jd x)(n:X.N[j]?=Jd y)(o:X.N[k]?=Jd z)(p:Loc X.env.scope x)(q:Loc X.env.scope y)(r:Loc X.env.scope z)
  (s:X.fn x=Jg\/X.env.scope.names.lookup x=Jd .local) (t:X.fn y=Jg\/X.env.scope.names.lookup y=Jd .local) (b:X.fn z=Jg\/X.env.scope.names.lookup z=Jd .local):
  PG X (.Tuple [.Name x c,.Name y d,.Name z f] h g) (DQ X.K 3 (y_ (uQ i) (y_ (uQ j) (y_ (uQ k) Gz)))):=
 O_ l (EK (CY a m p s) (EK (CY a n q t) (EK (CY a o r b) QQ)))
def zfC{i j k:Nat}(b:PD X Ex e te)(f:PG X tg (DQ X.K 3 (y_ (uQ i) (y_ (uQ j) (y_ (uQ k) Gz)))))(g:fB [tg] e pos.line X.env=pure Jh:=by rfl)(h:fC [tg] e X.env=pure Jf:=by rfl)(m:(fH [tg] X.env).map (·.2)=[assign tg X.env]:=by rfl):sS X Ex (.Assign [tg] e pos) (D3 i j k te):=
 xm (Kj b.out f g h m) λn I J O E L H o s q=>rd.goS o s q λd M v A B C x c r p=>by
  split at p
  ·rename_i x y z;unfold Y2 at r;obtain⟨a,N,rfl,l,r⟩:=r;obtain⟨u,w,t,rfl,D,F,G⟩:=W5 r;exact⟨a,[u,w,t],rfl,l.sq,rfl,u,[w,t],rfl,w,[t],rfl,t,[],rfl,rfl,p _ A B .refl (((C.set D i).set F j).set G k) c⟩
  ·exact aj p
end
end DL
namespace DL
open PySem L2 PySem.Spec PyProof.Rows
open Sem (wp)
end DL
namespace DL
open PySem L2 PySem.Spec PyProof.Rows
end DL
namespace DL
open PySem L2
open AutoSeq1 (wpAny_loadPart')
section
variable{X:Cx}{Ex:Nat->Hp->Prop}{b e o:aS}{to:DE}
def JK:Int->Int->Option D:=gI j7
def ziO:rp X Ex (uD λi j=>.int (j7 i j)) (fI JK):=Eu λi j d h _ _ _ _=>by cases h;exact rD
def zcD(l:ab)(xs:Array ae)(n:Nat)(b:ab)(a:Array ae)(m:Nat)(f:Array (Option ae))(g:¬(!xs.isEmpty&&ft (xs.size+a.size))=Jg)(i:xs.size<=KM)(j:xs.size+a.size<=KM+1):
  Meets (fY.«list.extend» ⟨[.ref l,.ref b],[]⟩) (λ_ R s=>s.heap.get? l=Jd { cls:=.type "list",data:=.seq xs n }/\s.heap.get? b=Jd { cls:=.type "list",data:=.seq a m,slots:=f }/\R (.ok (.ret .none)) { s with heap:=s.heap.update l (bG λx=>x++a) }):=
 .of_wp λc w A R s h=>by
  obtain⟨d,k,h⟩:=h;have p:(xs++a).size<=KM+1:=by rw[fV];exact j
  wp_walk using(iD d rfl),wpAny_loadPart' d,wpAny_loadPart' k
  exact⟨_,rfl,h⟩
def VW(K:ah):V->List V->Hp->VK->Prop:=λx vs H Q=>∃l b xs zs,x=.ref l/\vs=[.ref b]/\H l=Jd (.lst xs)/\qg K H b zs/\xs.length+zs.length<=KM/\Q .non (upd H l (.lst (xs++zs)))
def Yp:NR X "list.extend" (VW X.K):=by
 intro g s J H x L v M Q I k m h;obtain⟨l,b,N,O,rfl,rfl,i,p,P,q⟩:=h;cases k;obtain⟨u,rfl,t⟩:=m.one;cases t;obtain⟨z,a,n,r,R,e⟩:=I.lstM i;obtain⟨c,j,⟨w,y,A,B,d,C⟩,_⟩:=I.list p;obtain⟨S,D,T,E⟩:=w;subst B;subst d;subst C;have U:=j.length;have f:a.toArray.size+c.toArray.size<=KM:=by rw[aJ,aJ];lia
 have G:¬ (!a.toArray.isEmpty&&ft (a.toArray.size+c.toArray.size))=Jg:=by
  rw[zfT f,Bool.and_false];exact bU
 refine call_meets kl ⟨_,e,rfl⟩ F.entry_list_extend (F.args_list_extend_2 _ _)
  (zcD l a.toArray n b c.toArray y E G (by rw[aJ];lia) 'o') ⟨e,A,?_⟩
 refine⟨.non,_,I.lset i e 'd' (r.append j) ?_,rfl,q⟩;rw[aw];lia
def Cv(to:DE)(t:DA):DE:=λσ O=>(to σ O).bnd λx O1=>match x with
 | .own k=>(t σ O1).bnd λys O2=>match ys,O2[k]? with
  | [y],Jd ds=>match rk O2 y with
   |some es=>if ds.length+es.length<=4000000 then .ok .non (O2.set k (ds++es)) else .bad
   |none=>.bad
  |_,_=>.bad
 |_=>.bad
def zc6(m:PD X Ex o to)(n:sE X Ex (e::es) t)(s:attributeBase o "extend" X.env (eval o X.env)=eval o X.env:=by rfl)
  (u:((backTo oV (aP (e::es) X.env)).all (λx=>!x.1)&&(backToKw oV (keywordEach [] X.env)).all (λx=>x.1.isSome)&&decide ((e::es).length+([]:List eC).length+(if ([]:List eC).isEmpty then 0 else 1)<30))=Jg:=by rfl)
  (z:(apos.endLine==oV.line)=Jg:=by rfl) (B:aP (e::es) X.env=(Jh,eval e X.env)::aP es X.env:=by rfl) (C:(backTo oV (aP es X.env)).any (·.1)=Jh:=by rfl):
  PD X Ex (.Call (.Attribute o "extend" apos) (e::es) [] oV) (Cv to t):=
 qN (D2 gT kl PySem.F.type_list_extend Yp m.out n.out s u z B C) λD μ σ O b_ H Q E G q=>rd.go E G q λd O1 v H1 e_ I x g r p=>by
  cases d with
  | own k=>
   have J:=r;obtain⟨A,rfl,K⟩:=r;obtain⟨ds,L,h1,M,h3⟩:=g.at_ k A K;refine⟨.inl ⟨rfl,L,.of M⟩,sY.go I g p λys O2 ws H2 N e3 P c R a=>?_⟩;split at a
   ·rename_i y AQ S;split at a
    ·rename_i zs T;obtain⟨U,a⟩:=post.ite a;obtain⟨w,rfl,V⟩:=sI R;have f:N[k]?=Jd A:=by
      have:=J.ext P;obtain⟨A',W,Y⟩:=this;cases W;exact Y
     obtain⟨DB,Z,h,i,j⟩:=c.at_ k A f;rw[S] at h;cases h;obtain⟨pb,vz,rfl,sq,l⟩:=uj c V T;refine⟨A,pb,Z,vz,rfl,rfl,i,sq,aG (by rw[<- j.length,<- l.length];exact U) 's',?_⟩;exact post.ok a (.put (aN f) ⟨_,i⟩) (c.put f (j.append l)) Hn
    ·exact aj a
   ·exact aj a
  |_=>exact aj p
end
set_option maxHeartbeats 1000000 in
def zdL(q:ZK)(a:ae)(i:q.val=a):
  Meets (fY.«enumerate.__new__» ⟨[.type "enumerate",a],[]⟩) (λ_ R s=>q.pre s.heap/\
   R (.ok (.ret (.ref (s.heap.push q.obj).objs.size))) { s with heap:=(s.heap.push q.obj).push { cls:=.type "enumerate",data:=.fields #[.none,.bool Jh,.ref s.heap.objs.size,ee 0,.none,.none] } }):=
 .of_wp λP w A R s h=>by
  obtain⟨b,g,d,e,f⟩:=s;obtain⟨j,h⟩:=h;have l:=sub_enumerate;have c:∀{A:be}{E:ae->ag->Prop}{Q:ae->ag->Prop},Q (.ref b.objs.size) ⟨b.push q.obj,g,d,e,f⟩->ay (aC P w) A (pyIter a) Q E ⟨b,g,d,e,f⟩:=λ{A E Q}hq=>by rw[<- i];exact q.iter j hq
  wp_walk
  refine wpAny_stack_any λm=>aq (?_);split
  ·rename_i k _ _ _ _ _;cases (k==eG "enumerate")
   ·wp_walk using c
    exact⟨_,rfl,h⟩
   ·wp_walk using c
    exact⟨_,rfl,h⟩
  ·wp_walk using c
   exact⟨_,rfl,h⟩
section
variable{P:aQ}{w:a8}{A:be}{E:ae->ag->Prop}{s:ag}
def zbg(q:ZK)(e:q.pre s.heap)
  (h:∀h',gJ h' (s.heap.objs.size+1) s.heap.objs.size 0 .none->h'.get? s.heap.objs.size=Jd q.obj->(∀b o,s.heap.get? b=Jd o->h'.get? b=Jd o)->Q (.ref (s.heap.objs.size+1)) { s with heap:=h' }):
  ay (aC P w) A (call (.type "enumerate") [q.val]) Q E s:=by
 refine callType_new F.called_enumerate 's' (F.typeCall_enumerate_1 _) (F.newCall_enumerate_1 _) (λa=>F.args_object_init_2 a _) F.entry_enumerate_new (zdL q _ rfl) ⟨e,?_⟩;have f:q.obj.isFreed=Jh:=by cases q<;>rfl
 have c:(s.heap.push q.obj).objs.size=s.heap.objs.size+1:=cU ..;rw[c];have d:gJ ((s.heap.push q.obj).push { cls:=.type "enumerate",data:=.fields #[.none,.bool Jh,.ref s.heap.objs.size,ee 0,.none,.none] }) (s.heap.objs.size+1) s.heap.objs.size 0 .none:=by
  have q:=aO (s.heap.push q.obj) (o:={ cls:=.type "enumerate",data:=.fields #[.none,.bool Jh,.ref s.heap.objs.size,ee 0,.none,.none] }) rfl;rw[c] at q;exact q
 exact⟨⟨_,d,rfl⟩,h _ d (ai _ (aO _ f)) λb o x=>ai _ (ai _ x)⟩
end
def He(t:DA):DI:=λσ O=>(t σ O).bnd λxs O1=>match xs with
 | [x]=>match zY x with
  |some (.val ds)=>.ok (.val (yj ds)) O1
  |_=>.bad
 |_=>.bad
section
variable{X:Cx}{Ex:Nat->Hp->Prop}{pos:Pos}{a b:aS}{Y1:List (ab×Obj)}{b_:St}{H:Hp}{s:ag}{XV μ:List ab}{O:Ow}
def zcT(o:Gl X "enumerate")(r:X.mg "enumerate" = Jf)(u:sE X Ex [a] t)(w:aP [a] X.env=[(Jh,eval a X.env)]:=by rfl):
  sD X Ex (.Tuple AQ kt pt) (.Call (.Name "enumerate" p) [a] [] pos) (He t):=by
 refine⟨?_⟩;rintro Y1 s b_ H y I ⟨XV,μ,W,O,z,A,q⟩;refine jJ (Ai I o r zcB (dO (o7 (u.out pos Y1 s b_ H _ I (sY.go z A q (Q1:=λk f=>∃XV g h c,nk X.K f XV g h/\np X.K f XV g c k/\
   post Ex X.K (λB C s J=>ny X.K J s B XV C) f XV g (match c with|[x]=>(match zY x with|some (.val c)=>.ok (.val (yj c)) h|_=>.bad)|_=>.bad) y)
  λc h k f g Y x i d p=>⟨XV,g,h,c,i,d,p⟩)) λZ e ⟨k,f,j,D,XV,g,h,c,i,d,p⟩=>?_) (by rw[w];rfl) (by rfl)))
 split at p
 ·rename_i x;split at p
  ·rename_i ts E;obtain⟨v,rfl,F⟩:=sI d;obtain⟨u1,rfl,G⟩:=tu D;obtain⟨L,J1,M,N,P,Q⟩:=JQ j i F G E;rw[<- M];refine zbg L N λh' l R S=>(SJ (e.heap.objs.size+1) e.heap.objs.size _ 0 _ _ _ ⟨_,l⟩ ?_);have T:=j.kept S;obtain⟨S1,U,V⟩:=Q e.heap.objs.size;refine⟨e.heap.objs.size+1,[e.heap.objs.size+1,e.heap.objs.size],_,_,f,rfl,T,zcc _ _ (Nat.succ_ne_self _) U (SJ _ _),⟨⟨_,l⟩,V _ R⟩,λb m=>?_,post.here p i (.enum P)⟩;have n:e.heap.objs.size<=b:=by
    simp at m;rcases m with rfl|rfl<;>lia
   exact j.fpOk n (j.hok.fresh n)
  ·exact aj p
 ·exact aj p
end
end DL
namespace TS
open PySem PyProof.Rows
abbrev G1:=Bool->a9->Array a9->Nat->Nat->Nat->StateT bH Sem (Option Nat)
abbrev M1:=Array a9->Array a9->StateT bH Sem (Array a9)
def lay(xs:Array a9)(at_:Nat)(m:List a9):Array a9:=m.zipIdx.foldl (λa x=>a.setIfInBounds (at_+x.2) x.1) xs
structure nM where
 g:G1
 lo:M1
 hi:M1
 at_:∀{M:iw}{A:be}{E:ae->ag->Prop}{s:ag}{i:Nat}{st:bH}{Q:Bool->bH->Prop}{sa na pw sb nb IQ:Nat}{kb:a9},
  (KF st)[i]?=Jd (sa,na,pw)->(KF st)[i+1]?=Jd (sb,nb,IQ)->(KB st)[sb]?=Jd kb->
  wpS M A E s (g Jh kb (KB st) sa na 0) (λr p_=>∃k,r=Jd k/\(na-k=0->Q Jg p_)/\(na-k≠0->∃ka,(KB st)[sa+k+(na-k)-1]?=Jd ka/\
   wpS M A E s (g Jg ka (KB st) sb nb (nb-1)) (λr2 pJ=>∃m,r2=Jd m/\(m=0->Q Jg pJ)/\(m≠0->
    wpS M A E s (if na-k<=m then lo ((KB st).extract (sa+k) sb) ((KB st).extract sb (sb+m)) else hi ((KB st).extract (sa+k) sb) ((KB st).extract sb (sb+m)))
     (λmg pk=>Q (failedOf pk).isNone (setArr pk (lay (KB pk) (sa+k) mg.toList))) pJ)) p_)) (setPending st (((KF st).setIfInBounds i (sa,na+nb,pw)).eraseIdxIfInBounds (i+1)))->
  wpS M A E s (mergeAt' i) Q st
def rU{M:iw}{A:be}{E:ae->ag->Prop}{s:ag}{b:bH}{a:Array a9}{i:Nat}{x:a9}{Q:a9->bH->Prop}(h:a[i]?=Jd x)(q:Q x b):wpS M A E s (elem' a i) Q b:=by rw[elem'_eq,h];exact aL q
def Zq{M:iw}{A:be}{E:ae->ag->Prop}{s:ag}{σ:Type}{b a:σ}{Q:PUnit->σ->Prop}(q:Q ⟨⟩ a):wpS M A E s (set a) Q b:=fg (f:=λ_=>a) q
noncomputable def parts:nM:=by
 apply nM.mk
 case at_=>
  intro M A E s i st Q sa na pw sb nb IQ kb h1 h2 h3 h;show wpS M A E s (get >>= _) Q st;refine aD (gm ?_);rw[show(KF st)[i]?=_ from h1,show(KF st)[i+1]?=_ from h2];refine aD (Zq (aD (rU h3 (aD (c9 h ?_)))));rintro _ p_ ⟨k,rfl,e0,e1⟩;by_cases hk:na-k=0
  ·show wpS M A E s (if (na-k==0)=Jg then _ else _) Q p_;rw[Ji (by rw[hk];rfl)];exact aL (e0 hk)
  ·show wpS M A E s (if (na-k==0)=Jg then _ else _) Q p_;rw[Jk ⇑hk];obtain⟨ka,q1,q2⟩:=e1 hk;refine aD (rU q1 (aD (c9 q2 ?_)));rintro _ pJ ⟨m,rfl,f0,f1⟩;by_cases hm:m=0
   ·subst hm;exact aL (f0 rfl)
   ·show wpS M A E s (if (m==0)=Jg then _ else _) Q pJ;rw[Jk ⇑hm];have f2:=f1 hm;by_cases hc:na-k<=m
    ·rw[Ji hc] at f2;show wpS M A E s (if na-k<=m then _ else _) Q pJ;rw[Ji hc];exact aD (c9 f2 λmg pk q=>aD (fg (aD (gm (aL q)))))
    ·rw[Jk hc] at f2;show wpS M A E s (if na-k<=m then _ else _) Q pJ;rw[Jk hc];exact aD (c9 f2 λmg pk q=>aD (fg (aD (gm (aL q)))))
section
variable{prog:aQ}{w:a8}{A:be}{E:ae->ag->Prop}{s:ag}{κ:aX}{st:bH}{kd:KT}
def ky(κ:aX)(x:a9):κ.α:=(κ.keyOf x.1).getD κ.dflt
def sF(κ:aX)(x:a9):Prop:=∃a,κ.keyOf x.1=Jd a
abbrev Ty{α β:Type}(_:α->β):Type:=β
abbrev KT:Type:=Ty kindOf
def uZ(prog:aQ)(w:a8)(A:be)(s:ag)(κ:aX)(kd:KT):Prop:=∀(x y:a9)(E':ae->ag->Prop){Q:Bool->ag->Prop},sF κ x->sF κ y->Q (κ.blt (ky κ x) (ky κ y)) s->ay (aC prog w) A (keyLt' kd x.1 y.1) Q E' s
def uZ.one(e:κ.OneLt):uZ prog w A s κ oneType':=λx y f Q ⟨a,c⟩ ⟨b,d⟩ q=>by
 have g:ky κ x=a:=by unfold ky;rw[c];rfl
 have h:ky κ y=b:=by unfold ky;rw[d];rfl
 rw[g,h] at q;exact e prog w A f s x.1 y.1 a b c d q
def Ed(a:uZ prog w A s κ kd)(b:kindOf st=kd)(c:sF κ x)(d:sF κ y)(q:Q (Jd (κ.blt (ky κ x) (ky κ y))) st):wpS (aC prog w) A E s (lt' x y) Q st:=by rw[lt'_eq];refine aD (gm (aD (iU (fD ?_))));rw[b];exact a x y _ c d ⟨rfl,aL q⟩
def sN(κ:aX)(left:Bool)(key x:a9):Bool:=if left=Jg then κ.blt (ky κ x) (ky κ key) else !κ.blt (ky κ key) (ky κ x)
def DW{α β:Type}{G:Prop}{H:α->β->Prop}(P:α->β->Prop)(h:(∀x y,H x y->P x y)->G)(k:∀x y,H x y->P x y):G:=h k
def ZU(V:uZ prog w A s κ kd){left:Bool}{key:a9}{F:Array a9}{base n hint:Nat}{b:Nat->Bool}(W:kindOf st=kd)(X:sF κ key)(hb:∀i,i<n->∃x,F[base+i]?=Jd x/\sF κ x/\sN κ left key x=b i)(hh:hint<n)(t:∀i j,i<=j->j<n->b j=Jg->b i=Jg)
  {Q:Option Nat->bH->Prop} (q:∀k,k<=n->(∀i,i<k->b i=Jg)->(∀i,k<=i->i<n->b i=Jh)->Q (Jd k) st):wpS (aC prog w) A E s ((nM.g parts) left key F base n hint) Q st:=by
 have z:∀i,i<n->∀{Q:Option Bool->bH->Prop},Q (Jd (b i)) st->wpS (aC prog w) A E s (elem' F (base+i) >>= λx=>if left=Jg then lt' x key else lt' key x >>= λr=>pure (r.map λx=>!x)) Q st:=λi a Q Y=>by
  obtain⟨x,u,B,p⟩:=hb i a;refine aD (rU u ?_);unfold sN at p;cases left with
  | true=>
   rw[Ji rfl] at p;rw[Ji rfl];exact Ed V W B X (by rw[p];exact Y)
  | false=>
   rw[Jk 's'] at p;rw[Jk 's'];exact aD (Ed V W X B (aL (by show Q (Jd (!κ.blt (ky κ key) (ky κ x))) st;rw[p];exact Y)))
 have y:∀i j,i<=j->i<n->j<n->b i=Jh->b j=Jh:=λi j xW a hj C=>by
  cases e:b j with
  |false=>rfl
  |true=>rw[t i j xW hj e] at C;cases C
 show wpS _ _ _ _ (_ >>= _) Q st;refine aD (z hint hh ?_);apply DW (α:=Nat) (β:=Nat) (H:=λd a=>d<=a/\a<=n/\(∀i,i<d->b i=Jg)/\(∀i,a<=i->i<n->b i=Jh));intro key;cases Z:b hint with
 | true=>
  refine aD (c9 (cC (I:=λk c f=>f=st/\∃l o,c=(Jf,l,o)/\l<o/\k+1<=o/\hint+l<n/\b (hint+l)=Jg) (Q:=λc f=>f=st/\∃l o,c=(Jf,l,o)/\l<o/\hint+l<n/\b (hint+l)=Jg/\(hint+o<n->b (hint+o)=Jh)) ?_ ?_ ?_) ?_)
  ·rintro k c f _ xV ⟨L,l,o,rfl,u,B,p,v⟩;subst f;show wpS _ _ _ _ (if o ≥ n-hint then _ else _) _ st;by_cases D:o ≥ n-hint
   ·rw[Ji D];exact aL ⟨rfl,l,o,rfl,u,p,v,λh=>by lia⟩
   ·rw[Jk D];refine aD (z (hint+o) 'o' ?_);cases M:b (hint+o) with
    |true=>exact aL ⟨rfl,o,2*o+1,rfl,by lia,by lia,by lia,M⟩
    |false=>exact aL ⟨rfl,l,o,rfl,u,p,v,λ_=>M⟩
  ·rintro c f ⟨L,l,o,rfl,u,B,p,v⟩;subst f;exact⟨rfl,l,o,rfl,u,p,v,λh=>by rw[dD] at B;lia⟩
  ·exact⟨rfl,0,1,rfl,by lia,by lia,by lia,Z⟩
  ·rintro c f ⟨L,l,o,rfl,u,p,v,S⟩;subst f;have N:hint+l+1<=hint+min o (n-hint):=by lia
   have O:hint+min o (n-hint)<=n:=by lia
   have P:∀i,i<hint+l+1->b i=Jg:=λi a=>t i (hint+l) 'o' p v;have C:∀i,hint+min o (n-hint)<=i->i<n->b i=Jh:=λi a R=>by
    have:hint+o<n:=by lia
    exact y (hint+o) i 'o' this R (S this)
   show wpS _ _ _ _ (forIn [:n] (Jf,hint+l+1,hint+min o (n-hint)) _ >>= _) Q st;generalize hint+l+1=d at *;generalize hint+min o (n-hint)=a at *;exact key _ _ ⟨N,O,P,C⟩
 | false=>
  refine aD (c9 (cC (I:=λk c f=>f=st/\∃l o,c=(Jf,l,o)/\l<o/\k+1<=o/\l<=hint/\b (hint-l)=Jh) (Q:=λc f=>f=st/\∃l o,c=(Jf,l,o)/\l<o/\l<=hint/\b (hint-l)=Jh/\(o<=hint->b (hint-o)=Jg)) ?_ ?_ ?_) ?_)
  ·rintro k c f _ xV ⟨L,l,o,rfl,u,B,p,v⟩;subst f;show wpS _ _ _ _ (if o ≥ hint+1 then _ else _) _ st;by_cases D:o ≥ hint+1
   ·rw[Ji D];exact aL ⟨rfl,l,o,rfl,u,p,v,λh=>by lia⟩
   ·rw[Jk D];refine aD (z (hint-o) 'o' ?_);cases M:b (hint-o) with
    |true=>exact aL ⟨rfl,l,o,rfl,u,p,v,λ_=>M⟩
    |false=>exact aL ⟨rfl,o,2*o+1,rfl,by lia,by lia,by lia,M⟩
  ·rintro c f ⟨L,l,o,rfl,u,B,p,v⟩;subst f;exact⟨rfl,l,o,rfl,u,p,v,λh=>by rw[dD] at B;lia⟩
  ·exact⟨rfl,0,1,rfl,by lia,by lia,by lia,Z⟩
  ·rintro c f ⟨L,l,o,rfl,u,p,v,S⟩;subst f;have N:hint+1-min o (hint+1)<=hint-l:=by lia
   have O:hint-l<=n:=by lia
   have P:∀i,i<hint+1-min o (hint+1)->b i=Jg:=λi a=>by
    have:o<=hint:=by lia
    exact t i (hint-o) 'o' 'o' (S this)
   have C:∀i,hint-l<=i->i<n->b i=Jh:=λi a R=>y (hint-l) i a 'o' R v;show wpS _ _ _ _ (forIn [:n] (Jf,hint+1-min o (hint+1),hint-l) _ >>= _) Q st;generalize hint+1-min o (hint+1)=d at *;generalize hint-l=a at *;exact key _ _ ⟨N,O,P,C⟩
 rintro d a ⟨N,O,P,C⟩;refine aD (c9 (cC (I:=λk c T=>T=st/\∃d a,c=(Jf,d,a)/\d<=a/\a<=n/\a-d<=n-k/\(∀i,i<d->b i=Jg)/\(∀i,a<=i->i<n->b i=Jh)) (Q:=λc T=>T=st/\∃m,c=(Jf,m,m)/\m<=n/\(∀i,i<m->b i=Jg)/\(∀i,m<=i->i<n->b i=Jh)) ?_ ?_ ?_) ?_)
 ·rintro k c U _ xV ⟨rfl,d,a,rfl,g1,G,g3,J,K⟩;show wpS _ _ _ _ (if d ≥ a then _ else _) _ U;by_cases D:d ≥ a
  ·rw[Ji D];have:d=a:=by lia
   subst this;exact aL ⟨rfl,d,rfl,G,J,K⟩
  ·rw[Jk D];refine aD (z (d+(a-d)/2) 'o' ?_);cases sC:b (d+(a-d)/2) with
   |true=>exact aL ⟨rfl,d+(a-d)/2+1,a,rfl,by lia,G,by lia,λi xX=>t i (d+(a-d)/2) 'o' 'o' sC,K⟩
   |false=>exact aL ⟨rfl,d,d+(a-d)/2,rfl,by lia,by lia,by lia,J,λi xX R=>y (d+(a-d)/2) i xX 'o' R sC⟩
 ·rintro c U ⟨rfl,d,a,rfl,g1,G,g3,J,K⟩;rw[dD] at g3;have:d=a:=by lia
  subst this;exact⟨rfl,d,rfl,G,J,K⟩
 ·exact⟨rfl,d,a,rfl,N,O,by lia,P,C⟩
 ·rintro c U ⟨rfl,m,rfl,G,J,K⟩;exact aL (q m G J K)
end
section
variable{κ:aX}
def Le(κ:aX)(x y:a9):Prop:=κ.blt (ky κ y) (ky κ x)=Jh
def Le.refl(x:a9):Le κ x x:=κ.irrefl _
def Le.trans(a:Le κ x y)(b:Le κ y z):Le κ x z:=by
 unfold Le at *;cases e:κ.blt (ky κ z) (ky κ x) with
 |false=>rfl
 | true=>
  rcases κ.negTrans _ (ky κ y) _ e with h|h
  ·rw[b] at h;cases h
  ·rw[a] at h;cases h
def Le.of(h:κ.blt (ky κ x) (ky κ y)=Jg):Le κ x y:=by
 unfold Le;cases e:κ.blt (ky κ y) (ky κ x) with
 |false=>rfl
 | true=>
  have:=κ.trans _ _ _ h e;rw[κ.irrefl] at this;cases this
def pT(κ:aX)(l:List a9):Prop:=l.Pairwise (Le κ)
structure Out(κ:aX)(a b r:List a9):Prop where
 perm:r.Perm (a++b)
 srt:pT κ r
structure Mg(κ:aX)(a b o:List a9)(i j:Nat):Prop where
 perm:o.Perm (a.take i++b.take j)
 srt:pT κ o
 la:∀x∈o,∀y∈a.drop i,Le κ x y
 lb:∀x∈o,∀y∈b.drop j,Le κ x y
variable{a b o:List a9}{i j:Nat}
def Mg.len(h:Mg κ a b o i j)(c:i<=a.length)(d:j<=b.length):o.length=i+j:=by rw[h.perm.length_eq,aw,bS,bS];lia
def RH{α:Type}(l:List α)(i k:Nat){x:α}(h:x∈l.drop (i+k)):x∈l.drop i:=by rw[<- d7] at h;exact cL h
def pT.take_drop(h:pT κ l)(k:Nat):∀x∈l.take k,∀y∈l.drop k,Le κ x y:=by unfold pT at h;rw[<- bO k l,bT] at h;exact h.2.2
def Mg.addA(h:Mg κ a b o i j)(f:pT κ a)(k:Nat)(d:∀y∈(a.drop i).take k,∀z∈b.drop j,Le κ y z):Mg κ a b (o++(a.drop i).take k) (i+k) j:=by
 have e:pT κ (a.drop i):=f.sublist (cQ i a);refine⟨?_,?_,λx hx y c=>?_,λx hx y c=>?_⟩
 ·rw[mY];refine(h.perm.append_right _).trans ?_;rw[ba,ba];exact(cD).append_left _
 ·unfold pT;rw[bT];exact⟨h.srt,e.sublist (cE k _),λx hx y c=>h.la x hx y (cx c)⟩
 ·rcases aK.mp hx with hx|hx
  ·exact h.la x hx y (RH a i k c)
  ·exact e.take_drop k x hx y (by rw[d7];exact c)
 ·rcases aK.mp hx with hx|hx
  ·exact h.lb x hx y c
  ·exact d x hx y c
def Mg.addB(h:Mg κ a b o i j)(f:pT κ b)(k:Nat)(d:∀y∈(b.drop j).take k,∀z∈a.drop i,Le κ y z):Mg κ a b (o++(b.drop j).take k) i (j+k):=by
 have e:pT κ (b.drop j):=f.sublist (cQ j b);refine⟨?_,?_,λx hx y c=>?_,λx hx y c=>?_⟩
 ·rw[mY];refine(h.perm.append_right _).trans ?_;rw[ba]
 ·unfold pT;rw[bT];exact⟨h.srt,e.sublist (cE k _),λx hx y c=>h.lb x hx y (cx c)⟩
 ·rcases aK.mp hx with hx|hx
  ·exact h.la x hx y c
  ·exact d x hx y c
 ·rcases aK.mp hx with hx|hx
  ·exact h.lb x hx y (RH b j k c)
  ·exact e.take_drop k x hx y (by rw[d7];exact c)
def Mg.fin(h:Mg κ a b o i j)(d:pT κ a)(e:pT κ b)(f:∀x∈a.drop i,∀y∈b.drop j,Le κ x y):Out κ a b (o++a.drop i++b.drop j):=by
 refine⟨?_,?_⟩
 ·refine((h.perm.append_right _).append_right _).trans ?_
  conv=>rhs;rw[<- bO i a,<- bO j b]
  simp only[ba];refine f7 _ ?_;rw[<- ba,<- ba];exact cD.append_right _
 ·unfold pT;rw[bT,bT];refine⟨⟨h.srt,d.sublist (cQ i a),h.la⟩,e.sublist (cQ j b),λx g y c=>?_⟩;rcases aK.mp g with h'|h'
  ·exact h.lb x h' y c
  ·exact f x h' y c
def Mg.fin'(h:Mg κ a b o i j)(c:pT κ a)(d:pT κ b)(e:∀y∈b.drop j,∀x∈a.drop i,Le κ y x):Out κ a b (o++b.drop j++a.drop i):=by have f:Mg κ b a o j i:=⟨h.perm.trans cD,h.srt,h.lb,h.la⟩;have:=f.fin d c e;exact⟨this.perm.trans cD,this.srt⟩
def Aq{l:List a9}{i:Nat}{x:a9}(h:l[i]?=Jd x):(l.drop i).take 1=[x]:=by obtain⟨c,rfl⟩:=al.mp h;rw[cO c];rfl
def CW(h:pT κ l)(e:l[i]?=Jd x):∀y∈l.drop i,Le κ x y:=by
 obtain⟨c,rfl⟩:=al.mp e;intro y hy;rw[cO c] at hy;have d:pT κ (l.drop i):=h.sublist (cQ i l);rw[cO c] at d;rcases ar.mp hy with rfl|hy
 ·exact Le.refl _
 ·exact(bw.mp d).1 y hy
end
structure nB(st j_:bH):Prop where
 kind:kindOf j_=kindOf st
 arr:KB j_=KB st
 pend:KF j_=KF st
 failed:failedOf j_=failedOf st
def nB.refl(a:bH):nB a a:=⟨rfl,rfl,rfl,rfl⟩
def nB.trans{a b c:bH}(h:nB a b)(g:nB b c):nB a c:=⟨g.kind.trans h.kind,g.arr.trans h.arr,g.pend.trans h.pend,g.failed.trans h.failed⟩
section
variable{prog:aQ}{w:a8}{A:be}{E:ae->ag->Prop}{s:ag}{κ:aX}{st:bH}{kd:KT}
def vE{a:Array a9}{i:Nat}(h:i<a.size):∃x,a[i]?=Jd x/\a.toList[i]?=Jd x:=⟨a[i],by simp[h],by simp[h]⟩
def Ra{M:iw}{f:bH->bH}{Q:PUnit->bH->Prop}(b:nB st (f st))(h:∀a,nB st a->Q ⟨⟩ a):wpS M A E s (modify f) Q st:=fg (h _ b)
def G9(a:Array a9)(i:Nat):(a.extract i).toList=a.toList.drop i:=by simp only[kJ,ju];exact cM 'd'
def Kg(a:Array a9)(i k:Nat):(a.extract i (i+k)).toList=(a.toList.drop i).take k:=by simp
def OW{a b:List a9}{out:Array a9}{c d:Nat}{x:a9}(m:Mg κ a b out.toList c d)(f:pT κ a)(e:a[c]?=Jd x)(h:∀z∈b.drop d,Le κ x z):Mg κ a b (out.push x).toList (c+1) d:=by have:=m.addA f 1 (by rw[Aq e];intro y g;rw[dE.mp g];exact h);rw[Aq e] at this;rw[fW];exact this
def OQ{a b:List a9}{out:Array a9}{c d:Nat}{x:a9}(m:Mg κ a b out.toList c d)(f:pT κ b)(e:b[d]?=Jd x)(h:∀z∈a.drop c,Le κ x z):Mg κ a b (out.push x).toList c (d+1):=by have:=m.addB f 1 (by rw[Aq e];intro y g;rw[dE.mp g];exact h);rw[Aq e] at this;rw[fW];exact this
def C1(C:uZ prog w A s κ kd){left:Bool}{key:a9}{c:Array a9}{base n hint:Nat}{L:List a9}(B:(c.toList.drop base).take n=L)(D:kindOf st=kd)(F:sF κ key)(O:base+n<=c.size)(G:hint<n)(r:∀x∈L,sF κ x)(t:pT κ L)
  {Q:Option Nat->bH->Prop} (q:∀k,k<=n->(∀x∈L.take k,sN κ left key x=Jg)->(∀x∈L.drop k,sN κ left key x=Jh)->Q (Jd k) st):wpS (aC prog w) A E s ((nM.g parts) left key c base n hint) Q st:=by
 have H:L.length=n:=by
  rw[<- B,bS,cb,aI];lia
 have l:∀i,i<n->∃x,c[base+i]?=Jd x/\L[i]?=Jd x:=λi d=>by
  obtain⟨x,u,f⟩:=vE (a:=c) (i:=base+i) 'o';refine⟨x,u,?_⟩;rw[<- B,fo d,lD];exact f
 refine ZU C (b:=λi=>match L[i]? with|some x=>sN κ left key x|none=>Jh) D F (λi d=>?_) G (λi j P I e=>?_) λk J K M=>q k J (λx m=>?_) λx m=>?_
 ·obtain⟨x,u,f⟩:=l i d;exact⟨x,u,r x (aN f),by rw[f]⟩
 ·obtain⟨x,_,m⟩:=l i 'o';obtain⟨y,_,p⟩:=l j I;rw[p] at e;rw[m]
  replace e:sN κ left key y=Jg:=e
  show sN κ left key x=Jg;by_cases h:i=j
  ·subst h;rw[m] at p;cases p;exact e
  have o:Le κ x y:=by
   obtain⟨v,rfl⟩:=al.mp m;obtain⟨z,rfl⟩:=al.mp p;exact dr.mp t i j v z 'o'
  unfold sN at e ⊢;cases left with
  | true=>
   rw[Ji rfl] at e ⊢;rcases κ.negTrans _ (ky κ x) _ e with h|h
   ·rw[show κ.blt (ky κ y) (ky κ x)=Jh from o] at h;cases h
   ·exact h
  | false=>
   rw[Jk 's'] at e ⊢;have N:Le κ y key:=by unfold Le;simpa using e
   have:Le κ x key:=o.trans N;unfold Le at this;rw[this];rfl
 ·obtain⟨i,d,e⟩:=kY m;have v:i<k:=by rw[bS] at d;lia
  have:=K i v;have f:L[i]?=Jd x:=by rw[<- e,lZ];exact ao (by rw[bS] at d;lia)
  rw[f] at this;exact this
 ·obtain⟨i,d,e⟩:=kY m;rw[cb] at d;have:=M (k+i) 'o' 'o';have f:L[k+i]?=Jd x:=by rw[<- e,l5];exact ao 'o'
  rw[f] at this;exact this
def Oq{α:Type}{G:Prop}(P:α->Prop)(h:(∀x,P x)->G)(k:∀x,P x):G:=h k
def X5(ho:uZ prog w A s κ kd){a b:Array a9}(hk:kindOf st=kd)(ha:∀x∈a.toList,sF κ x)(hb:∀x∈b.toList,sF κ x)(U:pT κ a.toList)(R:pT κ b.toList)(pa:1<=a.size)(pb:1<=b.size)
  (h0:∀x∈b.toList.take 1,∀y∈a.toList,Le κ x y) (hl:∀y∈b.toList,∀x∈a.toList.drop (a.size-1),Le κ y x) {Q:Array a9->bH->Prop} (q:∀r D,nB st D->Out κ a.toList b.toList r.toList->Q r D):wpS (aC prog w) A E s ((nM.lo parts) a b) Q st:=by
 have MI:a.toList.length=a.size:=aI;have MH:b.toList.length=b.size:=aI;have rP:∀{l:Array a9}{d f:Nat},Mg κ a.toList b.toList l.toList d f->(f=b.size\/d=a.size)->Out κ a.toList b.toList (l++a.extract d++b.extract f).toList:=λ{l d f}m h=>by
  rw[bJ,bJ,G9,G9];refine m.fin U R λx n y N=>?_;rcases h with rfl|rfl
  ·rw[eI 'o'] at N;cases N
  ·rw[eI 'o'] at n;cases n
 have rO:∀{l:Array a9}{d f:Nat},Mg κ a.toList b.toList l.toList d f->d+1=a.size->Out κ a.toList b.toList (l++b.extract f++a.extract d).toList:=λ{l d f}m h=>by
  rw[bJ,bJ,G9,G9];refine m.fin' U R λy N x n=>hl y (cL N) x ?_;have:a.size-1=d:=by lia
  rw[this];exact n
 obtain⟨b0,g0,l0⟩:=vE (a:=b) (i:=0) 'o';have m0:Mg κ a.toList b.toList (#[b0]:Array a9).toList 0 1:=by
  have e:b.toList.take 1=[b0]:=by
   have:=Aq l0;simpa using this
  refine⟨by rw[e];exact d8 _,jL _ _,λx n y N=>h0 x (by rw[e];exact n) y N,λx n y N=>?_⟩;have:x=b0:=⇑n
  subst this;exact CW R l0 y (cL N)
 show wpS _ _ _ _ (_ >>= _) Q st;refine aD (iU (dF ⟨rfl,aD (rU g0 ?_)⟩));by_cases c1:1=b.size
 ·show wpS _ _ _ _ (if (1==b.size)=Jg then _ else _) Q st;rw[Ji ⇑c1];exact aL (q _ st (nB.refl st) (rP m0 (.inl c1)))
 show wpS _ _ _ _ (if (1==b.size)=Jg then _ else _) Q st;rw[Jk ⇑c1];by_cases c2:1=a.size
 ·show wpS _ _ _ _ (if (0+1==a.size)=Jg then _ else _) Q st;rw[Ji ⇑c2];exact aL (q _ st (nB.refl st) (rO m0 'o'))
 show wpS _ _ _ _ (if (0+1==a.size)=Jg then _ else _) Q st;rw[Jk ⇑c2];refine aD (gm (aD (c9 (cC (I:=λk c D=>nB st D/\∃l d f G,c=(Jf,l,d,f,G)/\Mg κ a.toList b.toList l.toList d f/\d+1<a.size/\f<b.size/\k+1<=l.size) (Q:=λc D=>nB st D/\∃r,c.1=Jd r/\Out κ a.toList b.toList r.toList) ?_ ?_ ?_) ?_)))
 ·rintro k c p_ _ hkt ⟨sm,l,d,f,G,rfl,m,J,F,c5⟩;have FX:kindOf p_=kd:=sm.kind.trans hk;refine aD (c9 (cC (I:=λj c D=>D=p_/\∃o d f t v,c=(Jf,o,d,f,t,v)/\Mg κ a.toList b.toList o.toList d f/\d+1<a.size/\f<b.size/\l.size+j<=o.size) (Q:=λc D=>D=p_/\((∃r,c.1=Jd r/\Out κ a.toList b.toList r.toList) \/ ∃o d f t v,c=(Jf,o,d,f,t,v)/\Mg κ a.toList b.toList o.toList d f/\d+1<a.size/\f<b.size/\l.size+1<=o.size)) ?_ ?_ ?_) ?_)
  ·rintro j c pJ _ Ng ⟨rfl,o,d,f,t,v,rfl,m,J,F,c6⟩;obtain⟨y,gy,X⟩:=vE (a:=b) F;obtain⟨x,gx,S⟩:=vE (a:=a) (i:=d) 'o';refine aD (rU gy (aD (rU gx (aD (Ed ho FX (hb y (aN X)) (ha x (aN S)) ?_)))));cases hc:κ.blt (ky κ y) (ky κ x) with
   | true=>
    have Y:=OQ m R X λz K=>(Le.of hc).trans (CW U S z K);refine aD (rU gy ?_);show wpS _ _ _ _ (if (f+1==b.size)=Jg then _ else _) _ pJ;by_cases e:f+1=b.size
    ·rw[Ji ⇑e];exact aL ⟨rfl,.inl ⟨_,rfl,rP Y (.inl e)⟩⟩
    ·rw[Jk ⇑e];split
     ·exact aL ⟨rfl,.inr ⟨o.push y,d,f+1,0,v+1,rfl,Y,J,by lia,by rw[bZ];lia⟩⟩
     ·exact aL ⟨rfl,o.push y,d,f+1,0,v+1,rfl,Y,J,by lia,by rw[bZ];lia⟩
   | false=>
    have Y:=OW m U S λz K=>Le.trans (show Le κ x y from hc) (CW R X z K);refine aD (rU gx ?_);show wpS _ _ _ _ (if (d+1+1==a.size)=Jg then _ else _) _ pJ;by_cases e:d+1+1=a.size
    ·rw[Ji ⇑e];exact aL ⟨rfl,.inl ⟨_,rfl,rO Y e⟩⟩
    ·rw[Jk ⇑e];split
     ·exact aL ⟨rfl,.inr ⟨o.push x,d+1,f,t+1,0,rfl,Y,by lia,F,by rw[bZ];lia⟩⟩
     ·exact aL ⟨rfl,o.push x,d+1,f,t+1,0,rfl,Y,by lia,F,by rw[bZ];lia⟩
  ·rintro c pJ ⟨rfl,o,d,f,t,v,rfl,m,J,F,c6⟩;have:=m.len 'o' 'o';rw[aI] at this;rw[dD] at c6;lia
  ·exact⟨rfl,l,d,f,0,0,rfl,m,J,F,by lia⟩
  rintro c pJ ⟨rfl,h⟩;rcases h with⟨r,e,hr⟩|⟨o,d,f,t,v,rfl,m,J,F,c6⟩
  ·obtain⟨c,c'⟩:=c;dsimp only at e;subst e;exact aL ⟨sm,r,rfl,hr⟩
  refine aD (iU (dF ⟨rfl,aD (c9 (cC (I:=λj c D=>nB st D/\∃B d f G t v,c=(Jf,B,d,f,G,t,v)/\Mg κ a.toList b.toList B.toList d f/\d+1<a.size/\f<b.size/\o.size+j<=B.size) (Q:=λc D=>nB st D/\((∃r,c.1=Jd r/\Out κ a.toList b.toList r.toList) \/ ∃B d f G t v,c=(Jf,B,d,f,G,t,v)/\Mg κ a.toList b.toList B.toList d f/\d+1<a.size/\f<b.size/\o.size<=B.size)) ?_ ?_ ?_) ?_)⟩))
  ·rintro j c pk _ Ng ⟨T,B,d,f,G,t,v,rfl,m,J,F,c6⟩;obtain⟨y,gy,X⟩:=vE (a:=b) F;have N:=hb y (aN X);have Cc:∀M,nB st M->∀{Q:Option Nat->bH->Prop},(∀k,k<=a.size-d->(∀x∈(a.toList.drop d).take k,Le κ x y)->(∀x∈a.toList.drop (d+k),Le κ y x)->Q (Jd k) M)->wpS (aC prog w) A E s ((nM.g parts) Jh y a d (a.size-d) 0) Q M:=λM s4 Q h=>
    C1 ho (L:=a.toList.drop d) (cM (by rw[cb];lia)) (s4.kind.trans hk) N 'o' 'o' (λx n=>ha x (cL n)) (U.sublist (cQ d _)) λk h1 h2 h3=>h k h1 (λx n=>by
     have:=h2 x n;unfold sN at this;rw[Jk 's'] at this;unfold Le;simpa using this) λx n=>by
     rw[<- d7] at n;have:=h3 x n;unfold sN at this;rw[Jk 's'] at this;exact Le.of ⇑this
   have Cb:∀x{C:Nat},a.toList[C]?=Jd x->∀M,nB st M->f+1<b.size->∀{Q:Option Nat->bH->Prop},(∀k,k<=b.size-(f+1)->(∀z∈(b.toList.drop (f+1)).take k,Le κ z x)->(∀z∈b.toList.drop (f+1+k),Le κ x z)->Q (Jd k) M)->wpS (aC prog w) A E s ((nM.g parts) Jg x b (f+1) (b.size-(f+1)) 0) Q M:=λx C S M s4 h4 Q h=>
    C1 ho (L:=b.toList.drop (f+1)) (cM (by rw[cb];lia)) (s4.kind.trans hk) (ha x (aN S)) 'o' 'o' (λx n=>hb x (cL n)) (R.sublist (cQ _ _)) λk h1 h2 h3=>h k h1 (λz K=>by
     have:=h2 z K;unfold sN at this;rw[Ji rfl] at this;exact Le.of this) λz K=>by
     rw[<- d7] at K;have:=h3 z K;unfold sN at this;rw[Ji rfl] at this;exact this
   show wpS _ _ _ _ (if G>1 then _ else _) _ pk;apply Oq (α:=Nat)
   ·intro p;split
    ·generalize G-1=Ft;exact p Ft
    ·exact p G
   intro Ft;refine aD (Ra ⟨rfl,rfl,rfl,rfl⟩ λM s4=>aD (rU gy (aD (Cc M (T.trans s4) ?_))));have V:=T.trans s4;intro k xV kt kf;have m3:=m.addA U k λx n z K=>(kt x n).trans (CW R X z K);rw[<- Kg,<- bJ] at m3;have n3:B.size<=(B++a.extract d (d+k)).size:=by rw[fV];lia
   show wpS _ _ _ _ (if k>0 then _ else _) _ _;apply DW (H:=λ(O:Array a9)(C:Nat)=>Mg κ a.toList b.toList O.toList C f/\B.size<=O.size/\C+1<a.size/\∀x∈a.toList.drop C,Le κ y x)
   ·intro p;by_cases vQ:k>0
    ·rw[Ji vQ];show wpS _ _ _ _ (if (d+k+1==a.size)=Jg then _ else _) _ _;by_cases e1:d+k+1=a.size
     ·rw[Ji ⇑e1];exact aL ⟨V,.inl ⟨_,rfl,rO m3 e1⟩⟩
     ·rw[Jk ⇑e1];show wpS _ _ _ _ (if (d+k==a.size)=Jg then _ else _) _ _;by_cases e2:d+k=a.size
      ·rw[Ji ⇑e2];exact aL ⟨V,.inl ⟨_,rfl,rP m3 (.inr e2)⟩⟩
      ·rw[Jk ⇑e2];have Z:=eN m3 (eN n3 (eN (show d+k+1<a.size by lia) kf));generalize B++a.extract d (d+k)=O at Z ⊢;generalize d+k=C at Z ⊢;exact p O C Z
    ·rw[Jk vQ];have uX:k=0:=by lia
     rw[uX,Nat.add_zero] at kf;exact p B d ⟨m,aE _,J,kf⟩
   rintro O C ⟨m3,n3,f3,AF⟩;have m4:=OQ m3 R X AF;refine aD (rU gy ?_);show wpS _ _ _ _ (if (f+1==b.size)=Jg then _ else _) _ _;by_cases e3:f+1=b.size
   ·rw[Ji ⇑e3];exact aL ⟨V,.inl ⟨_,rfl,rP m4 (.inl e3)⟩⟩
   ·rw[Jk ⇑e3];obtain⟨x,gx,S⟩:=vE (a:=a) (i:=C) 'o';refine aD (rU gx (aD (Cb x S _ V 'o' ?_)));intro P rz MK AG;have m5:=m4.addB R P λz K u hu=>(MK z K).trans (CW U S u hu);rw[<- Kg,<- bJ] at m5;have n5:O.size+1<=(O.push y++b.extract (f+1) (f+1+P)).size:=by rw[fV,bZ];lia
    show wpS _ _ _ _ (if P>0 then _ else _) _ _;apply DW (H:=λ(uT:Array a9)(W:Nat)=>Mg κ a.toList b.toList uT.toList C W/\O.size+1<=uT.size/\W<b.size/\∀z∈b.toList.drop W,Le κ x z)
    ·intro p;by_cases vQ:P>0
     ·rw[Ji vQ];show wpS _ _ _ _ (if (f+1+P==b.size)=Jg then _ else _) _ _;by_cases e4:f+1+P=b.size
      ·rw[Ji ⇑e4];exact aL ⟨V,.inl ⟨_,rfl,rP m5 (.inl e4)⟩⟩
      ·rw[Jk ⇑e4];have Z:=eN m5 (eN n5 (eN (show f+1+P<b.size by lia) AG));generalize O.push y++b.extract (f+1) (f+1+P)=uT at Z ⊢;generalize f+1+P=W at Z ⊢;exact p uT W Z
     ·rw[Jk vQ];have uX:P=0:=by lia
      rw[uX,Nat.add_zero] at AG;exact p (O.push y) (f+1) ⟨m4,by rw[bZ];exact aE _,by lia,AG⟩
    rintro uT W ⟨m5,n5,f5,AG⟩;have m6:=OW m5 U S AG;refine aD (rU gx ?_);show wpS _ _ _ _ (if (C+1+1==a.size)=Jg then _ else _) _ _;by_cases e5:C+1+1=a.size
    ·rw[Ji ⇑e5];exact aL ⟨V,.inl ⟨_,rfl,rO m6 e5⟩⟩
    ·rw[Jk ⇑e5];split
     ·exact aL ⟨V,.inr ⟨uT.push x,C+1,W,_,_,_,rfl,m6,by lia,f5,by rw[bZ];lia⟩⟩
     ·exact aL ⟨V,uT.push x,C+1,W,_,_,_,rfl,m6,by lia,f5,by rw[bZ];lia⟩
  ·rintro c pk ⟨T,B,d,f,G,t,v,rfl,m,J,F,c6⟩;have:=m.len 'o' 'o';rw[aI] at this;rw[dD] at c6;lia
  ·exact⟨sm,o,d,f,_,t,v,rfl,m,J,F,by lia⟩
  rintro c pk ⟨T,h⟩;rcases h with⟨r,e,hr⟩|⟨B,d,f,G,t,v,rfl,m,J,F,c7⟩
  ·obtain⟨c,c'⟩:=c;dsimp only at e;subst e;exact aL ⟨T,r,rfl,hr⟩
  ·exact aD (fg (aL ⟨⟨T.kind,T.arr,T.pend,T.failed⟩,B,d,f,_,rfl,m,J,F,by lia⟩))
 ·rintro c p_ ⟨sm,l,d,f,G,rfl,m,J,F,c5⟩;have:=m.len 'o' 'o';rw[aI] at this;rw[dD] at c5;lia
 ·exact⟨nB.refl st,#[b0],0,1,_,rfl,m0,by lia,by lia,by simp⟩
 ·rintro⟨c,c'⟩ p_ ⟨sm,r,e,hr⟩;dsimp only at e;subst e;exact aL (q r p_ sm hr)
end
section
variable{κ:aX}
structure Mh(κ:aX)(a b o:List a9)(i j:Nat):Prop where
 perm:o.Perm (a.drop i++b.drop j)
 srt:pT κ o.reverse
 la:∀x∈a.take i,∀y∈o,Le κ x y
 lb:∀x∈b.take j,∀y∈o,Le κ x y
variable{a b o:List a9}{i j:Nat}
def Mh.len(h:Mh κ a b o i j):o.length=(a.length-i)+(b.length-j):=by rw[h.perm.length_eq,aw,cb,cb]
def ziJ{α:Type}{l:List α}{i k:Nat}(h:k<=i){x:α}(c:x∈l.take k):x∈l.take i:=by
 have:l.take k=(l.take i).take k:=by rw[f8,fN h]
 rw[this] at c;exact cx c
def zfU{α:Type}(l:List α)(h:k<=i):l.drop k=(l.take i).drop k++l.drop i:=by
 by_cases c:i<=l.length
 ·conv=>lhs;rw[<- bO i l]
  rw[eo (by rw[bS];lia)]
 ·rw[cM 'o',eI (i:=i) 'o',bF]
def pT.mid(h:pT κ l)(d:k<=i):∀x∈l.take k,∀y∈(l.take i).drop k,Le κ x y:=by
 have e:pT κ (l.take i):=h.sublist (cE i l);intro x c y f;have:l.take k=(l.take i).take k:=by rw[f8,fN d]
 rw[this] at c;exact e.take_drop k x c y f
def Mh.addA(h:Mh κ a b o i j)(f:pT κ a){k:Nat}(d:k<=i)(e:∀z∈b.take j,∀y∈(a.take i).drop k,Le κ z y):Mh κ a b (o++((a.take i).drop k).reverse) k j:=by
 refine⟨?_,?_,λx c y hy=>?_,λx c y hy=>?_⟩
 ·rw[zfU a d];refine(h.perm.append (l7 _)).trans ?_;rw[ba];refine cD.trans ?_;rw[ba];exact cD
 ·rw[List.reverse_append,List.reverse_reverse];unfold pT;rw[bT];exact⟨(f.sublist (cE i a)).sublist (cQ k _),h.srt,λx c y hy=>h.la x (cL c) y (gf.mp hy)⟩
 ·rcases aK.mp hy with hy|hy
  ·exact h.la x (ziJ d c) y hy
  ·exact f.mid d x c y (gf.mp hy)
 ·rcases aK.mp hy with hy|hy
  ·exact h.lb x c y hy
  ·exact e x c y (gf.mp hy)
def Mh.swap(h:Mh κ a b o i j):Mh κ b a o j i:=⟨h.perm.trans cD,h.srt,h.lb,h.la⟩
def Mh.addB(h:Mh κ a b o i j)(d:pT κ b)(e:k<=j)(c:∀z∈a.take i,∀y∈(b.take j).drop k,Le κ z y):Mh κ a b (o++((b.take j).drop k).reverse) i k:=(h.swap.addA d e c).swap
def Mh.fin(h:Mh κ a b o i j)(d:pT κ a)(e:pT κ b)(f:∀x∈a.take i,∀y∈b.take j,Le κ x y):Out κ a b (a.take i++b.take j++o.reverse):=by
 refine⟨?_,?_⟩
 ·refine(((l7 o).trans h.perm).append_left _).trans ?_
  conv=>rhs;rw[<- bO i a,<- bO j b]
  simp only[ba];refine f7 _ ?_;rw[<- ba,<- ba];exact cD.append_right _
 ·unfold pT;rw[bT,bT];refine⟨⟨d.sublist (cE i a),e.sublist (cE j b),f⟩,h.srt,λx g y c=>?_⟩;rcases aK.mp g with h'|h'
  ·exact h.la x h' y (gf.mp c)
  ·exact h.lb x h' y (gf.mp c)
def Mh.fin'(h:Mh κ a b o i j)(c:pT κ a)(d:pT κ b)(e:∀y∈b.take j,∀x∈a.take i,Le κ y x):Out κ a b (b.take j++a.take i++o.reverse):=by have:=h.swap.fin d c e;exact⟨this.perm.trans cD,this.srt⟩
def EF{l:List a9}{i:Nat}{x:a9}(h:l[i]?=Jd x):(l.take (i+1)).drop i=[x]:=by obtain⟨c,rfl⟩:=al.mp h;rw[mO,cI,cO c];rfl
def El{l:List a9}(h:pT κ l){i:Nat}{x:a9}(c:l[i]?=Jd x):∀y∈l.take (i+1),Le κ y x:=by
 intro y hy;have e:=EF c;have:l.take (i+1)=l.take i++[x]:=by
  rw[km,c];rfl
 rw[this] at hy;rcases aK.mp hy with hy|hy
 ·exact h.mid (d9 i) y hy x (by rw[e];simp)
 ·rw[dE.mp hy];exact Le.refl _
def Hb{out:Array a9}{x:a9}(m:Mh κ a b out.toList (i+1) j)(d:pT κ a)(c:a[i]?=Jd x)(h:∀z∈b.take j,Le κ z x):Mh κ a b (out.push x).toList i j:=by have:=m.addA d (k:=i) 'o' (by rw[EF c];intro z e y f;rw[dE.mp f];exact h z e);rw[EF c] at this;rw[fW];exact this
def PQ{out:Array a9}{x:a9}(m:Mh κ a b out.toList i (j+1))(d:pT κ b)(c:b[j]?=Jd x)(h:∀z∈a.take i,Le κ z x):Mh κ a b (out.push x).toList i j:=by have:=m.addB d (k:=j) 'o' (by rw[EF c];intro z e y f;rw[dE.mp f];exact h z e);rw[EF c] at this;rw[fW];exact this
def GK(a:Array a9)(i:Nat):(a.extract 0 i).toList=a.toList.take i:=by simp
def OX(a:Array a9)(k i:Nat):((a.extract k i).reverse).toList=((a.toList.take i).drop k).reverse:=by simp[mO]
end
section
variable{prog:aQ}{w:a8}{A:be}{E:ae->ag->Prop}{s:ag}{κ:aX}{st:bH}{kd:KT}
def Hm{n:Nat}{o:Array a9}{x:a9}(h:n<=o.size):n+1<=(o.push x).size:=by rw[bZ];lia
def Yc(ho:uZ prog w A s κ kd)(hk:kindOf st=kd)(ha:∀x∈a.toList,sF κ x)(hb:∀x∈b.toList,sF κ x)(U:pT κ a.toList)(Y:pT κ b.toList)(pa:1<=a.size)(pb:1<=b.size)
  (h0:∀x∈b.toList.take 1,∀y∈a.toList,Le κ x y) (hl:∀y∈b.toList,∀x∈a.toList.drop (a.size-1),Le κ y x) {Q:Array a9->bH->Prop} (q:∀r D,nB st D->Out κ a.toList b.toList r.toList->Q r D):wpS (aC prog w) A E s ((nM.hi parts) a b) Q st:=by
 have MI:a.toList.length=a.size:=aI;have MH:b.toList.length=b.size:=aI;have rP:∀{l:Array a9}{d f:Nat},Mh κ a.toList b.toList l.toList d f->(d=0\/f=0)->Out κ a.toList b.toList (a.extract 0 d++b.extract 0 f++l.reverse).toList:=λ{l d f}m h=>by
  rw[bJ,bJ,GK,GK,kK];refine m.fin U Y λx P y W=>?_;rcases h with rfl|rfl
  ·cases P
  ·cases W
 have rO:∀{l:Array a9}{d f:Nat},Mh κ a.toList b.toList l.toList d f->f=1->Out κ a.toList b.toList (b.extract 0 f++a.extract 0 d++l.reverse).toList:=λ{l d f}m h=>by
  rw[bJ,bJ,GK,GK,kK];subst h;exact m.fin' U Y λy W x P=>h0 y W x (cx P)
 obtain⟨x0,g0,l0⟩:=vE (a:=a) (i:=a.size-1) 'o';have m0:Mh κ a.toList b.toList (#[x0]:Array a9).toList (a.size-1) b.size:=by
  have m00:Mh κ a.toList b.toList (#[]:Array a9).toList (a.size-1+1) b.size:=by
   refine⟨?_,eZ,(λx _ y W=>nomatch W),(λx _ y W=>nomatch W)⟩;rw[eI 'o',eI 'o'];exact d8 _
  exact Hb m00 U l0 λz F=>hl z (cx F) x0 (by
   have:=Aq l0;exact cx (by rw[this];simp:x0∈(a.toList.drop (a.size-1)).take 1))
 show wpS _ _ _ _ (_ >>= _) Q st;refine aD (iU (dF ⟨rfl,aD (rU g0 ?_)⟩));show wpS _ _ _ _ (if (a.size-1==0)=Jg then _ else _) Q st;by_cases c1:a.size-1=0
 ·rw[Ji ⇑c1];exact aL (q _ st (nB.refl st) (rP m0 (.inl c1)))
 rw[Jk ⇑c1];show wpS _ _ _ _ (if (b.size==1)=Jg then _ else _) Q st;by_cases c2:b.size=1
 ·rw[Ji ⇑c2];exact aL (q _ st (nB.refl st) (rO m0 c2))
 rw[Jk ⇑c2];refine aD (gm (aD (c9 (cC (I:=λk c D=>nB st D/\∃d f l G,c=(Jf,d,f,l,G)/\Mh κ a.toList b.toList l.toList d f/\1<=d/\d<=a.size/\2<=f/\f<=b.size/\k+1<=l.size) (Q:=λc D=>nB st D/\∃r,c.1=Jd r/\Out κ a.toList b.toList r.toList) ?_ ?_ ?_) ?_)))
 ·rintro k c p_ _ hkt ⟨sm,d,f,l,G,rfl,m,J,K,N,O,c5⟩;have FX:kindOf p_=kd:=sm.kind.trans hk;refine aD (c9 (cC (I:=λj c D=>D=p_/\∃d f o v B,c=(Jf,d,f,o,v,B)/\Mh κ a.toList b.toList o.toList d f/\1<=d/\d<=a.size/\2<=f/\f<=b.size/\l.size+j<=o.size) (Q:=λc D=>D=p_/\((∃r,c.1=Jd r/\Out κ a.toList b.toList r.toList) \/ ∃d f o v B,c=(Jf,d,f,o,v,B)/\Mh κ a.toList b.toList o.toList d f/\1<=d/\d<=a.size/\2<=f/\f<=b.size/\l.size+1<=o.size)) ?_ ?_ ?_) ?_)
  ·rintro j c pJ _ Ng ⟨rfl,d,f,o,v,B,rfl,m,J,K,N,O,c6⟩;obtain⟨p,rfl⟩:∃p,d=p+1:=⟨d-1,by lia⟩;obtain⟨r,rfl⟩:∃r,f=r+1:=⟨f-1,by lia⟩;obtain⟨y,gy,Z⟩:=vE (a:=b) (i:=r) 'o';obtain⟨x,gx,V⟩:=vE (a:=a) (i:=p) 'o';refine aD (rU gy (aD (rU gx (aD (Ed ho FX (hb y (aN Z)) (ha x (aN V)) ?_)))));cases hc:κ.blt (ky κ y) (ky κ x) with
   | true=>
    have m':=Hb m U V λz F=>(El Y Z z F).trans (Le.of hc);refine aD (rU gx ?_);show wpS _ _ _ _ (if (p==0)=Jg then _ else _) _ pJ;by_cases e:p=0
    ·rw[Ji ⇑e];exact aL ⟨rfl,.inl ⟨_,rfl,rP m' (.inl e)⟩⟩
    ·rw[Jk ⇑e];split
     ·exact aL ⟨rfl,.inr ⟨p,r+1,o.push x,v+1,0,rfl,m',by lia,by lia,N,O,by rw[bZ];lia⟩⟩
     ·exact aL ⟨rfl,p,r+1,o.push x,v+1,0,rfl,m',by lia,by lia,N,O,by rw[bZ];lia⟩
   | false=>
    have m':=PQ m Y Z λz F=>(El U V z F).trans (show Le κ x y from hc);refine aD (rU gy ?_);show wpS _ _ _ _ (if (r==1)=Jg then _ else _) _ pJ;by_cases e:r=1
    ·rw[Ji ⇑e];exact aL ⟨rfl,.inl ⟨_,rfl,rO m' e⟩⟩
    ·rw[Jk ⇑e];split
     ·exact aL ⟨rfl,.inr ⟨p+1,r,o.push y,0,B+1,rfl,m',J,K,by lia,by lia,by rw[bZ];lia⟩⟩
     ·exact aL ⟨rfl,p+1,r,o.push y,0,B+1,rfl,m',J,K,by lia,by lia,by rw[bZ];lia⟩
  ·rintro c pJ ⟨rfl,d,f,o,v,B,rfl,m,J,K,N,O,c6⟩;have:=m.len;rw[aI] at this;rw[dD] at c6;lia
  ·exact⟨rfl,d,f,l,0,0,rfl,m,J,K,N,O,by lia⟩
  rintro c pJ ⟨rfl,h⟩;rcases h with⟨r,e,hr⟩|⟨d,f,o,v,B,rfl,m,J,K,N,O,c6⟩
  ·obtain⟨c,c'⟩:=c;dsimp only at e;subst e;exact aL ⟨sm,r,rfl,hr⟩
  refine aD (iU (dF ⟨rfl,aD (c9 (cC (I:=λj c D=>nB st D/\∃d f C G v B,c=(Jf,d,f,C,G,v,B)/\Mh κ a.toList b.toList C.toList d f/\1<=d/\d<=a.size/\2<=f/\f<=b.size/\o.size+j<=C.size) (Q:=λc D=>nB st D/\((∃r,c.1=Jd r/\Out κ a.toList b.toList r.toList) \/ ∃d f C G v B,c=(Jf,d,f,C,G,v,B)/\Mh κ a.toList b.toList C.toList d f/\1<=d/\d<=a.size/\2<=f/\f<=b.size/\o.size<=C.size)) ?_ ?_ ?_) ?_)⟩))
  ·rintro j c pk _ Ng ⟨X,d,f,C,G,v,B,rfl,m,J,K,N,O,c6⟩;obtain⟨r,rfl⟩:∃r,f=r+1:=⟨f-1,by lia⟩;obtain⟨y,gy,Z⟩:=vE (a:=b) (i:=r) 'o';have W:=hb y (aN Z);have Cc:∀R,nB st R->∀{Q:Option Nat->bH->Prop},(∀k,k<=d->(∀x∈a.toList.take k,Le κ x y)->(∀x∈(a.toList.take d).drop k,Le κ y x)->Q (Jd k) R)->wpS (aC prog w) A E s ((nM.g parts) Jh y a 0 d (d-1)) Q R:=λR s4 Q h=>
    C1 ho (L:=a.toList.take d) (by rw[kn]) (s4.kind.trans hk) W 'o' 'o' (λx P=>ha x (cx P)) (U.sublist (cE d _)) λk h1 h2 h3=>h k h1 (λx P=>by
     have:=h2 x (by rw[f8,fN h1];exact P);unfold sN at this;rw[Jk 's'] at this;unfold Le;simpa using this) λx P=>by
     have:=h3 x P;unfold sN at this;rw[Jk 's'] at this;exact Le.of ⇑this
   have Cb:∀x{n:Nat},a.toList[n]?=Jd x->∀R,nB st R->1<=r->∀{Q:Option Nat->bH->Prop},(∀k,k<=r->(∀z∈(b.toList.take r).drop k,Le κ x z)->(∀z∈b.toList.take k,Le κ z x)->Q (Jd k) R)->wpS (aC prog w) A E s ((nM.g parts) Jg x b 0 r (r-1)) Q R:=λx n V R s4 h4 Q h=>
    C1 ho (L:=b.toList.take r) (by rw[kn]) (s4.kind.trans hk) (ha x (aN V)) 'o' 'o' (λx P=>hb x (cx P)) (Y.sublist (cE _ _)) λk h1 h2 h3=>h k h1 (λz F=>by
     have:=h3 z F;unfold sN at this;rw[Ji rfl] at this;exact this) λz F=>by
     have:=h2 z (by rw[f8,fN h1];exact F);unfold sN at this;rw[Ji rfl] at this;exact Le.of this
   show wpS _ _ _ _ (if G>1 then _ else _) _ pk;apply Oq (α:=Nat)
   ·intro S;split
    ·generalize G-1=Ft;exact S Ft
    ·exact S G
   intro Ft;refine aD (Ra ⟨rfl,rfl,rfl,rfl⟩ λR s4=>aD (rU gy (aD (Cc R (X.trans s4) ?_))));have T:=X.trans s4;intro k xV AF kt;have m3:=m.addA U xV λz F u hu=>(El Y Z z F).trans (kt u hu);rw[<- OX,<- bJ] at m3;have n3:C.size<=(C++(a.extract k d).reverse).size:=by rw[fV];lia
   show wpS _ _ _ _ (if d-k>0 then _ else _) _ _;apply DW (H:=λ(M:Array a9)(BH:Nat)=>Mh κ a.toList b.toList M.toList BH (r+1)/\C.size<=M.size/\1<=BH/\BH<=a.size/\∀x∈a.toList.take BH,Le κ x y)
   ·intro S;by_cases vQ:d-k>0
    ·rw[Ji vQ];show wpS _ _ _ _ (if (k==0)=Jg then _ else _) _ _;by_cases e1:k=0
     ·rw[Ji ⇑e1];exact aL ⟨T,.inl ⟨_,rfl,rP m3 (.inl e1)⟩⟩
     ·rw[Jk ⇑e1];have hh:=eN m3 (eN n3 (eN (show 1<=k by lia) (eN (show k<=a.size by lia) AF)));generalize C++(a.extract k d).reverse=M at hh ⊢;generalize k=q3 at hh ⊢;exact S M q3 hh
    ·rw[Jk vQ];have uX:k=d:=by lia
     rw[uX] at AF ⊢;exact S C d ⟨m,aE _,J,K,AF⟩
   rintro M BH ⟨m3,n3,f3,f3',AF⟩;have m4:=PQ m3 Y Z AF;refine aD (rU gy ?_);show wpS _ _ _ _ (if (r==1)=Jg then _ else _) _ _;by_cases e3:r=1
   ·rw[Ji ⇑e3];exact aL ⟨T,.inl ⟨_,rfl,rO m4 e3⟩⟩
   ·rw[Jk ⇑e3];obtain⟨n,rfl⟩:∃n,BH=n+1:=⟨BH-1,by lia⟩;obtain⟨x,gx,V⟩:=vE (a:=a) (i:=n) 'o';refine aD (rU gx (aD (Cb x V _ T 'o' ?_)));intro t rz MK AG;have m5:=m4.addB Y rz λz F u hu=>(El U V z F).trans (MK u hu);rw[<- OX,<- bJ] at m5;have n5:M.size+1<=(M.push y++(b.extract t r).reverse).size:=by rw[fV,bZ];lia
    by_cases vQ:r-t>0
    ·show wpS _ _ _ _ (if r-t>0 then _ else _) _ _;rw[Ji vQ];show wpS _ _ _ _ (if (t==1)=Jg then _ else _) _ _;by_cases e4:t=1
     ·rw[Ji ⇑e4];exact aL ⟨T,.inl ⟨_,rfl,rO m5 e4⟩⟩
     ·rw[Jk ⇑e4];show wpS _ _ _ _ (if (t==0)=Jg then _ else _) _ _;by_cases e6:t=0
      ·rw[Ji ⇑e6];exact aL ⟨T,.inl ⟨_,rfl,rP m5 (.inr e6)⟩⟩
      ·rw[Jk ⇑e6];have f5:2<=t:=by lia
       have m6:=Hb m5 U V AG;refine aD (rU gx ?_);show wpS _ _ _ _ (if (n==0)=Jg then _ else _) _ _;by_cases e5:n=0
       ·rw[Ji ⇑e5];exact aL ⟨T,.inl ⟨_,rfl,rP m6 (.inl e5)⟩⟩
       ·rw[Jk ⇑e5];split
        ·exact aL ⟨T,.inr ⟨n,t,_,_,_,_,rfl,m6,(by lia:1<=n),(by lia:n<=a.size),f5,(by lia:t<=b.size),aG (by lia:o.size<=M.size+1+1) (Hm n5)⟩⟩
        ·exact aL ⟨T,n,t,_,_,_,_,rfl,m6,(by lia:1<=n),(by lia:n<=a.size),f5,(by lia:t<=b.size),aG (by lia:o.size+(j+1)<=M.size+1+1) (Hm n5)⟩
    ·have uX:t=r:=by lia
     subst uX;show wpS _ _ _ _ (if t-t>0 then _ else _) _ _;rw[Jk vQ];have f5:2<=t:=by lia
     replace m5:=m4
     replace n5:M.size+1<=(M.push y).size:=by rw[bZ];exact aE _
     have m6:=Hb m5 U V AG;refine aD (rU gx ?_);show wpS _ _ _ _ (if (n==0)=Jg then _ else _) _ _;by_cases e5:n=0
     ·rw[Ji ⇑e5];exact aL ⟨T,.inl ⟨_,rfl,rP m6 (.inl e5)⟩⟩
     ·rw[Jk ⇑e5];split
      ·exact aL ⟨T,.inr ⟨n,t,_,_,_,_,rfl,m6,(by lia:1<=n),(by lia:n<=a.size),f5,(by lia:t<=b.size),aG (by lia:o.size<=M.size+1+1) (Hm n5)⟩⟩
      ·exact aL ⟨T,n,t,_,_,_,_,rfl,m6,(by lia:1<=n),(by lia:n<=a.size),f5,(by lia:t<=b.size),aG (by lia:o.size+(j+1)<=M.size+1+1) (Hm n5)⟩
  ·rintro c pk ⟨X,d,f,C,G,v,B,rfl,m,J,K,N,O,c6⟩;have:=m.len;rw[aI] at this;rw[dD] at c6;lia
  ·exact⟨sm,d,f,o,_,v,B,rfl,m,J,K,N,O,by lia⟩
  rintro c pk ⟨X,h⟩;rcases h with⟨r,e,hr⟩|⟨d,f,C,G,v,B,rfl,m,J,K,N,O,c7⟩
  ·obtain⟨c,c'⟩:=c;dsimp only at e;subst e;exact aL ⟨X,r,rfl,hr⟩
  ·exact aD (fg (aL ⟨⟨X.kind,X.arr,X.pend,X.failed⟩,d,f,C,_,rfl,m,J,K,N,O,by lia⟩))
 ·rintro c p_ ⟨sm,d,f,l,G,rfl,m,J,K,N,O,c5⟩;have:=m.len;rw[aI] at this;rw[dD] at c5;lia
 ·exact⟨nB.refl st,a.size-1,b.size,#[x0],_,rfl,m0,by lia,by lia,by lia,by lia,by simp⟩
 ·rintro⟨c,c'⟩ p_ ⟨sm,r,e,hr⟩;dsimp only at e;subst e;exact aL (q r p_ sm hr)
end
theorem P_(p:Nat):∀(m:List a9)(j:Nat)(xs:Array a9),p+j+m.length<=xs.size->((m.zipIdx j).foldl (λa x=>a.setIfInBounds (p+x.2) x.1) xs).toList=xs.toList.take (p+j)++m++xs.toList.drop (p+j+m.length)
 |[],j,xs,_=>by simp
 | x::m,j,xs,h=>by
  rw[bg] at h;rw[ij,dQ,P_ p m (j+1) _ (by rw[jA];lia),jh,<- kT];have b:p+j<xs.toList.length:=by rw[aI];lia
  have c:(xs.toList.set (p+j) x).take (p+j+1)=xs.toList.take (p+j)++[x]:=by
   rw[km,bq b,List.take_set_of_le (aE _)];rfl
  rw[c,List.drop_set_of_lt 'o',bg,ba,ba,ba];have:p+j+1+m.length=p+j+(m.length+1):=by lia
  rw[this];rfl
def zfS(h:p+m.length<=xs.size):(lay xs p m).toList=xs.toList.take p++m++xs.toList.drop (p+m.length):=P_ p m 0 xs h
section
variable{prog:aQ}{w:a8}{A:be}{E:ae->ag->Prop}{s:ag}{κ:aX}{st:bH}{kd:KT}
def X1(I:uZ prog w A s κ kd)(t:kindOf st=kd)(N:failedOf st=Jf)(d:(KB st).toList=P++(X++(Y++R)))(h1:(KF st)[i]?=Jd (P.length,X.length,pw))(h2:(KF st)[i+1]?=Jd (P.length+X.length,Y.length,IQ))
  (J:1<=X.length) (O:1<=Y.length) (C:pT κ X) (D:pT κ Y) (F:∀x∈X++Y,sF κ x) {Q:Bool->bH->Prop}
  (q:∀b M,kindOf b=kd->failedOf b=Jf->KF b=((KF st).setIfInBounds i (P.length,X.length+Y.length,pw)).eraseIdxIfInBounds (i+1)->(KB b).toList=P++(M++R)->M.Perm (X++Y)->pT κ M->Q Jg b):wpS (aC prog w) A E s (mergeAt' i) Q st:=by
 have G:(KB st).size=P.length+(X.length+(Y.length+R.length)):=by
  rw[<- aI,d];simp
 have S:∀x∈X,sF κ x:=λx h=>F x (bA _ h);have T:∀x∈Y,sF κ x:=λx h=>F x (ax _ h);have f:∀(j:Nat)(x:a9),(P++(X++(Y++R)))[j]?=Jd x->(KB st)[j]?=Jd x:=λj x h=>by
  rw[<- d] at h;rw[<- h];simp
 obtain⟨g,K⟩:∃g,Y[0]?=Jd g:=⟨Y[0],ao _⟩;have gb:(KB st)[P.length+X.length]?=Jd g:=f _ _ (by
  rw[bb 'o',cI,bb (aE _),iE,aF 'o'];exact K)
 have dX:((KB st).toList.drop P.length).take X.length=X:=by rw[d];simp
 have dY:((KB st).toList.drop (P.length+X.length)).take Y.length=Y:=by rw[d,<- ba,eo 'd',<- aw];simp
 have U:=T g (aN K);have V:∀y∈Y,Le κ g y:=λy h=>CW D K y ⇑h;refine(nM.at_ parts) h1 h2 gb ?_;refine C1 (base:=P.length) (n:=X.length) (hint:=0) I dX ?_ U 'o' 'o' S C ?_
 ·exact t
 refine λk xV kt kf=>⟨k,rfl,λvQ=>?_,λvQ=>?_⟩
 ·have W:k=X.length:=by lia
  refine q _ (X++Y) t N rfl (by show(KB st).toList=_;rw[d,ba]) (d8 _) ?_;unfold pT;rw[bT];refine⟨C,D,λx h y c=>Le.trans ?_ (V y c)⟩;have:=kt x (by rw[W,jB];exact h);unfold sN at this;rw[Jk 's'] at this;unfold Le;simpa using this
 have Z:∀x∈X.take k,Le κ x g:=λx h=>by
  have:=kt x h;unfold sN at this;rw[Jk 's'] at this;unfold Le;simpa using this
 have U0:∀x∈X.drop k,Le κ g x:=λx h=>by
  have:=kf x h;unfold sN at this;rw[Jk 's'] at this;exact Le.of ⇑this
 obtain⟨l,L⟩:∃l,X[X.length-1]?=Jd l:=⟨X[X.length-1],ao _⟩;have ga:(KB st)[P.length+k+(X.length-k)-1]?=Jd l:=f _ _ (by
  have:P.length+k+(X.length-k)-1=P.length+(X.length-1):=by lia
  rw[this,bb 'o',cI,aF 'o'];exact L)
 have hka:=S l (aN L);have VF:∀x∈X,Le κ x l:=λx h=>El C L x (by rw[cM 'o'];exact h);refine⟨l,ga,?_⟩;refine C1 (base:=P.length+X.length) (n:=Y.length) (hint:=Y.length-1) I dY ?_ hka 'o' 'o' T D ?_
 ·exact t
 refine λm hm mt mf=>⟨m,rfl,λVb=>?_,λVb=>?_⟩
 ·refine q _ (X++Y) t N rfl (by show(KB st).toList=_;rw[d,ba]) (d8 _) ?_;unfold pT;rw[bT];refine⟨C,D,λx h y c=>Le.trans (VF x h) ?_⟩;have:=mf y (by rw[Vb];exact c);unfold sN at this;rw[Ji rfl] at this;exact this
 have UY:∀y∈Y.take m,Le κ y l:=λy h=>by
  have:=mt y h;unfold sN at this;rw[Ji rfl] at this;exact Le.of this
 have UZ:∀y∈Y.drop m,Le κ l y:=λy h=>by
  have:=mf y h;unfold sN at this;rw[Ji rfl] at this;exact this
 have u:((KB st).extract (P.length+k) (P.length+X.length)).toList=X.drop k:=by
  simp only[kJ,ju];rw[d,<- d7,mP,eo xV];have:P.length+X.length-(P.length+k)=(X.drop k).length:=by rw[cb];lia
  rw[this,mQ]
 have v:((KB st).extract (P.length+X.length) (P.length+X.length+m)).toList=Y.take m:=by
  rw[Kg];rw[<- dY,f8,fN hm]
 have szX:((KB st).extract (P.length+k) (P.length+X.length)).size=X.length-k:=by rw[<- aI,u,cb]
 have szY:((KB st).extract (P.length+X.length) (P.length+X.length+m)).size=m:=by rw[<- aI,v,bS];lia
 have H:∀(B:Array a9)(o:bH),nB (setPending st (((KF st).setIfInBounds i (P.length,X.length+Y.length,pw)).eraseIdxIfInBounds (i+1))) o->Out κ (X.drop k) (Y.take m) B.toList->Q (failedOf o).isNone (setArr o (lay (KB o) (P.length+k) B.toList)):=λB o p a=>by
  have Va:B.toList.length=(X.length-k)+m:=by rw[a.perm.length_eq,aw,cb,bS];lia
  have Dv:failedOf o=Jf:=p.failed.trans N;rw[Dv];have uy:KB o=KB st:=p.arr;refine q _ (X.take k++(B.toList++Y.drop m)) (p.kind.trans t) Dv p.pend ?_ ?_ ?_
  ·show(lay (KB o) (P.length+k) B.toList).toList=_;rw[uy,zfS (by rw[Va,G];lia),d,Va];have e1:(P++(X++(Y++R))).take (P.length+k)=P++X.take k:=by
    rw[List.take_append,cM 'o',cI,List.take_append_of_le_length xV]
   have e2:(P++(X++(Y++R))).drop (P.length+k+(X.length-k+m))=Y.drop m++R:=by
    have:P.length+k+(X.length-k+m)=(P++X).length+m:=by rw[aw];lia
    rw[this,<- ba,<- d7,mP,eo hm]
   rw[e1,e2];simp
  ·conv=>rhs;rw[<- bO k X,<- bO m Y]
   rw[ba];refine f7 _ ?_;rw[<- ba];exact a.perm.append_right _
  ·unfold pT;rw[bT,bT];have Fu:∀z∈B.toList,z∈X.drop k\/z∈Y.take m:=λz hz=>aK.mp (a.perm.mem_iff.mp hz);refine⟨C.sublist (cE k X),⟨a.srt,D.sublist (cQ m Y),λz hz y O=>?_⟩,λx J z hz=>?_⟩
   ·rcases Fu z hz with h|h
    ·exact(VF z (cL h)).trans (UZ y O)
    ·exact(UY z h).trans (UZ y O)
   ·rcases aK.mp hz with hz|hz
    ·rcases Fu z hz with h|h
     ·exact(Z x J).trans (U0 z h)
     ·exact(Z x J).trans (V z (cx h))
    ·exact(Z x J).trans (V z (cL hz))
 have p1:∀x∈((KB st).extract (P.length+k) (P.length+X.length)).toList,sF κ x:=by rw[u];exact λx h=>S x (cL h)
 have p2:∀x∈((KB st).extract (P.length+X.length) (P.length+X.length+m)).toList,sF κ x:=by rw[v];exact λx h=>T x (cx h)
 have p3:pT κ ((KB st).extract (P.length+k) (P.length+X.length)).toList:=by rw[u];exact C.sublist (cQ k X)
 have p4:pT κ ((KB st).extract (P.length+X.length) (P.length+X.length+m)).toList:=by rw[v];exact D.sublist (cE m Y)
 have p5:∀x∈((KB st).extract (P.length+X.length) (P.length+X.length+m)).toList.take 1,∀y∈((KB st).extract (P.length+k) (P.length+X.length)).toList,Le κ x y:=by
  rw[u,v,f8];intro x h y c;have:x=g:=by
   rw[fN 'o'] at h;have e:=Aq K;rw[kn] at e;rw[e] at h;simpa using h
  rw[this];exact U0 y c
 have p6:∀y∈((KB st).extract (P.length+X.length) (P.length+X.length+m)).toList,∀x∈((KB st).extract (P.length+k) (P.length+X.length)).toList.drop (((KB st).extract (P.length+k) (P.length+X.length)).size-1),Le κ y x:=by
  rw[u,v,szX,d7];intro y h x c;have:k+(X.length-k-1)=X.length-1:=by lia
  rw[this] at c;have e:=Aq L;rw[cM (by rw[cb];lia)] at e;rw[e] at c;rw[dE.mp c];exact UY y h
 by_cases hc:X.length-k<=m
 ·rw[Ji hc];refine X5 I ?_ p1 p2 p3 p4 'o' 'o' p5 p6 λr b p a=>H r b p (by rw[u,v] at a;exact a);exact t
 ·rw[Jk hc];refine Yc I ?_ p1 p2 p3 p4 'o' 'o' p5 p6 λr b p a=>H r b p (by rw[u,v] at a;exact a);exact t
end
def OJ{G:Prop}{H:bH->Prop}(P:bH->Prop)(h:(∀x,H x->P x)->G)(k:∀x,H x->P x):G:=h k
structure Rl(qI:bH)(lo:Nat)(st:bH):Prop where
 perm:(KB st).Perm (KB qI)
 kind:kindOf st=kindOf qI
 failed:failedOf st=failedOf qI
 pend:KF st=KF qI
 fix:∀i,i<lo->(KB st)[i]?=(KB qI)[i]?
def Rl.refl(a:bH)(lo:Nat):Rl a lo a:=⟨iF _,rfl,rfl,rfl,λ_ _=>rfl⟩
def Rl.size{a b:bH}{lo:Nat}(r:Rl a lo b):(KB b).size=(KB a).size:=r.perm.size_eq
def Rl.rev{b a:bH}{lo i j:Nat}(r:Rl b lo a)(h:lo<=i)(c:j<=(KB b).size):Rl b lo (setArr a (mirror (KB a) i j ((j-i)/2))):=by refine⟨(mirror_perm _ _ _ _).trans r.perm,r.kind,r.failed,r.pend,λk d=>?_⟩;show(mirror (KB a) i j ((j-i)/2))[k]?=_;rw[getElem?_mirror_all (by rw[r.size];exact c),Jk 'o'];exact r.fix k d
section
variable{prog:aQ}{w:a8}{A:be}{E:ae->ag->Prop}{s:ag}{κ:aX}{qI st:bH}{lo:Nat}{kd:KT}
def Up(κ:aX)(xs:Array a9)(lo n:Nat):Prop:=∀i j,lo<=i->i<=j->j<lo+n->κ.kle (KK κ xs i) (KK κ xs j)
def Dn(κ:aX)(xs:Array a9)(lo n:Nat):Prop:=∀i j,lo<=i->i<=j->j<lo+n->κ.kle (KK κ xs j) (KK κ xs i)
def An(a:κ.α):κ.kle a a:=κ.irrefl a
def Up.step(h:Up κ xs lo n)(f:1<=n)(a:κ.kle (KK κ xs (lo+n-1)) (KK κ xs (lo+n))):Up κ xs lo (n+1):=λi j b c g=>by
 by_cases e:j=lo+n
 ·subst e;by_cases d:i=lo+n
  ·subst d;exact An _
  ·exact ik (h i (lo+n-1) b 'o' 'o') a
 ·exact h i j b c 'o'
def Dn.step(h:Dn κ xs lo n)(f:1<=n)(a:κ.kle (KK κ xs (lo+n)) (KK κ xs (lo+n-1))):Dn κ xs lo (n+1):=λi j b c g=>by
 by_cases e:j=lo+n
 ·subst e;by_cases d:i=lo+n
  ·subst d;exact An _
  ·exact ik a (h i (lo+n-1) b 'o' 'o')
 ·exact h i j b c 'o'
def Up.one(xs:Array a9):Up κ xs lo 1:=λi j c d e=>by
 have a:i=lo:=by lia
 have b:j=lo:=by lia
 rw[a,b];exact An _
def Dn.one(xs:Array a9):Dn κ xs lo 1:=λi j c d e=>by
 have a:i=lo:=by lia
 have b:j=lo:=by lia
 rw[a,b];exact An _
def Er(f:uZ prog w A s κ kd)(a:∀x∈(KB qI).toList,sF κ x)(g:kindOf qI=kd)(r:Rl qI lo st)(b:i<(KB qI).size)(c:j<(KB qI).size)(q:Q (Jd (κ.blt (KK κ (KB st) i) (KK κ (KB st) j))) st):wpS (aC prog w) A E s (ltAt' i j) Q st:=by
 rw[<- r.size] at b c;obtain⟨x,d,h⟩:=vE b;obtain⟨y,e,k⟩:=vE c;have l:=a x ((dg.mp r.perm).mem_iff.mp (aN h));have m:=a y ((dg.mp r.perm).mem_iff.mp (aN k));have n:KK κ (KB st) i=ky κ x:=by unfold KK ky;rw[d]
 have o:KK κ (KB st) j=ky κ y:=by unfold KK ky;rw[e]
 rw[n,o] at q;rw[ltAt'_eq];exact aD (gm (aD (rU d (aD (rU e (Ed f (r.kind.trans g) l m q))))))
def Up.rev(d:Dn κ xs lo m)(h:lo+m<=xs.size):Up κ (mirror xs lo (lo+m) ((lo+m-lo)/2)) lo m:=λi j a b c=>by
 rw[KK_mirror h,KK_mirror h,Ji 'o',Ji 'o'];exact d _ _ 'o' 'o' 'o'
set_option hygiene false in
local macro_rules|`(tactic| walk_at "asc")=>`(tactic| (
 refine aD (c9 (cC (I:=λk c j_=>j_=p_/\∃ n,c=(none,n)/\n=k/\1<=n/\n<=nrem/\Up κ (arrOf p_) lo n) (Q:=λc j_=>j_=p_/\∃ n,c=(none,n)/\1<=n/\n<=nrem/\Up κ (arrOf p_) lo n/\(n=nrem\/κ.blt (KK κ (arrOf p_) (lo+n)) (KK κ (arrOf p_) (lo+n-1))=true)) ?_ ?_ ?_) ?_)
 ·rintro k c j_ h1 h2 ⟨rfl,n,rfl,rfl,g1,g2,g3⟩
  refine aD (Er (i:=lo+n) (j:=lo+n-1) ho hs hk r1 (by lia) (by lia) ?_)
  cases e:κ.blt (KK κ (arrOf j_) (lo+n)) (KK κ (arrOf j_) (lo+n-1)) with
  | true=>exact aL ⟨rfl,n,rfl,g1,g2,g3,.inr e⟩
  | false=>exact aL ⟨rfl,n+1,rfl,rfl,by lia,by lia,g3.step (by lia) e⟩
 ·rintro c j_ ⟨rfl,n,rfl,e,g1,g2,g3⟩
  exact⟨rfl,n,rfl,g1,g2,g3,.inl (by lia)⟩
 ·exact⟨rfl,_,rfl,rfl,U9,U_,u1⟩))
def zdi(ho:uZ prog w A s κ kd)(hs:∀x∈(KB qI).toList,sF κ x)(hk:kindOf qI=kd){nrem:Nat}(U_:1<=nrem)(hN:lo+nrem<=(KB qI).size){p_:bH}(r1:Rl qI lo p_){Q:Option Nat->bH->Prop}(q:∀m j_,Rl qI lo j_->1<=m->m<=nrem->Up κ (KB j_) lo m->Q (Jd m) j_):wpS (aC prog w) A E s (countRun' lo nrem) Q p_:=by
 rw[countRun'_eq];have u1:Up κ (KB p_) lo 1:=Up.one _;have U9:1<=1:=aE _;walk_at "asc";rintro c j_ ⟨rfl,n1,rfl,g1,g2,g3,g4⟩;show wpS _ _ _ _ (if (n1==nrem)=Jg then _ else _) Q j_;by_cases e0:n1=nrem
 ·rw[Ji ⇑e0];exact aL (q n1 j_ r1 g1 g2 g3)
 rw[Jk ⇑e0];have pW:κ.blt (KK κ (KB j_) (lo+n1)) (KK κ (KB j_) (lo+n1-1))=Jg:=by
  rcases g4 with h|h
  ·exact absurd h e0
  ·exact h
 apply OJ (H:=λpJ=>Rl qI lo pJ/\Dn κ (KB pJ) lo (n1+1));intro key;show wpS _ _ _ _ (if n1>1 then _ else _) Q j_;by_cases hc:n1>1
 ·rw[Ji hc];refine aD (Er ho hs hk r1 'o' 'o' ?_);cases e:κ.blt (KK κ (KB j_) lo) (KK κ (KB j_) (lo+n1-1)) with
  |true=>exact aL (q n1 j_ r1 g1 g2 g3)
  | false=>
   refine aD (j3 ?_);have r2:=r1.rev (i:=lo) (j:=lo+n1) (aE lo) 'o';have all:∀k,lo<=k->k<lo+n1->KK κ (KB j_) k=KK κ (KB j_) (lo+n1-1):=λk a b=>
    KeyOrd.kle_antisymm (g3 k (lo+n1-1) a 'o' 'o') (ik (show κ.kle (KK κ (KB j_) (lo+n1-1)) (KK κ (KB j_) lo) from e) (g3 lo k (aE _) a b))
   have kk:=jQ (κ:=κ) (xs:=KB j_) (i:=lo) (j:=lo+n1) (by rw[r1.size];lia) all;have d2:Dn κ (KB (setArr j_ (mirror (KB j_) lo (lo+n1) ((lo+n1-lo)/2)))) lo (n1+1):=by
    show Dn κ (mirror (KB j_) lo (lo+n1) ((lo+n1-lo)/2)) lo (n1+1);refine Dn.step (λi j a b c=>?_) g1 ?_
    ·rw[kk,kk,all i a 'o',all j 'o' c];exact An _
    ·rw[kk,kk];exact fX pW
   generalize setArr j_ (mirror (KB j_) lo (lo+n1) ((lo+n1-lo)/2))=pJ at *;exact key _ ⟨r2,d2⟩
 ·rw[Jk hc];refine key _ ⟨r1,?_⟩;have e1:n1=1:=by lia
  subst e1;exact Dn.step (Dn.one _) (aE _) (fX pW)
 rintro pJ ⟨r2,d2⟩;refine aD (iU (dF ⟨rfl,aD (c9 (cC (I:=λk c j_=>Rl qI lo j_/\∃n rq,c=(Jf,n,rq)/\n=k/\n<=nrem/\Dn κ (KB j_) lo n/\rq+1<=n/\(∀i,lo+n-(rq+1)<=i->i<lo+n->KK κ (KB j_) i=KK κ (KB j_) (lo+n-1))) (Q:=λc j_=>Rl qI lo j_/\∃n rq,c=(Jf,n,rq)/\n<=nrem/\Dn κ (KB j_) lo n/\rq+1<=n/\(∀i,lo+n-(rq+1)<=i->i<lo+n->KK κ (KB j_) i=KK κ (KB j_) (lo+n-1))) ?_ ?_ ?_) ?_)⟩))
 ·rintro k c pk h1 h2 ⟨r3,n,rq,rfl,rfl,g2,g3,g4,g5⟩;refine aD (Er (i:=lo+n) (j:=lo+n-1) ho hs hk r3 'o' 'o' ?_);cases e:κ.blt (KK κ (KB pk) (lo+n)) (KK κ (KB pk) (lo+n-1)) with
  | true=>
   show wpS _ _ _ _ (if rq>0 then _ else _) _ pk;by_cases hq:rq>0
   ·rw[Ji hq];refine aD (j3 (aL ⟨r3.rev (i:=lo+n-(rq+1)) (j:=lo+n) 'o' 'o',n+1,0,rfl,rfl,by lia,?_,by lia,?_⟩))
    ·have kk:=jQ (κ:=κ) (xs:=KB pk) (i:=lo+n-(rq+1)) (j:=lo+n) (by rw[r3.size];lia) λk a b=>g5 k a b;have d:Dn κ (mirror (KB pk) (lo+n-(rq+1)) (lo+n) ((lo+n-(lo+n-(rq+1)))/2)) lo n:=λi j a b c=>by rw[kk,kk];exact g3 i j a b c
     refine d.step 'o' ?_;rw[kk,kk];exact fX e
    ·intro i a b;have:i=lo+(n+1)-1:=by lia
     rw[this]
   ·rw[Jk hq];refine aL ⟨r3,n+1,0,rfl,rfl,by lia,g3.step 'o' (fX e),by lia,?_⟩;intro i a b;have:i=lo+(n+1)-1:=by lia
    rw[this]
  | false=>
   refine aD (Er (i:=lo+n-1) (j:=lo+n) ho hs hk r3 'o' 'o' ?_);cases e':κ.blt (KK κ (KB pk) (lo+n-1)) (KK κ (KB pk) (lo+n)) with
   |true=>exact aL ⟨r3,n,rq,rfl,g2,g3,g4,g5⟩
   | false=>
    have eq:KK κ (KB pk) (lo+n)=KK κ (KB pk) (lo+n-1):=κ.total _ _ e e';refine aL ⟨r3,n+1,rq+1,rfl,rfl,by lia,g3.step 'o' e',by lia,?_⟩;intro i a b;have:lo+(n+1)-1=lo+n:=by lia
    rw[this];by_cases hi:i=lo+n
    ·rw[hi]
    ·rw[eq];exact g5 i 'o' 'o'
 ·rintro c pk ⟨r3,n,rq,rfl,e,g2,g3,g4,g5⟩;exact⟨r3,n,rq,rfl,g2,g3,g4,g5⟩
 ·exact⟨r2,n1+1,0,rfl,rfl,by lia,d2,by lia,λi a b=>by
   have:i=lo+(n1+1)-1:=by lia
   rw[this]⟩
 ·rintro c pk ⟨r3,n0,rq,rfl,U_,g3,g4,g5⟩;have U9:1<=n0:=by lia
  apply OJ (H:=λql=>Rl qI lo ql/\Dn κ (KB ql) lo n0);intro key;show wpS _ _ _ _ (if rq>0 then _ else _) Q pk;by_cases hq:rq>0
  ·rw[Ji hq];refine aD (j3 ?_);have r4:=r3.rev (i:=lo+n0-(rq+1)) (j:=lo+n0) 'o' 'o';have kk:=jQ (κ:=κ) (xs:=KB pk) (i:=lo+n0-(rq+1)) (j:=lo+n0) (by rw[r3.size];lia) λk a b=>g5 k a b;have d4:Dn κ (KB (setArr pk (mirror (KB pk) (lo+n0-(rq+1)) (lo+n0) ((lo+n0-(lo+n0-(rq+1)))/2)))) lo n0:=λi j a b c=>by
    show κ.kle (KK κ (mirror _ _ _ _) j) (KK κ (mirror _ _ _ _) i);rw[kk,kk];exact g3 i j a b c
   generalize setArr pk (mirror (KB pk) (lo+n0-(rq+1)) (lo+n0) ((lo+n0-(lo+n0-(rq+1)))/2))=ql at *;exact key _ ⟨r4,d4⟩
  ·rw[Jk hq];exact key _ ⟨r3,g3⟩
  rintro ql ⟨r4,d4⟩;refine aD (j3 ?_);have r1:=r4.rev (i:=lo) (j:=lo+n0) (aE lo) 'o';have u1:Up κ (KB (setArr ql (mirror (KB ql) lo (lo+n0) ((lo+n0-lo)/2)))) lo n0:=Up.rev d4 (by rw[r4.size];lia);generalize setArr ql (mirror (KB ql) lo (lo+n0) ((lo+n0-lo)/2))=p_ at *;walk_at "asc"
  ·rintro c j_ ⟨rfl,n,rfl,g1,g2,g3,_⟩;exact aL (q n _ r1 g1 g2 g3)
end
section
variable{prog:aQ}{w:a8}{A:be}{E:ae->ag->Prop}{s:ag}{κ:aX}{qI:bH}{lo:Nat}{kd:KT}
def zhO(H:uZ prog w A s κ kd)(J:∀x∈(KB qI).toList,sF κ x)(K:kindOf qI=kd)(L:1<=ok)(U:ok<=n)(V:lo+n<=(KB qI).size)(M:Rl qI lo p_)(N:Up κ (KB p_) lo ok)(q:∀f,Rl qI lo f->Up κ (KB f) lo n->Q Jg f):wpS (aC prog w) A E s (binarySort' lo n ok) Q p_:=by
 rw[binarySort'_eq];refine aD (c9 (cC (I:=λk c f=>Rl qI lo f/\c=(Jf,())/\1<=k/\Up κ (KB f) lo k) (Q:=λc f=>Rl qI lo f/\c=(Jf,())/\Up κ (KB f) lo n) ?_ ?_ ?_) ?_)
 ·rintro k c g _ W ⟨h,rfl,O,m⟩;refine aD (c9 (cC (I:=λj c f=>f=g/\∃l r,c=(Jf,l,r)/\l<=r/\r<=k/\r-l<=k-j/\(∀i,i<l->κ.kle (KK κ (KB g) (lo+i)) (KK κ (KB g) (lo+k)))/\(∀i,r<=i->i<k->κ.blt (KK κ (KB g) (lo+k)) (KK κ (KB g) (lo+i))=Jg)) (Q:=λc f=>f=g/\∃l,c=(Jf,l,l)/\l<=k/\(∀i,i<l->κ.kle (KK κ (KB g) (lo+i)) (KK κ (KB g) (lo+k)))/\(∀i,l<=i->i<k->κ.blt (KK κ (KB g) (lo+k)) (KK κ (KB g) (lo+i))=Jg)) ?_ ?_ ?_) ?_)
  ·rintro j c d _ X ⟨rfl,l,r,rfl,P,v,z,o,p⟩;show wpS _ _ _ _ (if l ≥ r then _ else _) _ d;by_cases B:l ≥ r
   ·rw[Ji B];have:l=r:=by lia
    subst this;exact aL ⟨rfl,l,rfl,v,o,p⟩
   ·rw[Jk B];refine aD (Er (i:=lo+k) (j:=lo+(l+r)/2) H J K h 'o' 'o' ?_);cases e:κ.blt (KK κ (KB d) (lo+k)) (KK κ (KB d) (lo+(l+r)/2)) with
    |true=>exact aL ⟨rfl,l,(l+r)/2,rfl,by lia,by lia,by lia,o,λi y R=>KeyOrd.klt_of_klt_of_kle e (m _ _ 'o' 'o' 'o')⟩
    |false=>exact aL ⟨rfl,(l+r)/2+1,r,rfl,by lia,by lia,by lia,λi y=>ik (m _ (lo+(l+r)/2) 'o' 'o' 'o') e,p⟩
  ·rintro c d ⟨rfl,l,r,rfl,P,v,z,o,p⟩;rw[dD] at z;have:l=r:=by lia
   subst this;exact⟨rfl,l,rfl,v,o,p⟩
  ·exact⟨rfl,0,k,rfl,by lia,by lia,by lia,λi y=>by lia,λi L Y=>by lia⟩
  ·rintro c d ⟨rfl,l,rfl,v,o,p⟩;show wpS (aC prog w) A E s (moveDown' (lo+k) (lo+l) >>= _) _ d;rw[moveDown'_eq];have t:lo+k<(KB d).size:=by rw[h.size];lia
   have Z:lo+k-(lo+l)=k-l:=by lia
   refine aD (fg (aL ⟨⟨(bubble_perm _ _ _).trans h.perm,h.kind,h.failed,h.pend,λi y=>?_⟩,rfl,by lia,?_⟩))
   ·show(bubble (KB d) (lo+k) (lo+k-(lo+l)))[i]?=_;rw[getElem?_bubble t _ 'o',Jk 'o',Jk 'o'];exact h.fix i y
   ·show Up κ (bubble (KB d) (lo+k) (lo+k-(lo+l))) lo (k+1);have C:∀x,KK κ (bubble (KB d) (lo+k) (lo+k-(lo+l))) x=if x=lo+l then KK κ (KB d) (lo+k) else if lo+l<x/\x<=lo+k then KK κ (KB d) (x-1) else KK κ (KB d) x:=λx=>by
     rw[KK_bubble t 'o'];have:lo+k-(lo+k-(lo+l))=lo+l:=by lia
     rw[this]
    have S:∀x,lo<=x->x<lo+l->κ.kle (KK κ (KB d) x) (KK κ (KB d) (lo+k)):=λx a b=>by
     have:=o (x-lo) 'o';rw[show lo+(x-lo)=x by lia] at this;exact this
    have T:∀x,lo+l<=x->x<lo+k->κ.kle (KK κ (KB d) (lo+k)) (KK κ (KB d) x):=λx a b=>by
     have:=p (x-lo) 'o' 'o';rw[show lo+(x-lo)=x by lia] at this;exact fX this
    intro i j a b c;rw[C i,C j];by_cases D:i=lo+l
    ·rw[Ji D];by_cases u:j=lo+l
     ·rw[Ji u];exact An _
     ·rw[Jk u,Ji 'o'];exact T (j-1) 'o' 'o'
    ·rw[Jk D];by_cases F:lo+l<i/\i<=lo+k
     ·rw[Ji F,Jk 'o',Ji 'o'];exact m _ _ 'o' 'o' 'o'
     ·rw[Jk F];by_cases u:j=lo+l
      ·rw[Ji u];exact S i a 'o'
      ·rw[Jk u];by_cases G:lo+l<j/\j<=lo+k
       ·rw[Ji G];exact m _ _ a 'o' 'o'
       ·rw[Jk G];exact m _ _ a b 'o'
 ·rintro c g ⟨h,rfl,O,m⟩;rw[show max (max ok 1) n=n by lia] at m;exact⟨h,rfl,m⟩
 ·exact⟨M,rfl,by lia,by rw[show max ok 1=ok by lia];exact N⟩
 ·rintro c g ⟨h,rfl,m⟩;exact aL (q g h m)
end
def tx:Nat->List (List a9)->List (Nat×Nat)
 |_,[]=>[]
 |b,X::S=>(b,X.length)::tx (b+X.length) S
theorem HV:∀(S T:List (List a9))(b:Nat),tx b (S++T)=tx b S++tx (b+S.flatten.length) T
 |[],T,b=>by simp[tx]
 | X::S,T,b=>by
  rw[jz,tx,tx,jz,HV S T,gX,aw,kT]
theorem Bv:∀(S:List (List a9))(b:Nat),(tx b S).length=S.length
 |[],_=>rfl
 |X::S,b=>by rw[tx,bg,Bv S,bg]
def se(t:Nat×Nat×Nat):Nat×Nat:=(t.1,t.2.1)
structure Pn(κ:aX)(kd:KT)(L0:List a9)(st:bH)(lo:Nat)(S:List (List a9))(R:List a9):Prop where
 arr:(KB st).toList=S.flatten++R
 lo:S.flatten.length=lo
 pend:(KF st).toList.map se=tx 0 S
 ne:∀X∈S,1<=X.length
 srt:∀X∈S,pT κ X
 kind:kindOf st=kd
 failed:failedOf st=Jf
 perm:(KB st).toList.Perm L0
def Pn.size{κ:aX}{kd:KT}{b:List a9}{a:bH}{lo:Nat}{S:List (List a9)}{R:List a9}(h:Pn κ kd b a lo S R):(KF a).size=S.length:=by have:=congrArg jX h.pend;rw[aA,aI,Bv] at this;exact this
theorem QV:∀(S:List (List a9)),(∀X∈S,1<=X.length)->S.length<=S.flatten.length
 |[],_=>by simp
 | X::S,h=>by
  rw[gX,aw,bg];have:=h X am;have:=QV S λY a=>h Y (ak _ a);lia
theorem RL{α:Type}:∀(S:List α)(i:Nat),i+1<S.length->∃a X Y b,S=a++X::Y::b/\a.length=i
 |[],i,h=>by simp at h
 |[_],i,h=>by simp at h
 |X::Y::S,0,_=>⟨[],X,Y,S,rfl,rfl⟩
 | X::Y::S,i+1,h=>by
  obtain⟨a,A,B,b,e,l⟩:=RL (Y::S) i ⇑h;exact⟨X::a,A,B,b,by rw[e];rfl,by simp[l]⟩
theorem S7{α β:Type}(f:α->β):∀(l:List α)(i:Nat),(l.eraseIdx i).map f=(l.map f).eraseIdx i
 |[],_=>rfl
 |_::_,0=>rfl
 |x::l,i+1=>by simp[S7 f l i]
section
variable{prog:aQ}{w:a8}{A:be}{E:ae->ag->Prop}{s:ag}{κ:aX}{L0:List a9}{st:bH}{lo:Nat}{kd:KT}
def Py(I:uZ prog w A s κ kd)(J:∀x∈L0,sF κ x)(p:Pn κ kd L0 st lo S R)(K:i+1<S.length)(q:∀g r,Pn κ kd L0 g lo r R->r.length+1=S.length->Q Jg g):wpS (aC prog w) A E s (mergeAt' i) Q st:=by
 obtain⟨c,X,Y,d,rfl,j⟩:=RL S i K;have l:=p.pend;rw[HV,tx,tx,f9] at l;have u:∀k a b,(tx 0 c++(c.flatten.length,X.length)::(c.flatten.length+X.length,Y.length)::tx (c.flatten.length+X.length+Y.length) d)[k]?=Jd (a,b)->∃v,(KF st)[k]?=Jd (a,b,v):=λk a b h=>by
  rw[<- l,bd] at h;have L:(KF st)[k]?=(KF st).toList[k]?:=by simp
  cases e:(KF st).toList[k]? with
  |none=>rw[e] at h;cases h
  | some t=>
   rw[e] at h;obtain⟨x,y,z⟩:=t;injection h with h;unfold se at h;injection h with h1 h2;dsimp only at h1 h2;exact⟨z,by rw[L,e,h1,h2]⟩
 obtain⟨v,B⟩:=u i c.flatten.length X.length (by rw[bb (by rw[Bv];lia),Bv,j,iE];rfl);obtain⟨W,C⟩:=u (i+1) (c.flatten.length+X.length) Y.length (by rw[bb (by rw[Bv];lia),Bv,j,cI];rfl);have m:(KB st).toList=c.flatten++(X++(Y++(d.flatten++R))):=by rw[p.arr];simp
 have n:X∈c++X::Y::d:=by simp
 have D:Y∈c++X::Y::d:=by simp
 refine X1 I p.kind p.failed m B C (p.ne X n) (p.ne Y D) (p.srt X n) (p.srt Y D) (λx N=>J x (p.perm.mem_iff.mp (by
   rw[m];rcases aK.mp N with h|h<;>simp[h]))) λg M O P T F G U=>?_
 have o:M.length=X.length+Y.length:=by rw[G.length_eq,aw]
 refine q g (c++M::d) ⟨?_,?_,?_,?_,?_,O,P,?_⟩ (by simp;lia)
 ·rw[F];simp
 ·rw[<- p.lo];simp[o];lia
 ·rw[T,HV,tx,f9,o];have U6:i<(KF st).size:=(ji.mp B).1;have V:i+1<(KF st).size:=(ji.mp C).1;rw[Array.eraseIdxIfInBounds,dif_pos (by rw[jA];exact V),Array.toList_eraseIdx,jh,S7,List.map_set,l];have H:(tx 0 c).length=i:=by rw[Bv,j]
  rw[gc _ _ 'o',H,iE,fP,List.eraseIdx_append_of_length_le 'o',H,cI];show _++(_::tx _ d)=_;rw[kT];rfl
 ·intro Z f;simp only[aK,ar] at f;rcases f with h|rfl|h
  ·exact p.ne Z (by simp[h])
  ·rw[o];have:=p.ne X n;lia
  ·exact p.ne Z (by simp[h])
 ·intro Z f;simp only[aK,ar] at f;rcases f with h|rfl|h
  ·exact p.srt Z (by simp[h])
  ·exact U
  ·exact p.srt Z (by simp[h])
 ·rw[F];refine List.Perm.trans ?_ p.perm;rw[m];refine f7 _ ?_;rw[<- ba X];exact G.append_right _
end
section
variable{prog:aQ}{w:a8}{A:be}{E:ae->ag->Prop}{s:ag}{κ:aX}{L0:List a9}{st:bH}{lo:Nat}{kd:KT}
def Y4(u:Up κ xs lo m)(h:lo+m<=xs.size):pT κ ((xs.toList.drop lo).take m):=by
 unfold pT;rw[dr];intro i j b c d;rw[bS,cb,aI] at b c;have a:∀k,k<m->∀(a:k<((xs.toList.drop lo).take m).length),ky κ ((xs.toList.drop lo).take m)[k]=KK κ xs (lo+k):=λk e a=>by
  rw[lZ,l5];unfold KK ky;rw[fh,dk 'o']
 unfold Le;rw[a i 'o',a j 'o'];exact u _ _ 'o' 'o' 'o'
def Pn.run(p:Pn κ kd L0 st lo S R)(r:Rl st lo j_)(h:lo+m<=(KB st).size)(u:Up κ (KB j_) lo m):∃c,Pn κ kd L0 j_ lo S c/\c.length=R.length/\pT κ (c.take m):=by
 have d:=p.lo;have a:=r.size;have b:(KB j_).toList.length=lo+R.length:=by rw[aI,a,<- aI,p.arr,aw,d]
 have f:(KB j_).toList.take lo=S.flatten:=by
  have e:(KB st).toList.take lo=S.flatten:=by rw[p.arr,<- d,mQ]
  rw[<- e];apply List.ext_getElem?;intro i;by_cases g:i<lo
  ·rw[fo g,fo g,f6,f6];exact r.fix i g
  ·rw[jj 'o',jj 'o']
 have j:(KB j_).toList=S.flatten++(KB j_).toList.drop lo:=by
  conv=>lhs;rw[<- bO lo (KB j_).toList]
  rw[f]
 refine⟨(KB j_).toList.drop lo,⟨j,d,by rw[r.pend];exact p.pend,p.ne,p.srt,r.kind.trans p.kind,r.failed.trans p.failed,(dg.mp r.perm).trans p.perm⟩,by rw[cb,b];lia,?_⟩;exact Y4 u (by rw[a];exact h)
def Pn.push(p:Pn κ kd L0 st lo S R)(c:1<=m)(e:m<=R.length)(d:pT κ (R.take m)):Pn κ kd L0 (setPending st ((KF st).push (lo,m,pw))) (lo+m) (S++[R.take m]) (R.drop m):=by
 have a:(R.take m).length=m:=by rw[bS];lia
 refine⟨?_,?_,?_,?_,?_,p.kind,p.failed,p.perm⟩
 ·show(KB st).toList=_;rw[p.arr];simp
 ·rw[List.flatten_append,aw,p.lo];show lo+(R.take m++[]).length=_;rw[bF,a]
 ·show((KF st).push (lo,m,pw)).toList.map se=_;rw[fW,cA,p.pend,HV,p.lo,f9,tx,tx,a];rfl
 ·intro X b;rcases aK.mp b with h|h
  ·exact p.ne X h
  ·rw[dE.mp h,a];exact c
 ·intro X b;rcases aK.mp b with h|h
  ·exact p.srt X h
  ·rw[dE.mp h];exact d
theorem TL{α β:Type}(f:α->β)(g:α->α)(h:∀x,f (g x)=f x):∀(l:List α)(i:Nat),(l.modify i g).map f=l.map f
 |[],_=>by simp
 |x::l,0=>by simp[h]
 |x::l,i+1=>by simp[TL f g h l i]
def Pn.power(p:Pn κ kd L0 st lo S R)(a:∀x,se (g x)=se x)(i:Nat):Pn κ kd L0 (setPending st ((KF st).modify i g)) lo S R:=by refine⟨p.arr,p.lo,?_,p.ne,p.srt,p.kind,p.failed,p.perm⟩;show((KF st).modify i g).toList.map se=_;rw[Array.toList_modify,TL se g a,p.pend]
def Xf(h:pT κ xs.toList):i8 κ xs xs.size:=λi j d a=>by
 by_cases e:i=j
 ·subst e;exact An _
 have b:KK κ xs i=ky κ xs[i]:=by unfold KK ky;rw[dk 'o']
 have c:KK κ xs j=ky κ xs[j]:=by unfold KK ky;rw[dk a]
 rw[b,c];have:=dr.mp h i j (by rw[aI];lia) (by rw[aI];lia) 'o';rw[fh,fh] at this;exact this
set_option maxHeartbeats 0 in
def Rv(J:uZ prog w A s κ kd)(hs:iK κ a₀)(P:(KB st).Perm a₀)(bk:kindOf st=kd)(bf:failedOf st=Jf)(bn:KF st = #[])(q:∀d,(KB d).Perm a₀->failedOf d=Jf->i8 κ (KB d) a₀.size->Q () d):wpS (aC prog w) A E s sortRuns' Q st:=by
 have u:∀x∈a₀.toList,sF κ x:=hs;have p0:Pn κ kd a₀.toList st 0 [] (KB st).toList:=⟨rfl,rfl,by rw[bn];rfl,by simp,by simp,bk,bf,dg.mp P⟩;have N:(KB st).size=a₀.size:=P.size_eq;rw[sortRuns'_eq];refine aD (gm ?_);show wpS _ _ _ _ (forIn [:(KB st).size] (Jf,0) _ >>= _) Q st;rw[N];refine aD (c9 (cC (I:=λk c d=>∃lo S R,c=(Jf,lo)/\Pn κ kd a₀.toList d lo S R/\k<=lo) (Q:=λc d=>∃lo S R,c=(Jf,lo)/\Pn κ kd a₀.toList d lo S R/\a₀.size<=lo) ?_ ?_ ?_) ?_)
 ·rintro k c z _ hk ⟨lo,S,R,rfl,p,D⟩;have T:lo+R.length=a₀.size:=by
   have:=p.perm.length_eq;rw[p.arr,aw,p.lo,aI] at this;exact this
  have v:(KB z).size=a₀.size:=by rw[<- aI,p.perm.length_eq,aI]
  show wpS _ _ _ _ (if lo ≥ _ then _ else _) _ z;by_cases l:lo ≥ a₀.size
  ·rw[Ji (by first|exact l|(rw[N];exact l))];exact aL ⟨lo,S,R,rfl,p,l⟩
  rw[Jk (by first|exact l|(rw[N];exact l))];have U:∀x∈(KB z).toList,sF κ x:=λx hx=>u x (p.perm.mem_iff.mp hx);refine aD (zdi (lo:=lo) (nrem:=a₀.size-lo) J U p.kind 'o' 'o' (Rl.refl z lo) λn o V W n2 Y=>?_);apply DW (α:=bH) (β:=Nat) (H:=λF m=>∃i,Pn κ kd a₀.toList F lo S i/\1<=m/\m<=i.length/\pT κ (i.take m)/\k<lo+m);intro G;show wpS _ _ _ _ (if n<minRun' a₀.size a₀.size 0 then _ else _) _ o;by_cases Z:n<minRun' a₀.size a₀.size 0
  ·rw[Ji Z];refine aD (iU (dF ⟨rfl,aD (zhO (lo:=lo) (n:=min (a₀.size-lo) (minRun' a₀.size a₀.size 0)) (ok:=n) J U p.kind W 'o' 'o' V Y λF r3 u3=>?_)⟩));obtain⟨i,r,l3,B⟩:=p.run r3 'o' u3;have K:1<=min (a₀.size-lo) (minRun' a₀.size a₀.size 0):=by lia
   have L:min (a₀.size-lo) (minRun' a₀.size a₀.size 0)<=i.length:=by lia
   generalize min (a₀.size-lo) (minRun' a₀.size a₀.size 0)=m at *;exact G _ _ ⟨i,r,K,L,B,by lia⟩
  ·rw[Jk Z];obtain⟨i,r,l3,B⟩:=p.run V 'o' Y;exact G _ _ ⟨i,r,W,by lia,B,by lia⟩
  rintro F m ⟨i,r,K,L,B,D⟩;refine aD (gm ?_);cases hb:(KF F).back? with
  |none=>exact aD (fg (aL ⟨lo+m,_,_,rfl,r.push K L B,by lia⟩))
  | some t=>
   obtain⟨s1,n1',pw0⟩:=t;refine aD (c9 (cC (I:=λj c d=>c=(Jf,())/\∃e,Pn κ kd a₀.toList d lo e i) (Q:=λc d=>c=(Jf,())/\∃e,Pn κ kd a₀.toList d lo e i) ?_ ?_ ?_) ?_)
   ·rintro j c f _ _ ⟨rfl,e,C⟩;refine aD (gm ?_);show wpS _ _ _ _ (match (if (KF f).size>1 then (KF f)[(KF f).size-2]? else Jf) with|some (fst,fst_1,AD)=>_|x=>_) _ f;cases ht:(if (KF f).size>1 then (KF f)[(KF f).size-2]? else Jf) with
    |none=>exact aL ⟨rfl,e,C⟩
    | some t=>
     obtain⟨x,y,AD⟩:=t;have O:(KF f).size>1:=by
      by_cases O:(KF f).size>1
      ·exact O
      ·rw[Jk O] at ht;cases ht
     show wpS _ _ _ _ (if AD<=_ then _ else _) _ f;split
     ·exact aL ⟨rfl,e,C⟩
     ·exact aD (Py J u C (by rw[C.size] at *;lia) λIJ S5 p5 _=>aL ⟨rfl,S5,p5⟩)
   ·rintro c f h;exact h
   ·exact⟨rfl,S,r⟩
   ·rintro c f ⟨rfl,e,C⟩;refine aD (fg (aD (fg (aL ⟨lo+m,_,_,rfl,Pn.push (Pn.power C ?_ _) K L B,by lia⟩))));rintro⟨a,b,c⟩;rfl
 ·rintro c z ⟨lo,S,R,rfl,p,D⟩;exact⟨lo,S,R,rfl,p,by rw[dD] at D;exact D⟩
 ·exact⟨0,[],_,rfl,p0,aE _⟩
 ·rintro c z ⟨lo,S,R,rfl,p,D⟩;have hR:R=[]:=by
   have h:=p.perm.length_eq;rw[p.arr,aw,p.lo] at h;have h2:a₀.toList.length=a₀.size:=aI;exact dL.mp 'o'
  refine aD (c9 (cC (I:=λk c d=>c=(Jf,())/\∃S,Pn κ kd a₀.toList d lo S R/\S.length<=a₀.size-k) (Q:=λc d=>c=(Jf,())/\∃S,Pn κ kd a₀.toList d lo S R/\S.length<=1) ?_ ?_ ?_) ?_)
  ·rintro k c o _ hk ⟨rfl,e,g,M⟩;refine aD (gm ?_);show wpS _ _ _ _ (if (KF o).size<=1 then _ else _) _ o;by_cases l:(KF o).size<=1
   ·rw[Ji l];exact aL ⟨rfl,e,g,by rw[<- g.size];exact l⟩
   ·rw[Jk l];have v:=g.size;refine aD (Py J u g ?_ λF S3 r h3=>aL ⟨rfl,S3,r,by lia⟩)
    repeat' split
    all_goals lia
  ·rintro c o ⟨rfl,e,g,M⟩;exact⟨rfl,e,g,by rw[dD] at M;lia⟩
  ·refine⟨rfl,S,p,?_⟩;have h1:=QV S p.ne;have h:=p.perm.length_eq;rw[p.arr,aw] at h;have h2:a₀.toList.length=a₀.size:=aI;lia
  ·rintro c o ⟨rfl,e,g,M⟩;have uy:=g.arr;rw[hR,bF] at uy;have v:(KB o).size=a₀.size:=by rw[<- aI,g.perm.length_eq,aI]
   refine aL (q o (dg.mpr g.perm) g.failed ?_);rw[<- v];apply Xf;rw[uy]
   match e,M with
   |[],_=>exact eZ
   |[X],_=>rw[gX,List.flatten_nil,bF];exact g.srt X am
end
def list_sort_big(m:κ.OneLt)(g:s.heap.get? a=Jd (seqObj "list" vs.toArray n))(o:iK κ (pairsOf vs))(p:∀r t b,vs=r::t::b->keyKind' (r::t::b).toArray=pure oneType')
  (u:vs.length<=4000000) (q:∀c:bH,(KB c).Perm (pairsOf vs)->i8 κ (KB c) (pairsOf vs).size->P (Fin.done (Flow.ret iu)) { heap:=sortedHeap s.heap a vs (ge (λx=>x.snd) (KB c)),gens:=s.gens,drawn:=s.drawn,toks:=s.toks,os:=s.os }):ay (aC prog w) A (fY.«list.sort» { pos:=[fG a] }) P E s:=by
 by_cases v:vs.length<64
 ·exact list_sort_treeK m g o p v q
 rw[list_sort_plain];have y:(4000000:Nat)<=KM:=by decide
 obtain⟨v1,d,b,rfl⟩:∃v1 d b,vs=v1::d::b:=by
  match vs,v with
  |[],h=>exact absurd (by show 0<64;decide) h
  |[_],h=>exact absurd (by show 1<64;decide) h
  |v1::d::b,_=>exact⟨v1,d,b,rfl⟩
 generalize k:v1::d::b=vs at *;have z:=d6 (bG λ_=>#[]) g rfl;have B:=ai (seqObj "list" #[] 0) (ai (seqObj "tuple" vs.toArray 0) z);refine aa (iG g rfl (aa (ic g rfl (aa (iZ z rfl (aa (iS (aa (gi (bK ?_) 's')) (by simpa using aG u y))))) (by simpa using aG u y) (by show 0<=KM+1;lia))));have f:¬ vs.toArray.size<2:=by rw[aJ];lia
 show ay (aC prog w) A (if vs.toArray.size<2 then _ else _) P E _;rw[Jk f,<- k,p v1 d b k.symm,k];refine aa (aq ?_);rw[Jk f];show ay (aC prog w) A (sortRuns'.run (kL oneType' (vs.toArray.zip vs.toArray) #[] 7 Jf) >>= _) P E { heap:=((s.heap.update a (bG λx=>#[])).push (seqObj "tuple" vs.toArray 0)).push (seqObj "list" #[] 0),gens:=s.gens,drawn:=s.drawn,toks:=s.toks,os:=s.os };refine aa (cj (Rv (Q:=λ_ c=>(KB c).Perm (pairsOf vs)/\failedOf c=Jf/\i8 κ (KB c) (pairsOf vs).size) (uZ.one m) (a₀:=pairsOf vs) o (iF _) rfl rfl rfl λc i j l=>⟨i,j,l⟩) ?_ λ_ _ h=>h);rintro⟨_,c⟩ C ⟨rfl,i,j,l⟩;have D:(ge (λx=>x.snd) (KB c)).size<=4000000:=by
  rw[ko,i.size_eq];show(vs.toArray.zip vs.toArray).size<=_;rw[mR,aJ];lia
 refine aa (iZ B rfl (aa (ic B rfl ?_ (by show 0<=KM;lia) (by show(ge _ _).size<=KM+1;lia))));dsimp only at j;show ay (aC prog w) A (match failedOf c with|some e=>_|x=>_) P E _;rw[j];show ay (aC prog w) A (if ((if _ then n else n+1) !=(if _ then n else n+1))=Jg then _ else _) P E _;rw[Jk 'd'];exact aq (q c i l)
def CK:ae->Option g_
 |.str x _=>Jd x.cps.toList
 |_=>Jf
def allS:List ae->Option m_
 |[]=>Jd []
 | v::vs=>match CK v,allS vs with
  |some a,Jd r=>Jd (a::r)
  |_,_=>Jf
def Ag(h:aV):ae->Option m_
 | .ref t=>match h.get? t with
  | some o=>match o.data with
   |.seq d_ _=>allS d_.toList
   |_=>Jf
  |none=>Jf
 |_=>Jf
def llt_irrefl(a:m_):¬ a<a:=eE a
def llt_trans{a b c:m_}(d:a<b)(e:b<c):a<c:=ie d e
def llt_total{a b:m_}(c:¬ a<b)(d:¬ b<a):a=b:=jC (hU.mp d) (hU.mp c)
def Aj(h:aV):aX where
 α:=m_
 blt:=λa b=>decide (a<b)
 irrefl:=λa=>decide_eq_false (llt_irrefl a)
 trans:=λa b c h1 h2=>decide_eq_true (llt_trans (of_decide_eq_true h1) (of_decide_eq_true h2))
 negTrans:=λa b c h=>by
  by_cases h1:a<b
  ·exact .inl (decide_eq_true h1)
  ·right;have hac:=of_decide_eq_true h;by_cases h2:b<a
   ·exact decide_eq_true (llt_trans h2 hac)
   ·rw[<- llt_total h1 h2];exact h
 total:=λa b h1 h2=>llt_total (of_decide_eq_false h1) (of_decide_eq_false h2)
 keyOf:=Ag h
 dflt:=[]
def yY:m_->m_->Option Bool
 |a::as,b::bs=>if a=b then yY as bs else Jd (decide (a<b))
 |_,_=>Jf
theorem Q0:∀c d:m_,(match yY c d with|some r=>r|none=>decide (c.length<d.length))=decide (c<d)
 |[],[]=>by simp[yY]
 |[],b::d=>by simp[yY]
 |a::c,[]=>by simp[yY]
 | a::c,b::d=>by
  unfold yY;by_cases e:a=b
  ·subst e;rw[Ji rfl];have:=Q0 c d;rw[bg,bg];have f:decide (c.length+1<d.length+1)=decide (c.length<d.length):=by simp
   rw[f,this];simp[kr]
  ·rw[Jk e];show decide (a<b)=_;simp[kr,e]
theorem Tp
  (n:∀x y i a b{Q:ForInStep (Option Bool×Unit)->ag->Prop},CK x=Jd a->CK y=Jd b->Q (if a=b then .yield (Jf,()) else .done (Jd (decide (a<b)),())) s->ay M A (f ((x,y),i) (Jf,())) Q E s):
  ∀(xs g:List ae)(c d:m_)(j:Nat){Q:Option Bool×Unit->ag->Prop},allS xs=Jd c->allS g=Jd d->Q (yY c d,()) s->ay M A (forIn ((xs.zip g).zipIdx j) (Jf,()) f) Q E s
 | [],g,c,d,j,Q,h1,h2,q=>by
  cases h1;exact aq (by cases d<;>exact q)
 | x::xs,[],c,d,j,Q,h1,h2,q=>by
  cases h2;exact aq (by cases c<;>exact q)
 | x::xs,y::g,c,d,j,Q,h1,h2,q=>by
  unfold allS at h1 h2;split at h1
  ·rename_i a h o k;split at h2
   ·rename_i b l p m;cases h1;cases h2;rw[i9,ij,gq];refine aa (n x y j a b o p ?_);unfold yY at q;by_cases e:a=b
    ·rw[Ji e] at q ⊢;exact Tp n xs g h l (j+1) k m q
    ·rw[Jk e] at q ⊢;exact aq q
   ·cases h2
  ·cases h1
theorem Qu{M:iw}{A:be}{E:ae->ag->Prop}{s:ag}{α β:Type}{f:α->Sem β}(g:α->β):∀(l:List α){Q:List β->ag->Prop},(∀v∈l,∀(a:β->ag->Prop),a (g v) s->ay M A (f v) a E s)->Q (l.map g) s->ay M A (List.mapM f l) Q E s
 |[],Q,_,q=>by rw[List.mapM_nil];exact aq q
 | v::l,Q,h,q=>by
  rw[List.mapM_cons];exact aa (h v am _ (aa (Qu g l (λu b=>h u (ak _ b)) (aq q))))
def Qb{M:iw}{A:be}{E:ae->ag->Prop}{s:ag}{α β:Type}{f:α->Sem β}(g:α->β)(l:List α){Q:Array β->ag->Prop}(h:∀v∈l,∀(a:β->ag->Prop),a (g v) s->ay M A (f v) a E s)(q:Q (l.map g).toArray s):ay M A (Array.mapM f l.toArray) Q E s:=by rw[Array.mapM_eq_mapM_toList];refine aa (Qu g l h (aq q))
section
variable{prog:aQ}{w:a8}{A:be}{E:ae->ag->Prop}{s:ag}
def D_(h:CK v=Jd a):∃x t,v=.str x t/\x.cps.toList=a:=by
 cases v with
 |str x t=>exact⟨x,t,rfl,by cases h;rfl⟩
 |_=>cases h
def YT(c:CK x=Jd a)(d:CK y=Jd b)(q:Q (decide (a<b)) s):ay (aC prog w) A (oneLt' o x y) Q E s:=by
 obtain⟨x,t,rfl,rfl⟩:=D_ c;obtain⟨y,u,rfl,rfl⟩:=D_ d;cases o with
 |true=>exact strKind_oneLt prog w A E s _ _ _ _ rfl rfl q
 | false=>
  rw[oneLt'_eq,Jk 's'];refine aa (show ay (aC prog w) A (bX CmpOp.Lt _ _) _ E s from P.lt_str ?_);exact aq q
structure TupS(h:aV)(v:ae)(ks:m_):Prop where
 ok:∃t o d_ c,v=.ref t/\h.get? t=Jd o/\o.cls=.type "tuple"/\o.data=.seq d_ c/\allS d_.toList=Jd ks
noncomputable def Bo(h:aV)(v:ae):Option ae:=match v with
 | .ref t=>match h.get? t with
  | some o=>match o.data with
   |.seq d_ _=>d_[0]?
   |_=>Jf
  |none=>Jf
 |_=>Jf
def Rw(g:h.get? t=Jd o)(a:o.data=.seq d_ c):Bo h (.ref t)=d_[0]?:=by show(match h.get? t with|some o=>(match o.data with|.seq d_ _=>d_[0]?|_=>Jf)|none=>Jf)=_;rw[g];dsimp only;rw[a]
def Pq(e:Ag h v=Jd ks):∃t o a c,v=.ref t/\h.get? t=Jd o/\o.data=.seq a c/\allS a.toList=Jd ks:=by
 cases v with
 | ref t=>
  unfold Ag at e;dsimp only at e;cases g:h.get? t with
  |none=>rw[g] at e;cases e
  | some o=>
   rw[g] at e;dsimp only at e;cases b:o.data with
   |seq a c=>rw[b] at e;exact⟨t,o,a,c,rfl,g,b,e⟩
   |_=>rw[b] at e;cases e
 |_=>cases e
def Lp(ok:TupS h v ks)(d:ks≠[]):∃x tk,Bo h v=Jd (.str x tk):=by
 obtain⟨t,o,f,c,rfl,g,k,i,b⟩:=ok;rw[Rw g i,<- f6];cases e:f.toList with
 |nil=>rw[e] at b;cases b;exact absurd rfl d
 | cons x r=>
  rw[e] at b;unfold allS at b;split at b
  ·rename_i a l j m;obtain⟨y,tk,rfl,_⟩:=D_ j;exact⟨y,tk,rfl⟩
  ·cases b
theorem KZ:∀{l:List ae}{b:m_},allS l=Jd b->l.length=b.length
 |[],b,h=>by cases h;rfl
 | v::l,b,h=>by
  unfold allS at h;split at h
  ·rename_i a r d c;cases h;rw[bg,bg,KZ c]
  ·cases h
def z9s{vs:List ae}(S:2<=vs.length)(j:∀v∈vs,∃k,TupS s.heap v k/\k≠[]){Q:KT->ag->Prop}(q:∀kd:KT,uZ prog w A s (Aj s.heap) kd->Q kd s):ay (aC prog w) A (keyKind' vs.toArray) Q E s:=by
 show ay (aC prog w) A (_ >>= _) Q E s;refine aa (Qb (Bo s.heap) vs (λv f l I=>?_) ?_)
 ·obtain⟨k,⟨t,o,T,c,rfl,g,U,K,ha⟩,m⟩:=j v f;show ay (aC prog w) A (typeOf (.ref t) >>= _) l E s;refine aa (wpAny_typeOf_ref g ?_);rw[U];show ay (aC prog w) A (j4 (.ref t) >>= _) l E s;refine aa (iG g K (aq ?_));rw[<- Rw g K];exact I
 ·have V:((vs.map (Bo s.heap)).toArray.all λx=>x.isSome)=Jg:=by
   rw[mq,af];intro x d;obtain⟨v,f,rfl⟩:=av.mp d;obtain⟨k,C,m⟩:=j v f;obtain⟨y,n,e⟩:=Lp C m;rw[e];rfl
  rw[Ji V];refine aa (dF ?_);have W:∀u∈(vs.map (Bo s.heap)).filterMap id,∃y n,u=.str y n:=λu X=>by
   obtain⟨x,d,e⟩:=i4.mp X;obtain⟨v,f,rfl⟩:=av.mp d;obtain⟨k,C,m⟩:=j v f;obtain⟨y,n,D⟩:=Lp C m;rw[D] at e;injection e with e;exact⟨y,n,e.symm⟩
  have F:(vs.map (Bo s.heap)).filterMap id≠[]:=by
   match vs,S,j with
   | v::_,_,j=>
    obtain⟨k,C,m⟩:=j v am;obtain⟨y,n,D⟩:=Lp C m;rw[br,D];simp
  rw[List.filterMap_toArray];generalize (vs.map (Bo s.heap)).filterMap id=p at *;refine aa ?_;show ay (aC prog w) A (Array.mapM typeOf p.toArray >>= _) _ E s;refine aa (Qb (λ_=>eG "str") p (λv f l I=>?_) ?_)
  ·obtain⟨y,n,rfl⟩:=W v f;exact aq I
  ·have Y:((p.map λ_=>eG "str").toArray)[0]?=Jd (eG "str"):=by
    cases p with
    |nil=>exact absurd rfl F
    |cons _ _=>rfl
   rw[Y];have J:((p.map λ_=>eG "str").toArray.all λx=>x==eG "str")=Jg:=by
    rw[mq,af];intro x d;obtain⟨_,_,rfl⟩:=av.mp d;rfl
   show ay (aC prog w) A (pure (if ((p.map λ_=>eG "str").toArray.all λx=>x==eG "str")=Jg then Jd (eG "str") else Jf)) _ E s;rw[J];refine aq (aq (q _ ?_));intro x y L l d z B;obtain⟨(G:m_),d⟩:=d;obtain⟨(H:m_),z⟩:=z;have Z:ky (Aj s.heap) x=G:=by unfold ky;rw[d];rfl
   have eb:ky (Aj s.heap) y=H:=by unfold ky;rw[z];rfl
   rw[Z,eb] at B;obtain⟨t,o,T,c,J,g1,d1,M⟩:=Pq d;obtain⟨t2,o2,sk,c2,D,g2,d2,N⟩:=Pq z;rw[J,D];show ay (aC prog w) A (j4 (.ref t) >>= _) l L s;refine aa (iG g1 d1 (aa (iG g2 d2 (aa (Tp ?_ _ _ G H 0 M N ?_)))))
   ·intro x y i a b Q d z q;obtain⟨x,t,rfl,rfl⟩:=D_ d;obtain⟨y,u,rfl,rfl⟩:=D_ z;show ay (aC prog w) A (eqBool (.str x t) (.str y u) >>= _) Q L s;refine aa (wpAny_eqBool_str ?_);by_cases e:x=y
    ·subst e;rw[Ji rfl] at q;rw[decide_eq_true rfl];exact aq q
    ·have ne:x.cps.toList≠y.cps.toList:=λh=>e (by
      cases x;cases y;dsimp only at h;rw[mr.mp h])
     rw[Jk ne] at q;rw[decide_eq_false e];exact aa (YT rfl rfl (aq q))
   ·have O:=KZ M;have P:=KZ N;rw[aI] at O P;have R:=Q0 G H;rw[<- O,<- P] at R
    replace B:l (decide (G<H)) s:=B
    rw[<- R] at B;generalize yY G H=r at *;cases r with
    |none=>exact aq B
    |some r=>exact aq B
end
def keyT(h:aV)(v:ae):m_:=(Ag h v).getD []
def To(h:p∈(pairsOf vs).toList):p.1=p.2/\p.1∈vs:=by
 have e:(pairsOf vs).toList=vs.zip vs:=by simp[pairsOf]
 rw[e] at h;have a:vs.zip vs=vs.map λv=>(v,v):=by
  clear h e
  induction vs with
  |nil=>rfl
  |cons v r ih=>rw[i9,ih];rfl
 rw[a] at h;obtain⟨v,b,rfl⟩:=av.mp h;exact⟨rfl,b⟩
def zeK(vs:List ae):(pairsOf vs).toList.map (λx=>x.2)=vs:=by
 have e:(pairsOf vs).toList=vs.zip vs:=by simp[pairsOf]
 rw[e]
 induction vs with
 |nil=>rfl
 |cons v r ih=>rw[i9,br,ih (by simp[pairsOf])]
def z6N(D:s.heap.get? a=Jd (seqObj "list" vs.toArray n))(hv:∀v∈vs,∃d,TupS s.heap v d/\(2<=vs.length->d≠[]))(R:vs.length<=4000000)
  (q:∀out:Array ae,out.toList.Perm vs->out.toList.Pairwise (λx y=>¬ keyT s.heap y<keyT s.heap x)->P (Fin.done (Flow.ret iu)) { heap:=sortedHeap s.heap a vs out,gens:=s.gens,drawn:=s.drawn,toks:=s.toks,os:=s.os }):ay (aC prog w) A (fY.«list.sort» { pos:=[fG a] }) P E s:=by
 rw[list_sort_plain];have S:(4000000:Nat)<=KM:=by decide
 have T:=d6 (bG λ_=>#[]) D rfl;have F:=ai (seqObj "list" #[] 0) (ai (seqObj "tuple" vs.toArray 0) T);have f:∀v∈vs,∃d,TupS (((s.heap.update a (bG λx=>#[])).push (seqObj "tuple" vs.toArray 0)).push (seqObj "list" #[] 0)) v d/\(2<=vs.length->d≠[])/\Ag (((s.heap.update a (bG λx=>#[])).push (seqObj "tuple" vs.toArray 0)).push (seqObj "list" #[] 0)) v=Ag s.heap v:=λv h=>by
  obtain⟨d,⟨t,o,m,c,rfl,g,J,K,L⟩,qB⟩:=hv v h;have ne:a≠t:=λe=>by
   subst e;rw[D] at g;cases g;exact absurd J 'd'
  have U:=ai (seqObj "list" #[] 0) (ai (seqObj "tuple" vs.toArray 0) ((dS s.heap (bG λ_=>#[]) ne).trans g));refine⟨d,⟨t,o,m,c,rfl,U,J,K,L⟩,qB,?_⟩;show(match Heap.get? _ t with|some o=>(match o.data with|.seq m _=>allS m.toList|_=>Jf)|none=>Jf)=(match s.heap.get? t with|some o=>(match o.data with|.seq m _=>allS m.toList|_=>Jf)|none=>Jf);rw[U,g]
 refine aa (iG D rfl (aa (ic D rfl (aa (iZ T rfl (aa (iS (aa (gi (bK ?_) 's')) (by simpa using aG R S))))) (by simpa using aG R S) (by show 0<=KM+1;lia))));show ay (aC prog w) A _ P E { heap:=((s.heap.update a (bG λx=>#[])).push (seqObj "tuple" vs.toArray 0)).push (seqObj "list" #[] 0),gens:=s.gens,drawn:=s.drawn,toks:=s.toks,os:=s.os };generalize hH:((s.heap.update a (bG λx=>#[])).push (seqObj "tuple" vs.toArray 0)).push (seqObj "list" #[] 0)=H at *;have B:∀b:bH,(KB b).Perm (pairsOf vs)->failedOf b=Jf->i8 (Aj H) (KB b) (pairsOf vs).size->(ge (λx=>x.snd) (KB b)).toList.Perm vs/\(ge (λx=>x.snd) (KB b)).toList.Pairwise (λx y=>¬ keyT s.heap y<keyT s.heap x):=λb r _ u=>by
  have V:=dg.mp r;refine⟨?_,?_⟩
  ·rw[mw];have:=V.map (λx:a9=>x.2);rw[zeK] at this;exact this
  ·rw[mw,dr];intro i j W G xW;rw[aA,aI] at W G;rw[fw,fw];have X:=u i j 'o' (by rw[<- r.size_eq];exact G);have Y:∀k(h:k<(KB b).size),KK (Aj H) (KB b) k=keyT s.heap ((KB b).toList[k]'(by rw[aI];exact h)).2:=λk h=>by
    unfold KK;rw[dk h];have hm:(KB b)[k]∈(pairsOf vs).toList:=V.mem_iff.mp (by rw[<- fh];exact cm _);obtain⟨Z,z⟩:=To hm;obtain⟨d,_,_,h3⟩:=f _ z;dsimp only;show(Ag H (KB b)[k].1).getD []=_;rw[h3,fh,<- Z];rfl
   rw[Y i W,Y j G] at X;exact of_decide_eq_false X
 have M:iK (Aj H) (pairsOf vs):=λp I=>by
  obtain⟨Z,z⟩:=To I;obtain⟨d,⟨t,o,m,c,e,g,J,K,L⟩,_⟩:=f _ z;refine⟨d,?_⟩;show Ag H p.1=Jd d;rw[e];show(match H.get? t with|some o=>(match o.data with|.seq m _=>allS m.toList|_=>Jf)|none=>Jf)=_;rw[g];dsimp only;rw[K];exact L
 have up:∀out:Array ae,H.update a (bG λ_=>out)=sortedHeap s.heap a vs out:=λout=>by rw[<- hH];rfl
 by_cases z:vs.length<2
 ·have l:vs.toArray.size<2:=by rw[aJ];exact z
  show ay (aC prog w) A (if vs.toArray.size<2 then _ else _) P E _;rw[Ji l];refine aa (aq ?_);rw[Ji l];have pz:(pairsOf vs).size=vs.length:=by simp[pairsOf]
  obtain⟨N,O⟩:=B (kL general' (pairsOf vs) #[] 7 Jf) (iF _) rfl (λi j xW G=>by
   have:i=j:=by lia
   subst this;exact An _)
  refine aa (aq ?_);have I:(ge (λx=>x.snd) (KB (kL general' (pairsOf vs) #[] 7 Jf))).size<=4000000:=by
   rw[ko];show(pairsOf vs).size<=_;lia
  refine aa (iZ F rfl (aa (ic F rfl ?_ (by show 0<=KM;lia) (by show(ge _ _).size<=KM+1;exact aG I 'o'))));show ay (aC prog w) A (if ((if _ then n else n+1) !=(if _ then n else n+1))=Jg then _ else _) P E _;rw[Jk 'd'];refine aq ?_;have:=q _ N O;rw[<- up] at this;exact this
 ·have l:¬ vs.toArray.size<2:=by rw[aJ];exact z
  show ay (aC prog w) A (if vs.toArray.size<2 then _ else _) P E _;rw[Jk l];refine aa (z9s (s:={ heap:=H,gens:=s.gens,drawn:=s.drawn,toks:=s.toks,os:=s.os }) 'o' (λv h=>by obtain⟨d,k1,k2,_⟩:=f v h;exact⟨d,k1,k2 'o'⟩) λkd ho=>?_);rw[Jk l];show ay (aC prog w) A (sortRuns'.run (kL kd (vs.toArray.zip vs.toArray) #[] 7 Jf) >>= _) P E _;refine aa (cj (Rv (kd:=kd) (κ:=Aj H) (Q:=λ_ b=>(KB b).Perm (pairsOf vs)/\failedOf b=Jf/\i8 (Aj H) (KB b) (pairsOf vs).size) ho (a₀:=pairsOf vs) M (iF _) rfl rfl rfl λb r C u=>⟨r,C,u⟩) ?_ λ_ _ h=>h);rintro⟨_,b⟩ s' ⟨rfl,r,C,u⟩;dsimp only at r C u;obtain⟨N,O⟩:=B b r C u;have I:(ge (λx=>x.snd) (KB b)).size<=4000000:=by
   rw[ko,r.size_eq];show(vs.toArray.zip vs.toArray).size<=_;rw[mR,aJ];lia
  refine aa (iZ F rfl (aa (ic F rfl ?_ (by show 0<=KM;lia) (by show(ge _ _).size<=KM+1;lia))));show ay (aC prog w) A (match failedOf b with|some e=>_|x=>_) P E _;rw[C];show ay (aC prog w) A (if ((if _ then n else n+1) !=(if _ then n else n+1))=Jg then _ else _) P E _;rw[Jk 'd'];refine aq ?_;have:=q _ N O;rw[<- up] at this;exact this
def TupS.mono(k:∀b o,h.get? b=Jd o->h'.get? b=Jd o)(x:TupS h v ks):TupS h' v ks/\keyT h' v=keyT h v:=by obtain⟨t,o,a,c,rfl,g,e,f,i⟩:=x;have d:=k t o g;refine⟨⟨t,o,a,c,rfl,d,e,f,i⟩,?_⟩;show((match h'.get? t with|some o=>(match o.data with|.seq a _=>allS a.toList|_=>Jf)|none=>Jf):Option _).getD []=((match h.get? t with|some o=>(match o.data with|.seq a _=>allS a.toList|_=>Jf)|none=>Jf):Option _).getD [];rw[d,g]
def sorted_tups(t:s.heap.IsList l vs.toArray)(f:∀v∈vs,∃a,TupS s.heap v a/\(2<=vs.length->a≠[]))(g:vs.length<=4000000)
  (h:∀out:Array ae,out.toList.Perm vs->out.toList.Pairwise (λx y=>¬ keyT s.heap y<keyT s.heap x)->Q (.ref (s.heap.objs.size+1)) { heap:=sortedAll s.heap vs out,gens:=s.gens,drawn:=s.drawn,toks:=s.toks,os:=s.os }):ay (aC prog w) A (call (.builtin "sorted") [.ref l]) Q E s:=by
 have i:vs.length<=KM:=aG g 's';refine gu me lE lG (lH _) ?_;unfold fY.«sorted»;refine aa (m:=checkCount "sorted" 1 1 _) (aq ?_);refine aa (collect_list t (aa (gi ?_ i)) i);have j:∀b o,s.heap.get? b=Jd o->(((s.heap.push (seqObj "list" #[] 0)).update s.heap.objs.size (bG λx=>x++vs.toArray)).push (seqObj "list" vs.toArray 0)).get? b=Jd o:=λb o e=>by
  have u:s.heap.objs.size≠b:=λq=>absurd (aR e) (by rw[<- q];exact cR _);exact ai _ ((dS _ _ u).trans (ai _ e))
 have k:(((s.heap.push (seqObj "list" #[] 0)).update s.heap.objs.size (bG λx=>x++vs.toArray)).push (seqObj "list" vs.toArray 0)).get? ((s.heap.push (seqObj "list" #[] 0)).update s.heap.objs.size (bG λx=>x++vs.toArray)).objs.size=Jd (seqObj "list" vs.toArray 0):=aO _ rfl;have z:((s.heap.push (seqObj "list" #[] 0)).update s.heap.objs.size (bG λx=>x++vs.toArray)).objs.size=s.heap.objs.size+1:=by rw[Heap.size_update,cU]
 refine aa (bK (cB ku ⟨_,k,rfl⟩ jR (z6N k (λv c=>by
  obtain⟨a,d,n⟩:=f v c;exact⟨a,(d.mono j).1,n⟩) g λout p B=>⟨_,rfl,?_⟩) (kw _)))
 refine aq ⟨_,rfl,?_⟩;have r:∀v∈out.toList,keyT (((s.heap.push (seqObj "list" #[] 0)).update s.heap.objs.size (bG λx=>x++vs.toArray)).push (seqObj "list" vs.toArray 0)) v=keyT s.heap v:=λv c=>by
  obtain⟨a,d,n⟩:=f v (p.mem_iff.mp c);exact(d.mono j).2
 have C:out.toList.Pairwise (λx y=>¬ keyT s.heap y<keyT s.heap x):=by
  refine gK ?_ B;intro x y D F G;rw[<- r x D,<- r y F];exact G
 have:=h out p C;unfold sortedAll at this;rw[<- z] at this;exact this
end TS
namespace DL
open PySem
def byT(w:a8):Bool:=w.params.followText "set-order"
def V_(e:Int×ae):az:=match e.2 with
 |.str x _=>x
 |_=>⟨#[]⟩
def oi(P:aQ)(w:a8)(a:ab)(ks:List az)(h:aV):Prop:=
 ∃o es ep t,h.get? a=Jd o/\o.ExactSet/\o.data=.set es ep t/\ElemsOf (strKind P w) es.toList/\(es.toList.map V_).Perm ks/\ks.Nodup/\es.size<scanBound/\t.fits es.size=Jg/\(byT w=Jh->t.led=Jg)/\(es.size≠0->t.plain=Jh)
section
variable{P:aQ}{w:a8}{a:ab}{ks:List az}
def oi.keep(k:∀o,h.get? a=Jd o->h'.get? a=Jd o):oi P w a ks h->oi P w a ks h':=λ⟨o,b,c,t,d,r⟩=>⟨o,b,c,t,k o d,r⟩
def oi.size(x:oi P w a ks h):∃o b c t,h.get? a=Jd o/\o.data=.set b c t/\b.size=ks.length:=by obtain⟨o,b,c,t,d,g,e,i,f,_⟩:=x;exact⟨o,b,c,t,d,e,by rw[<- f.length_eq];simp⟩
end
def LL{α:Type}{l:List α}{i:Nat}{x:α}(h:l[i]?=Jd x):(x::l.eraseIdx i).Perm l:=by
 obtain⟨a,e⟩:=al.mp h;have q:l.take i++x::l.drop (i+1)=l:=by rw[<- e,List.getElem_cons_drop a,bO]
 rw[List.eraseIdx_eq_take_drop_succ];exact List.perm_middle.symm.trans (by rw[q])
section
end
section
abbrev PvS(os:List az):Nat->ae->Prop:=λi v=>∃tk:Tok,v=.str (os.getD i ⟨#[]⟩) tk
end
section
variable{P:aQ}{w:a8}{s:ag}{a:ab}{ks:List az}
structure ItX(P:aQ)(w:a8)(a:ab)(ks:List az)(s:ag)(I:ab)(s1:ag):Prop where
 ex:∃(os:List az)(fp:List ab)(St:Nat->aV->Prop),os.Perm ks/\I∈fp/\(∀b∈fp,b<s1.heap.objs.size)/\(∀b∈fp,b=a\/s.heap.objs.size<=b)/\(∀B:be,B.handled=Jf->Walks P w B I fp [I] os.length (PvS os) St)/\St 0 s1.heap
 keep:∀b o,s.heap.get? b=Jd o->s1.heap.get? b=Jd o
 ty:∃ob,s1.heap.get? I=Jd ob/\ob.cls=.type "set_iterator"
 new:s.heap.objs.size<=I
 gens:s1.gens=s.gens
 os:s1.os=s.os
end
end DL
namespace DL
open PySem PyProof.Rows
section
end
end DL
namespace DL
open PySem L2 PyProof.Rows
noncomputable def uO(x:g_):m_->m_
 |[]=>[x]
 |y::r=>if x<y then x::y::r else if x=y then y::r else y::uO x r
def pM(ss:m_):m_:=ss.foldl (λl x=>uO x l) []
theorem oh:∀{l:m_},y∈uO x l↔y=x\/y∈l
 |[]=>by simp[uO]
 | z::r=>by
  unfold uO;split
  ·simp
  ·split
   ·rename_i h;subst h;simp
   ·rw[ar,oh,ar];exact⟨λh=>by rcases h with h|h|h<;>simp[h],λh=>by rcases h with h|h|h<;>simp[h]⟩
theorem So:∀{l:m_},l.Pairwise (· < ·)->(uO x l).Pairwise (· < ·)
 |[],_=>by simp[uO]
 | z::r,h=>by
  obtain⟨b,c⟩:=bw.mp h;unfold uO;split
  ·rename_i a;exact bw.mpr ⟨λy hy=>by
    rcases ar.mp hy with rfl|hy
    ·exact a
    ·exact ie a (b y hy),h⟩
  ·rename_i a;split
   ·exact h
   ·rename_i d;refine bw.mpr ⟨λy hy=>?_,So c⟩;rcases oh.mp hy with rfl|hy
    ·exact b9 λq=>d (jC (hU.mp q) (hU.mp a))
    ·exact b y hy
def xn(a:m_):y∈pM a↔y∈a:=by
 have:∀(a l:m_),y∈a.foldl (λl x=>uO x l) l↔y∈l\/y∈a:=by
  intro a
  induction a with
  |nil=>intro l;simp
  |cons x a ih=>intro l;rw[dQ,ih,oh,ar];exact⟨λh=>by rcases h with(h|h)|h<;>simp[h],λh=>by rcases h with h|h|h<;>simp[h]⟩
 rw[pM,this];simp
def EJ(a:m_):(pM a).Pairwise (· < ·):=by
 have:∀(a l:m_),l.Pairwise (· < ·)->(a.foldl (λl x=>uO x l) l).Pairwise (· < ·):=by
  intro a
  induction a with
  |nil=>intro l h;exact h
  |cons x a ih=>intro l h;exact ih _ (So h)
 exact this a [] eZ
theorem RB:∀{l m:m_},l.Pairwise (· < ·)->m.Pairwise (· < ·)->(∀x,x∈l↔x∈m)->l=m
 |[],[],_,_,_=>rfl
 |[],y::m,_,_,h=>absurd ((h y).mpr am) 'd'
 |x::l,[],_,_,h=>absurd ((h x).mp am) 'd'
 | x::l,y::m,hl,hm,h=>by
  obtain⟨c,f⟩:=bw.mp hl;obtain⟨d,g⟩:=bw.mp hm;have b:x=y:=by
   rcases ar.mp ((h x).mp am) with e|e
   ·exact e
   ·rcases ar.mp ((h y).mpr am) with e'|e'
    ·exact e'.symm
    ·exact absurd (ie (d x e) (c y e')) (eE _)
  subst b;rw[RB f g λz=>⟨λa=>by
    rcases ar.mp ((h z).mp (ak _ a)) with e|e
    ·subst e;exact absurd (c z a) (eE _)
    ·exact e,λa=>by
    rcases ar.mp ((h z).mpr (ak _ a)) with e|e
    ·subst e;exact absurd (d z a) (eE _)
    ·exact e⟩]
abbrev toS(cs:g_):az:=⟨cs.toArray⟩
theorem S8:∀(p:az)(l:List az),risingS p l=Jg->(p::l).Nodup->((p::l).map (·.cps.toList)).Pairwise (· < ·)
 |p,[],_,_=>by simp
 | p,x::r,h,nd=>by
  unfold risingS at h;rw[aT,ei,ltCps_eq,decide_eq_false_iff_not] at h;obtain⟨c,d⟩:=bo.mp nd;have a:=S8 x r h.2 d;have b:=b9 λq=>c (by
   have:=jC (hU.mp h.1) (hU.mp q);have e:p=x:=by
    obtain⟨f⟩:=p;obtain⟨g⟩:=x;rw[show f=g from mr.mp this]
   rw[e];exact am)
  refine bw.mpr ⟨λy hy=>?_,a⟩;rcases ar.mp hy with rfl|hy
  ·exact b
  ·exact ie b ((bw.mp a).1 y hy)
def oi.nd(x:oi P w a ks h):ks.Nodup:=by obtain⟨_,_,_,_,_,_,_,_,_,b,_⟩:=x;exact b
section
variable{t:DA}
theorem LA:∀{vs:List ae}{os:List az},jy vs os->nu (os.map V.str) vs
 |_,_,.nil=>.nil
 |_,_,.cons y t h=>.cons ⟨t,rfl⟩ (LA h)
end
section
theorem Lr{K:ah}{H:Hp}{XV b:List ab}:∀a:m_,np K H XV b (a.map D.str) (a.map λcs=>V.str (toS cs))
 |[]=>.nil
 |cs::r=>.cons KQ (Lr r)
def Oi(o:Bool)(r:R (List D)):R D:=r.bnd λJa O1=>match tO Ja with
 |some ss=>if ss.length<1000 then (if o=Jg then .ok (.own O1.length) (O1++[(pM ss).map .str]) else .ok (.lst ((pM ss).map .str)) O1) else .bad
 |none=>.bad
theorem strL_map:∀a:m_,tO (a.map D.str)=Jd a
 |[]=>rfl
 |cs::r=>by show(tO (r.map D.str)).map _=_;rw[strL_map r];rfl
end
section
variable{t:DA}
def OR(o:Bool)(t:DA):DE:=λσ O=>(t σ O).bnd λxs O1=>match xs with
 | [x]=>match (match rk O1 x with|some ds=>Jd ds|none=>zy x) with
  |some ds=>Oi o (.ok ds O1)
  |none=>.bad
 |_=>.bad
end
end DL
namespace DL
open PySem L2
structure Nx(l:List az):Prop
section
variable{X:Cx}{Ex:Nat->Hp->Prop}{elt tg iter:aS}{ifs:List aS}{gs:List bC}{scope:cG}{pos qU py:Pos}{x y:az}{i k:Nat}{ext:List az}{it0:DI}{g:Tg}{ts:List DT}{cs:List Cl}{te:DE}
abbrev GN(X:Cx)(ext:List az)(scope:cG)(tg:aS)(g:Tg)(ifs:List aS)(ts:List DT)(gs:List bC)(cs:List Cl)(elt:aS)(te:DE):Prop:=∀cells C s H fp,PG (pU X (X.N++ext) scope cells C s H fp) tg (g.rd X.K)/\bR (λe t=>qM (pU X (X.N++ext) scope cells C s H fp) pS e t) ifs ts/\nN (pU X (X.N++ext) scope cells C s H fp) gs cs/\PD (pU X (X.N++ext) scope cells C s H fp) pS elt te
def zga(_:Nx ext)(o:Bool)(a:X.calm=Jg)(b:v7 X.env.scope scope (X.N++ext) (pK (⟨it0,g,ts⟩::cs)))(c:sD X Ex tg iter it0)(d:GN X ext scope tg g ifs ts gs cs elt te)(e:ext.length=k:=by rfl)(f:∀x,bM iter X.env x=pure x:=by intro _;rfl):
  PD X Ex (.ListComp elt (⟨tg,iter,ifs,0⟩::gs) scope pos) (pB o k it0 g ts cs te):=e▸zi9 o ext a c b d f
def z7Z(_:Nx ext)(o:Bool)(a:X.calm=Jg)(b:X.N.Nodup)(c:X.N[i]?=Jd y)(d:X.env.scope.names.lookup y=Jd .local)(e:v7 X.env.scope scope (X.N++ext) (pK (⟨it0,g,ts⟩::cs)))(f:sD X Ex tg iter it0)(h:GN X ext scope tg g ifs ts gs cs elt te)
  (j:swapsWith (.ListComp elt (⟨tg,iter,ifs,0⟩::gs) scope pos) (Jd (.Name y py)) qU.line X.env=pure Jg) (l:ext.length=k:=by rfl) (m:∀x,bM iter X.env x=pure x:=by intro _;rfl):
  sS X Ex (.Assign [.Name y py] (.ListComp elt (⟨tg,iter,ifs,0⟩::gs) scope pos) qU) (pN i (pB o k it0 g ts cs te)):=l▸z8S o ext a b c d f e h j m
end
noncomputable def tw(c:DT)(b:DS):Nat->Sg->Ow->RS
 |0,_,_=>.bad
 | f+1,σ,O=>(c σ O).bnS λk O1=>if k=Jg then (match b σ O1 with
   |.nx σ' O'=>tw c b f σ' O'
   |.ct σ' O'=>tw c b f σ' O'
   |.bk σ' O'=>.nx σ' O'
   |r=>r) else .nx σ O1
def G8(f:Nat)(c:DT)(b:DS):DS:=tw c b f
section
variable{X:Cx}{Ex:Nat->Hp->Prop}{pos:Pos}
def zd3(f:Nat)(y:jN (aC X.prog X.w) X.A X.env X.xe)(B:qM X Ex c tc)(C:r9 X Ex body tb):sS X Ex (.While c body [] pos) (G8 f tc tb):=
 xm (zfd y B.out C.out) λa g b O E h H j l q=>by
  refine⟨λm h H=>∃a g b O,nq X.K H a g b h/\nk X.K H a g O/\nw Ex X.K H a g (tw tc tb m b O) E,⟨f,a,g,b,O,j,l,q⟩,?_⟩;rintro m h H ⟨a,g,b,O,j,l,q⟩;cases m with
  |zero=>exact aj q
  | succ f=>
   refine vK.goS j l q λk n t o u G v p=>?_;cases k with
   |false=>exact p h t o .refl u v
   | true=>
    rw[Ji rfl];refine⟨λh H=>∃a g b O,nq X.K H a g b h/\nk X.K H a g O/\nw Ex X.K H a g (tw tc tb f b O) E,λ_ _ z=>⟨f,fu _,z⟩,a,o,b,n,u,v,?_⟩;have p:nw Ex X.K t a o (match tb b n with|.nx σ' O'=>tw tc tb f σ' O'|.ct σ' O'=>tw tc tb f σ' O'|.bk σ' O'=>.nx σ' O'|r=>r) E:=p;cases i:tb b n with
    |nx σ' O'=>rw[i] at p;exact λD F s x e c=>⟨a,s,σ',O',e,c,nw.ext p x⟩
    |ct σ' O'=>rw[i] at p;exact λD F s x e c=>⟨a,s,σ',O',e,c,nw.ext p x⟩
    |bk σ' O'=>rw[i] at p;exact p
    |rt d O'=>rw[i] at p;exact p
    |exc c' O'=>rw[i] at p;exact p
    |bad=>rw[i] at p;exact p
end
noncomputable def CN(to:DE)(t:DA):DE:=λσ O=>(to σ O).bnd λx O1=>match x with
 | .own k=>(t σ O1).bnd λys O2=>match ys,O2[k]? with
  | [.int i],Jd ds=>if 0<=i/\i<4000000 then (match ds[i.toNat]? with
   |some d=>.ok d (O2.set k (ds.eraseIdx i.toNat))
   |none=>.bad) else .bad
  |_,_=>.bad
 |_=>.bad
theorem np.erase:∀{ds:List D}{vs:List V}(i:Nat),np K H XV μ ds vs->np K H XV μ (ds.eraseIdx i) (vs.eraseIdx i)
 | [],vs,i,h=>by
  unfold np at h;subst h;simpa using(np.nil:np K H XV μ [] [])
 | d::ds,vs,i,h=>by
  unfold np at h;obtain⟨v,r,rfl,b,a⟩:=h;cases i with
  |zero=>exact a
  |succ i=>exact .cons b (np.erase i a)
def WA(h:0<=i)(a:i.toNat<n):seqIndex? i n=Jd i.toNat:=by unfold seqIndex?;split<;>simp_all<;>lia
section
variable{X:Cx}{Ex:Nat->Hp->Prop}{e:aS}
def zgj(s:PD X Ex o to)(u:sE X Ex (e::es) t)(z:attributeBase o "pop" X.env (eval o X.env)=eval o X.env:=by rfl)
  (B:((backTo oV (aP (e::es) X.env)).all (λx=>!x.1)&&(backToKw oV (keywordEach [] X.env)).all (λx=>x.1.isSome)&&decide ((e::es).length+([]:List eC).length+(if ([]:List eC).isEmpty then 0 else 1)<30))=Jg:=by rfl)
  (C:(apos.endLine==oV.line)=Jg:=by rfl) (D:aP (e::es) X.env=(Jh,eval e X.env)::aP es X.env:=by rfl) (E:(backTo oV (aP es X.env)).any (·.1)=Jh:=by rfl):
  PD X Ex (.Call (.Attribute o "pop" apos) (e::es) [] oV) (CN to t):=
 qN (D2 gT ll PySem.F.type_list_pop zgw s.out u.out z B C D E) λG μ σ O b_ H Q I J q=>rd.go I J q λd O1 v H1 e_ K x g r p=>by
  cases d with
  | own k=>
   have L:=r;unfold Y2 at r;obtain⟨A,rfl,M⟩:=r;obtain⟨ds,N,h1,P,h3⟩:=g.at_ k A M;refine⟨.inl ⟨rfl,N,.of P⟩,sY.go K g p λys O2 ws H2 R e3 S h T a=>?_⟩;split at a
   ·rename_i i AQ U;obtain⟨⟨c,V⟩,a⟩:=post.ite a;obtain⟨w,rfl,j⟩:=sI T;unfold Y2 at j;subst j;have b:R[k]?=Jd A:=by
     have:=L.ext S;unfold Y2 at this;obtain⟨A',W,Y⟩:=this;cases W;exact Y
    obtain⟨DB,Z,l,f,m⟩:=h.at_ k A b;rw[U] at l;cases l;split at a
    ·rename_i d hd;obtain⟨y,n,dy⟩:=m.get hd;have pW:=(al.mp n).1;refine⟨A,Z,i,i.toNat,y,rfl,rfl,f,by lia,by lia,WA c pW,n,?_⟩;exact post.ok a (.put (aN b) ⟨_,f⟩) (h.put b (m.erase _)) (dy.ext (.put (aN b) ⟨_,f⟩))
    ·exact aj a
   ·exact aj a
  |_=>exact aj p
end
end DL
namespace DL
open PySem L2 PyProof.Rows
abbrev DK:=Sum Int g_
noncomputable def vq:D->Option DK
 |.int i=>Jd (.inl i)
 |.str cs=>Jd (.inr cs)
 |_=>Jf
def Cw(k:DK):D->Bool
 |.map [j] _=>decide (j=k)
 |_=>Jh
def Dh:List D->List DK
 |.map [k] _::r=>k::Dh r
 |_=>[]
def Di:List D->List D
 |.map _ [d]::r=>d::Di r
 |_=>[]
def rT(p:DK×D):D:=.map [p.1] [p.2]
theorem KL:∀a:List (DK×D),Dh (a.map rT)=a.map (·.1)
 |[]=>rfl
 |p::r=>by show p.1::Dh (r.map rT)=_;rw[KL r];rfl
theorem KD:∀a:List (DK×D),Di (a.map rT)=a.map (·.2)
 |[]=>rfl
 |p::r=>by show p.2::Di (r.map rT)=_;rw[KD r];rfl
def Hd:∀{a b:DK},kD a=kD b->a=b
 |.inl i,.inl j,h=>by cases h;rfl
 | .inr x,.inr y,h=>by
  have h:=g8 h;have:x=y:=⇑h
  rw[this]
 |.inl _,.inr _,h=>by cases h
 |.inr _,.inl _,h=>by cases h
def AR(tk tv:DE):Em:=λσ O Ja=>(tk σ O).bnd λx O1=>match vq x with
 |some k=>(tv σ O1).bnd λd O2=>if Ja.length<1000/\Ja.any (Cw k)=Jh then .ok (Ja++[.map [k] [d]]) O2 else .bad
 |none=>.bad
def CC(ke ve:aS):u_ where
 ex:=λgens scope pos=>.DictComp ke ve gens scope pos
 emit:=λJa env=>do
  let kv <- eval ke env;let vv <- holding [kv] (eval ve env)
  match Ja with
  | .ref d=>do
   standAt { ke.pos with endLine:=ve.pos.endLine,endCol:=ve.pos.endCol }
   holding [kv,vv] (dictSet d kv vv)
  |_=>unsupported "internal:dictcomp"
 new:=newDict
 ho:=λ_ _ _=>.dK []
 G:=λK _ _ A XV H μ Ja=>∃(ps:List (DK×D))(vs:List V),Ja=ps.map rT/\H A=Jd (.dK ((ps.map λp=>kD p.1).zip vs))/\ps.length=vs.length/\np K H (A::XV) μ (ps.map (·.2)) vs
def SH(j l:aS):Bl (CC j l) where
 cl:=λ_ _ _=>rfl
 turn:=λc b f k o g i z m p n d=>by
  show compTurn (.DictComp j l c b f) k o g i=_;unfold compTurn Ba;rcases d with d|⟨A,B,C,d⟩
  ·simp only[n,d];rfl
  ·simp only[n,d,bne_self_eq_false,cy,if_false,bind_assoc,pure_bind]
   first|rfl|congr 1
 keep:=λ⟨q,r,e,s,t,u⟩ v x=>⟨q,r,e,x.keep _ _ s v,t,u.ext x⟩
 new:=λh=>di (h _ rfl λH h a w e=>by
  refine⟨bN _,beq_eq_false_iff_ne.mpr (bI (bt w)),[],.nil,?_⟩;exact⟨_,#[],0,e,⟨rfl,rfl,rfl⟩,rfl,λ_ y=>by simp at y,Pairs.nil,gQ⟩)
 g0:=⟨[],[],rfl,qP,rfl,.nil⟩
 q1:=λ_ _ _ _ _ _ _=>rfl
 u1:=λ_ _ _ _ _ _ _ _=>rfl
 d1:=λ_ _ _ _ _ _ _ _ _=>rfl
 u2:=λ_ _ _ _ _ _ _ _=>rfl
 d2:=λ_ _ _ _ _ _ _ _ _=>rfl
def xG(g:H A=Jd (.dK l_)):∀a,nI H a->nI (upd H A o) a:=by
 rintro a ⟨h,b,i,j⟩;have k:a≠A:=by rintro rfl;rw[g] at b;cases b
 refine⟨h,by rw[o9 k];exact b,i,λd l e=>?_⟩;obtain⟨c,m,rfl,f,n⟩:=j d l e;have p:c≠A:=by rintro rfl;rw[g] at f;cases f
 exact⟨c,m,rfl,by rw[o9 p];exact f,n⟩
theorem Sr:∀(ps:List (DK×D))(vs:List V),(ps.map rT).any (Cw k)=Jh->tQ ((ps.map λp=>kD p.1).zip vs) (kD k)=Jf
 |[],_,_=>rfl
 |_::_,[],_=>rfl
 | p::r,v::vs,h=>by
  rw[br,gg,Bool.or_eq_false_iff] at h;obtain⟨a,b⟩:=h;have n:¬ p.1=k:=λe=>by
   have:decide (p.1=k)=Jh:=a;rw[decide_eq_true e] at this;cases this
  show tQ ((kD p.1,v)::(r.map λp=>kD p.1).zip vs) (kD k)=Jf;rw[C0 (λe=>n (Hd e))];exact Sr r vs b
def JT{K:ah}{H:Hp}{XV a:List ab}{x:D}{k:DK}{v:V}(e:vq x=Jd k)(h:Y2 K H XV a x v):v=kV (kD k):=by
 cases x with
 |int i=>cases e;unfold Y2 at h;exact h
 |str cs=>cases e;unfold Y2 at h;exact h
 |_=>cases e
section
variable{X:Cx}{A:ab}{XV:List ab}{ke ve:aS}{gens:List bC}{tk tv:DE}
def zex{Z:L2.St->Hp->List ab->Prop}{k:Nat}{e:aS}(U:X.xe=λ_ _=>False)(L:PD X pS ke tk)(M:PD X pS ve tv)(hk:gens[k]?=Jf):zp X Z (CC ke ve) A XV e gens (AR tk tv) k []:=by
 intro a s i H j l O Ja Q E _ B q;unfold Ba;rw[hk];show ay _ _ (do
  let kv <- eval ke X.env;let vv <- holding [kv] (eval ve X.env)
  (do
   standAt { ke.pos with endLine:=ve.pos.endLine,endCol:=ve.pos.endCol }
   holding [kv,vv] (dictSet A kv vv))) _ _ s
 obtain⟨b,C,rfl,hA,N,dA⟩:=B.grown;unfold ug AR at q;cases D:tk l O with
 |exc c O1=>rw[D] at q;exact q.elim
 |bad=>rw[D] at q;exact q.elim
 | ok x O1=>
  rw[D] at q;have f:yt X (CC ke ve) A XV a i H j (pK []) (match vq x with
   |some k=>(tv l O1).bnd λd n=>if (b.map rT).length<1000/\(b.map rT).any (Cw k)=Jh then .ok (b.map rT++[.map [k] [d]]) n else .bad
   |none=>.bad) Q:=q
  cases P:vq x with
  |none=>rw[P] at f;exact f.elim
  | some kk=>
   rw[P] at f;refine aa (Aw U (L.out a s i H (λv g=>∃h,Ext H j g h/\nk X.K g (A::XV) h O1/\Y2 X.K g (A::XV) h x v) B.inv ⟨A::XV,j,l,O,B.env,B.cells,by rw[D];exact λv H' R x c r=>⟨R,x,c,r⟩⟩)
    λu s1 ⟨v,g,I1,ru,h,V,c1,r1⟩=>?_)
   cases F:tv l O1 with
   |exc c n=>rw[F] at f;exact f.elim
   |bad=>rw[F] at f;exact f.elim
   | ok d n=>
    rw[F] at f;have G:yt X (CC ke ve) A XV a i H j (pK []) (if (b.map rT).length<1000/\(b.map rT).any (Cw kk)=Jh then .ok (b.map rT++[.map [kk] [d]]) n else .bad) Q:=f;by_cases I:(b.map rT).length<1000/\(b.map rT).any (Cw kk)=Jh
    ·rw[Ji I] at G;refine aa (bK (Aw U (M.out a s1 i g (λv J=>∃o,Ext g h J o/\nk X.K J (A::XV) o n/\Y2 X.K J (A::XV) o d v) I1 ⟨A::XV,h,l,O1,B.env.ext V,c1,by rw[F];exact λv H' R x c r=>⟨R,x,c,r⟩⟩)
      λu2 s2 ⟨W,J,Y,Mr,o,x2,c2,r2⟩=>?_))
     refine aa (dU (bK ?_));have nA:A∉j:=λm=>B.cells.nh A m 'd';have S:=V.trans x2;have t:=S.keep A _ hA nA;have T:=dA.ext S;have ek:=JT P r1;subst ek;obtain⟨z,hd,ws,w,dd⟩:=JV Y.hok t;have y:((b.map λp=>kD p.1).zip C).length=b.length:=by rw[gw,aA,<- N,Nat.min_self]
     have uv:b.length<1000:=by have:=I.1;rwa [aA] at this
     have hz:ws.length<=KM:=by rw[<- w.length];exact z
     refine wpAny_dictSet_pairs (JW ru) dd λh' Ci sb=>?_;have he:∃q,h'.get? A=Jd q:=let ⟨q,_,_,hq,_⟩:=Ci;⟨q,hq⟩;have sR:(A5 ((b.map λp=>kD p.1).zip C) (kD kk) W).length<=KM:=aG (z8U _ _ _) (by rw[y];exact aG uv 's');have I3:=zev (t':=s2.toks+1) Y (by rw[t];exact fL) sb he (Kk sR hd (w.put _ Mr) Ci);rw[zgf _ (Sr b C I.2)] at I3;refine G _ i _ o I3 (S.ea.trans (.putX (xG t))) (c2.putX (xG t)) ⟨b++[(kk,d)],C++[W],by rw[cA];rfl,?_,by simp[N],?_⟩ rfl λ_ _=>rfl
     ·rw[qP,cA,List.zip_append (by rw[aA];exact N)];rfl
     ·rw[cA];exact(T.append (.cons r2 .nil)).mv (Ea.putX (xG t)).mv
    ·rw[Jk I] at G;exact G.elim
end
def Inv.swapK(I:L2.Inv X Y1 σ H s)(e:H a=Jd u0)(h:(∃i,u0=.dK i) \/ ∃o i,u0=.frz o (.dK i))(r:∀o u,X.H₀ a≠Jd (.frz o u))(j:nJ X.prog X.w (upd H a u1) s.heap a u1):L2.Inv X Y1 σ (upd H a u1) s:=by
 have k:∀{b:ab}{d:List V},H b=Jd (.tup d)->b≠a:=λ{b d}z q=>by
  rw[q,e] at z;rcases h with⟨_,rfl⟩|⟨_,_,rfl⟩<;>cases z
 have f:∀{b:ab},H b=Jf->upd H a u1 b=Jf:=λ{b}z=>by rw[o9 (bI (rf e z))];exact z
 refine⟨I.ok,I.os,I.bare,⟨I.base.keep,I.base.slot,λb o g n t=>f (I.base.free b o g n t),I.base.there,λb d g=>?_,λb o u g=>?_,λb v g=>?_⟩,I.loc,I.cell,f I.free,λx c g=>f (I.freeC x c g),λp y=>let ⟨g1,g2,g3⟩:=I.pin p y;⟨g1,f g2,g3⟩,λb u g=>?_,I.len,I.tk⟩
 ·have z:=I.base.tups b d g;rw[o9 (k z)];exact z
 ·have n:b≠a:=λq=>r o u (q▸g);rw[o9 n];exact I.base.frzs b o u g
 ·obtain⟨m,z⟩:=I.base.tbls b v g;refine⟨m,?_⟩;rw[o9 (λq=>?_)];exact z;rw[q,e] at z;rcases h with⟨_,rfl⟩|⟨_,_,rfl⟩<;>cases z
 ·by_cases l:b=a
  ·subst l;rw[qP] at g;cases g;exact j
  ·rw[o9 l] at g;refine(I.hok b u g).stay (λ_ _ _ z=>z) (λA z=>?_) λA d z=>?_
   ·rw[o9 (λq=>?_)];exact z;rw[q,e] at z;rcases h with⟨_,rfl⟩|⟨_,_,rfl⟩<;>cases z
   ·rw[o9 (k z)];exact z
def Inv.nofrz(I:L2.Inv X Y1 σ H s)(e:H a=Jd (.dK l_)):∀o u,X.H₀ a≠Jd (.frz o u):=λo u z=>by
 have:=I.base.frzs a o u z;rw[e] at this;cases this
def Inv.frzK(I:L2.Inv X Y1 σ H s)(e:H a=Jd (.dK l_)):∃o,L2.Inv X Y1 σ (upd H a (.frz o (.dK l_))) s:=by obtain⟨z,d,f,b,c⟩:=JV I.hok e;obtain⟨o,h,i,g,r⟩:=id c;exact⟨o,Inv.swapK I e (.inl ⟨_,rfl⟩) (Inv.nofrz I e) ⟨g,z,d,f,b,c⟩⟩
def Inv.thawK(I:L2.Inv X Y1 σ H s)(e:H a=Jd (.frz o (.dK l_)))(c:∀o u,X.H₀ a≠Jd (.frz o u)):L2.Inv X Y1 σ (upd H a (.dK l_)) s:=by obtain⟨z,d,f,b,g⟩:=GR I.hok (.inr ⟨o,e⟩);exact Inv.swapK I e (.inr ⟨_,_,rfl⟩) c ⟨z,d,f,b,g⟩
def T_{K:ah}{H:Hp}{XV b:List ab}{O:Ow}{L:ab}{a:List (DK×D)}{vs:List V}{o:Obj}(c:nk K H (L::XV) b O)(d:L∉XV)(h:H L=Jd (.frz o (.dK ((a.map λp=>kD p.1).zip vs))))(e:a.length=vs.length)(q:np K H (L::XV) b (a.map (·.2)) vs):
  Y2 K H XV b (.map (Dh (a.map rT)) (Di (a.map rT))) (.ref L):=by rw[KL,KD];exact⟨L,vs,rfl,⟨o,by rw[aZ];exact h⟩,d,λm=>c.nh L m 'd',by rw[aA];exact e,q.mv .unhide⟩
def xl(ext:Nat)(it0:DI)(g:Tg)(ts:List DT)(cs:List Cl)(tk tv:DE):DE:=λσ O=>(Ao ext it0 g ts cs (AR tk tv) σ O).bnd λJa O1=>.ok (.map (Dh Ja) (Di Ja)) O1
section
variable{X:Cx}{Ex:Nat->Hp->Prop}
def Od{i j f b:aS}{c:List aS}{h:List bC}{a:cG}{l:Pos}{ext:List az}{g:Tg}{ts:List DT}{cs:List Cl}{tk tv:DE}
  (m:∀cells C s H d,PG (pU X (X.N++ext) a cells C s H d) f (g.rd X.K)/\bR (λe t=>qM (pU X (X.N++ext) a cells C s H d) pS e t) c ts/\nN (pU X (X.N++ext) a cells C s H d) h cs/\PD (pU X (X.N++ext) a cells C s H d) pS i tk/\PD (pU X (X.N++ext) a cells C s H d) pS j tv) {Z:ab->Hp->L2.St->Hp->List ab->Prop} (cells Cn s H d):
  PG (pU X (X.N++ext) a cells Cn s H d) f (g.rd X.K)/\bR (λe t=>qM (pU X (X.N++ext) a cells Cn s H d) pS e t) c ts/\nN (pU X (X.N++ext) a cells Cn s H d) h cs/\∀A XV k,(⟨f,b,c,0⟩::h:List bC)[k]?=Jf->zp (pU X (X.N++ext) a cells Cn s H d) (Z A H) (CC i j) A XV ((CC i j).ex (⟨f,b,c,0⟩::h) a l) (⟨f,b,c,0⟩::h) (AR tk tv) k []:=
 let ⟨h1,h2,h3,h4,h5⟩:=m cells Cn s H d
 ⟨h1,h2,h3,λ_ _ _ n=>zex rfl h4 h5 n⟩
def zfk(ext:List az)(B:X.calm=Jg)(D:sD X Ex tg iter it0)(E:v7 X.env.scope scope (X.N++ext) (pK (⟨it0,g,ts⟩::cs)))
  (F:∀cells C s H a,PG (pU X (X.N++ext) scope cells C s H a) tg (g.rd X.K)/\bR (λe t=>qM (pU X (X.N++ext) scope cells C s H a) pS e t) ifs ts/\nN (pU X (X.N++ext) scope cells C s H a) gs cs/\PD (pU X (X.N++ext) scope cells C s H a) pS ke tk/\PD (pU X (X.N++ext) scope cells C s H a) pS ve tv)
  (G:∀x,bM iter X.env x=pure x:=by intro _;rfl):PD X Ex (.DictComp ke ve (⟨tg,iter,ifs,0⟩::gs) scope pos) (xl ext.length it0 g ts cs tk tv):=by
 refine⟨?_⟩;rintro j s b_ H Q I ⟨f,μ,M,O,P,k,q⟩;show ay _ _ (comprehension (.DictComp ke ve (⟨tg,iter,ifs,0⟩::gs) scope pos) scope X.env _ newDict Jh (eval iter X.env)) _ _ s;unfold xl at q;refine Ez (SH ke ve) (use:=Jf) B D E (λcells R s H a _ _ _=>Od F cells R s H a) G I P k ?_;cases h:Ao ext.length it0 g ts cs (AR tk tv) M O with
 |bad=>rw[h] at q;exact q
 |exc c' O'=>rw[h] at q;exact q
 | ok Ja O'=>
  rw[h] at q;rintro L l r v x c ⟨w,y,rfl,i,S,T⟩ s' C U V W Y Z ce pn;obtain⟨m,hn⟩:=V;have n1:L∉f:=λm=>k.ht L m v;refine⟨m,hn,λh' uq=>?_⟩;obtain⟨o,J⟩:=Inv.frzK (Inv.bare U uq W Y Z ce pn) i;have z:Ea L l r (upd l L (.frz o (.dK ((w.map λp=>kD p.1).zip y)))) r:=.putX (xG i);have A:=c.putX (o:=.frz o (.dK ((w.map λp=>kD p.1).zip y))) (xG i);have d:=x.ea.trans z;exact⟨.ref L,_,J,rfl,post.ok q ⟨d.pre,λb u g n ht=>d.kept b u g n (rf g v) ht,d.fresh,d.there,d.tab⟩ A.unhide (T_ A n1 qP S (T.mv z.mv))⟩
end
def CH:Ow->List D->R D:=λO xs=>match xs with
 | [x]=>match rk O x with
  | some ds=>match tO ds with
   |some ss=>if ss.Nodup/\ss.length<64 then .ok (.lst ((pM ss).map .str)) O else .bad
   |none=>.bad
  |none=>.bad
 |_=>.bad
def Qy{a:m_}{os:List az}(b:os.Perm (a.map toS))(d:a.Nodup)(f:sortedS os=Jg):os=(pM a).map toS:=by
 have g:(a.map toS).Nodup:=by
  rw[List.nodup_iff_pairwise_ne] at d ⊢;rw[dM];refine d.imp λh e=>h ?_;have e:(toS _).cps=(toS _).cps:=congrArg Str.cps e;simpa using e
 have i:(os.map (·.cps.toList)).Pairwise (· < ·):=by
  cases os with
  |nil=>exact eZ
  |cons p l=>exact S8 p l f (b.nodup_iff.mpr g)
 have j:os.map (·.cps.toList)=pM a:=RB i (EJ a) λx=>by
  rw[xn,av];constructor
  ·rintro⟨o,k,rfl⟩;obtain⟨q,m,rfl⟩:=av.mp (b.mem_iff.mp k);exact m
  ·intro n;exact⟨toS x,b.mem_iff.mpr (av.mpr ⟨x,n,rfl⟩),rfl⟩
 rw[<- j,aZ];refine(i0 os).symm.trans (dj λo _=>?_);obtain⟨c⟩:=o;rfl
section
variable{X:Cx}{Ex:Nat->Hp->Prop}{H:Hp}{XV μ:List ab}
def O7(K:ah):List V->Hp->VK->Prop:=λxs H Q=>∃p ss,xs=[.ref p]/\qg K H p (ss.map λcs=>V.str ⟨cs.toArray⟩)/\ss.Nodup/\ss.length<64/\∀l,H l=Jf->Q (.ref l) (upd H l (.lst ((pM ss).map λcs=>V.str ⟨cs.toArray⟩)))
def zcA:nF X (.builtin "sorted") (O7 X.K):=by
 intro g s E H F G Q I r h;obtain⟨p,a,rfl,m,n,i,q⟩:=h;obtain⟨u,rfl,t⟩:=tu r;cases t;obtain⟨d,j,v,J⟩:=I.list m;have w:(a.map λf=>V.str ⟨f.toArray⟩)=(a.map toS).map V.str:=by rw[aZ];rfl
 have x:jy d (a.map toS):=HR (by rw[<- w];exact j);have b:d.length=a.length:=by have:=j.length;simpa using this.symm
 refine sorted_strs v.isList x (by rw[b];exact i) λc L y k A=>?_;have e:=Qy k n A;subst e;obtain⟨e,B⟩:=sortedAll_at s.heap d c;have C:H (s.heap.objs.size+1)=Jf:=I.hok.fresh (d9 _);refine⟨.ref _,_,I.laid (t':=s.toks) (o:=.lst ((pM a).map λf=>V.str ⟨f.toArray⟩)) (λ_ _ z=>sortedAll_old z) (d9 _) ?_,rfl,q _ C⟩;have l:=LA y;rw[aZ] at l;refine⟨?_,c.toList,e,l,by rw[B]⟩;have D:(pM a).length=a.length:=by have:=k.length_eq;simpa using this
 rw[aA,D];exact aG (fk i) 's'
def zi7:ue X Ex (O7 X.K) CH:=by
 intro H XV μ O n o Q c d q;unfold CH at q;split at q
 ·rename_i x;obtain⟨v,rfl,b⟩:=sI d;split at q
  ·rename_i r e;obtain⟨p,s,rfl,f,g⟩:=uj c b e;split at q
   ·rename_i h i;obtain⟨⟨j,k⟩,q⟩:=post.ite q;have m:=Hq g i;subst m;exact⟨p,h,rfl,f,j,k,λl a=>post.ok q (.laid a) (c.laid a) (Y2.newL c a (Lr _))⟩
   ·exact aj q
  ·exact aj q
 ·exact aj q
end
def vD(k:DK):List DK->List D->Option D
 |j::ks,d::ds=>if j=k then Jd d else vD k ks ds
 |_,_=>Jf
theorem SE{K:ah}{H:Hp}{XV b:List ab}{k:DK}{d:D}:∀{a:List DK}{ds:List D}{vs:List V},a.length=vs.length->np K H XV b ds vs->vD k a ds=Jd d->∃v,tQ ((a.map kD).zip vs) (kD k)=Jd v/\Y2 K H XV b d v
 |[],_,_,_,_,h=>by unfold vD at h;cases h
 |_::_,[],_,_,_,h=>by unfold vD at h;cases h
 |j::a,d'::ds,[],hl,_,_=>by cases hl
 | j::a,d'::ds,v::vs,hl,dd,h=>by
  obtain⟨i,l,c,f,g⟩:=(show ∃w r,v::vs=w::r/\Y2 K H XV b d' w/\np K H XV b ds r from dd);cases c;unfold vD at h;show ∃w,tQ ((kD j,v)::(a.map kD).zip vs) (kD k)=Jd w/\_;by_cases e:j=k
  ·rw[Ji e] at h;cases h;exact⟨v,ED (p:=(kD j,v)) (congrArg kD e),f⟩
  ·rw[Jk e] at h;rw[C0 (p:=(kD j,v)) (λz=>e (Hd z))];exact SE (lI hl) g h
def CG(td ty:DE):DE:=λσ O=>(td σ O).bnd λx O1=>match x with
 | .map ks ds=>(ty σ O1).bnd λy O2=>match vq y with
  | some k=>match vD k ks ds with
   |some d=>.ok d O2
   |none=>.bad
  |none=>.bad
 |_=>.bad
section
variable{X:Cx}{Ex:Nat->Hp->Prop}{o i:aS}{pos:Pos}{td ty:DE}
def zfs{o i:aS}{pos:Pos}{td ty:TE}(n:PE X o td)(p:PE X i ty)(q:GC i):PE X (.Subscript o i pos) (λσ H Q=>td σ H λx d=>ty σ d λy c=>∃a f k v,x=.ref a/\Rd c a (.dK f)/\y=kV k/\tQ f k=Jd v/\Q v c):=by intro b s σ H Q I h;refine Q9 (T := "dict") js.lookup q (o7 (n b s σ H _ I h) λu r ⟨x,d,t,w,A⟩=>o7 (p b r σ d _ t A) λK L ⟨y,c,j,B,a,f,k,v,C,e,D,l,E⟩=>?_);subst C D;obtain rfl:u=fG a:=w;obtain⟨z,M,F,g,m⟩:=GR j.hok e;obtain⟨N,G,J⟩:=n6.some_of (v:=v) (o:=valueAt F k) (by rw[<- l];exact g.val k);exact⟨m.mapOf.typeIs,wpAny_getItem_of (JW B) m.mapOf G ⟨v,c,j.tok _,J,E⟩⟩
def zir(g:PD X Ex o td)(h:PD X Ex i ty)(j:GC i):PD X Ex (.Subscript o i pos) (CG td ty):=
 qN (zfs g.out h.out j) λl G I O J H Q m n q=>rd.go m n q λd K v L M s x t r p=>by
  cases d with
  | map ks ds=>
   refine rd.go s t p λy N w P R S u z A b=>?_;have f:=Y2.ext u r;unfold Y2 at f;obtain⟨a,T,rfl,B,U,V,C,D⟩:=f;cases c:vq y with
   |none=>rw[c] at b;exact b.elim
   | some k=>
    rw[c] at b;dsimp only at b;cases e:vD k ks ds with
    |none=>rw[e] at b;exact b.elim
    | some d=>
     rw[e] at b;obtain⟨v,E,F⟩:=SE C D e;exact⟨a,_,kD k,v,rfl,.inr B,JT c A,E,post.here b z F⟩
  |_=>exact aj p
end
section
variable{X:Cx}{Ex:Nat->Hp->Prop}
def YX:bu "sum" = Jd (.builtin "sum"):=by boot_by_name
def zeh(f:X.calm=Jg):nF X (.builtin "sum") (λxs H Q=>∃(p:ab)(ns:List Int),xs=[.ref p]/\qg X.K H p (ns.map V.int)/\Q (.int ns.sum) H):=by
 intro b s t H xs v Q I r h;obtain⟨p,ns,rfl,g,q⟩:=h;obtain⟨u,rfl,i⟩:=tu r;cases i;obtain⟨w,j,k,x⟩:=I.list g;have c:=TU j;obtain⟨a,d⟩:=c.allInts.items;have l:ns=a.toList.map (·.1):=by rw[<- c.numsOf,<- kZ,<- d]
 have e:=k.isList;rw[d] at e;refine wT I (sum_intListG (I.ok.hd f) e λy m t' n z=>?_);have o:preSum (numAt a) a.size=ns.sum:=by
  rw[preSum_eq,cM 'd',l]
 rw[o];exact⟨.int _,H,I.kept (t':=m) n,⟨_,rfl⟩,q⟩
def GH:Ow->List D->R D:=λO xs=>match xs with
 | [x]=>match rk O x with
  | some ds=>match yk ds with
   |some ns=>.ok (.int ns.sum) O
   |none=>.bad
  |none=>.bad
 |_=>.bad
def Xi:ue X Ex (λxs H Q=>∃(p:ab)(ns:List Int),xs=[.ref p]/\qg X.K H p (ns.map V.int)/\Q (.int ns.sum) H) GH:=by
 intro H a i O xs j Q c d q;unfold GH at q;split at q
 ·rename_i x;obtain⟨v,rfl,b⟩:=sI d;split at q
  ·rename_i k e;obtain⟨p,l,rfl,f,g⟩:=uj c b e;split at q
   ·rename_i ns h;refine⟨p,ns,rfl,?_,post.here q c rD⟩;rw[<- KH g h];exact f
   ·exact aj q
  ·exact aj q
 ·exact aj q
end
section
variable{X:Cx}{Ex:Nat->Hp->Prop}
def zd9(_:Nx ext)(b:X.calm=Jg)(c:v7 X.env.scope scope (X.N++ext) (pK (⟨it0,g,ts⟩::cs)))(d:sD X Ex tg iter it0)
  (f:∀cells C s H a,PG (pU X (X.N++ext) scope cells C s H a) tg (g.rd X.K)/\bR (λe t=>qM (pU X (X.N++ext) scope cells C s H a) pS e t) ifs ts/\nN (pU X (X.N++ext) scope cells C s H a) gs cs/\PD (pU X (X.N++ext) scope cells C s H a) pS ke tk/\PD (pU X (X.N++ext) scope cells C s H a) pS ve tv)
  (h:ext.length=k:=by rfl) (i:∀x,bM iter X.env x=pure x:=by intro _;rfl):PD X Ex (.DictComp ke ve (⟨tg,iter,ifs,0⟩::gs) scope pos) (xl k it0 g ts cs tk tv):=h▸zfk ext b d c f i
end
end DL
namespace DL
open PySem L2
open PyProof.Rows (AllBare)
structure zo9(Cl:Nat->ae)(P:aQ)(w:a8)(K:ah)(mg:az->Option ae)(base:aV)(x:az)(k n:Nat)(Pt:ab)(F:o5):Prop where
 ex:∃f fd ps,mg x=Jd (.ref f)/\cJ K (.ref f)=Jg/\Binds K fd ps []/\nK P w K mg base (NW P w Cl) k f fd ps (yV K (Xk Cl) n Pt F)
structure vp(K:ah)(mg:az->Option ae)(x:az)(st:dW)(c:ab):Prop where
 ex:∃f fd,mg x=Jd (.ref f)/\L2.Fun K x x st f fd/\fd.code=.ref c
def qZ(Pt iT n:Nat)(F:o5)(t:DA):DE:=λσ O=>match σ[iT]? with
 |some (Jd (.tab p))=>if p=Pt then k_ n F t σ O else .bad
 |_=>.bad
structure Jv where
 params:ip
 body:aS
 scope:cG
 tE:DE
def XD(X:Cx)(L:Jv)(c:ab)(ct:ae):Obj:={ cls:=.type "function",data:=.func (dG "<lambda>" (X.env.qual ++ "<lambda>") L.params L.body L.scope (q_ X.env.cells L.scope.names []) ((X.mg "__name__").getD .none) (.ref c) ct) }
def n9(X:Cx)(L:Jv)(H:Hp)(a:ab):Prop:=∃c φ ct,H a=Jd (.ext λh=>h.get? a=Jd (XD X L c ct))/\H c=Jd (.ext φ)/\∀h:aV,φ h->∃q,h.CodeRec (.ref c) q
structure zpe(Cl:Nat->ae)(X:Cx)(k:Nat)(L:Jv):Prop where
 ls:zfM X.env.scope L.scope
 df:defaultsOf L.params X.env=([],[])
 bl:∀(name qual:az)(cl:List (az×ab))(pm cd ct:ae),bindArgs (dG name qual L.params L.body L.scope cl pm cd ct) ⟨[],[]⟩=pure []
 E:∀(q:az)(lam:ab)(cd:ae)(cl:List (az×ab))(A:be)(outer:List Env)(s:ag)(H:Hp)(E:XK),nD k (A.deeper (xg q L.scope s.heap.objs.size lam cd cl))->PD (cxL (NW X.prog X.w Cl) X.prog X.w X.K X.mg X.base X.N (xg q L.scope s.heap.objs.size lam cd cl) A outer s H E) (Xk Cl E) L.body L.tE
section
variable{X:Cx}{H H':Hp}
def n9.ext(h:n9 X L H a)(x:Ext H [] H' []):n9 X L H' a:=by obtain⟨c,b,d,e,f,g⟩:=h;exact⟨c,b,d,x.keep _ _ e 'd',x.keep _ _ f 'd',g⟩
end
structure Jy(X:Cx)(H0:Hp)(l:ab)(ls:List Jv)(as:List ab)(H:Hp):Prop where
 nl:H0 l=Jf
 ea:Ea l H0 [] H []
 at_:H l=Jd (.lst (as.map V.ref))
 lam:bR (λL a=>n9 X L H a) ls as
 nd:as.Nodup
def Jy.ext(b:Jy X H0 l ls as H)(a:List ab):Ext H0 a H a:=
 ⟨⟨[],by simp⟩,λc o h _ d=>b.ea.kept c o h 'd' (rf h b.nl) d,λ_ m=>.inl m,b.ea.there,b.ea.tab⟩
def Jy.cells(b:Jy X H0 l ls as H)(c:nk K H0 XV μ O):nk K H XV μ O:=by refine⟨c.len,c.nd,c.nh,λa m=>b.ea.there a (c.ht a m),λk a e=>?_⟩;obtain⟨f,g,h,d,i⟩:=c.at_ k a e;exact⟨f,g,h,b.ea.kept a _ d 'd' (rf d b.nl) (by intro j z;cases z),i.ext (b.ext μ)⟩
def nq.take(e:nq K H XV μ σ b_)(n:Nat):nq K H XV μ (σ.take n) (b_.take n):=
 ⟨by simp[e.len],λi d h=>by
  rw[i6] at h;split at h
  ·rename_i a;obtain⟨v,b,c⟩:=e.at_ i d h;exact⟨v,by rw[i6,Ji a];exact b,c⟩
  ·cases h⟩
def nq.drop(e:nq K H XV μ σ b_)(i:Nat):nq K H XV μ (σ.set i Jf) b_:=
 ⟨by simp[e.len],λj d h=>by
  by_cases a:i=j
  ·subst a;by_cases b:i<σ.length
   ·rw[bq b] at h;cases h
   ·rw[aY.mpr (by simp;lia)] at h;cases h
  ·rw[bj a] at h;exact e.at_ j d h⟩
section
end
def n9.mono(h:n9 X L H a)(k:∀b d,H b=Jd (.ext d)->H' b=Jd (.ext d)):n9 X L H' a:=by obtain⟨c,d,e,f,g,i⟩:=h;exact⟨c,d,e,k _ _ f,k _ _ g,i⟩
end DL
namespace DL
open PySem L2 PySem.Spec PyProof.Rows
open Sem (wp)
def A6(x:Int):List Int->List Int
 |[]=>[x]
 |y::r=>if x<=y then x::y::r else y::A6 x r
def w_:List Int->List Int
 |[]=>[]
 |x::r=>A6 x (w_ r)
theorem LB(x:Int):∀l:List Int,(A6 x l).Perm (x::l)
 |[]=>.refl _
 | y::r=>by
  unfold A6;split
  ·exact .refl _
  ·exact((LB x r).cons y).trans (.swap x y r)
theorem Lz:∀l:List Int,(w_ l).Perm l
 |[]=>.refl _
 |x::r=>(LB x _).trans ((Lz r).cons x)
theorem Sh:∀{l:List Int},l.Pairwise (· <= ·)->(A6 x l).Pairwise (· <= ·)
 |[],_=>by simp[A6]
 | y::r,h=>by
  unfold A6;obtain⟨b,c⟩:=bw.mp h;split
  ·rename_i a;refine bw.mpr ⟨λz hz=>?_,h⟩;rcases ar.mp hz with rfl|hz
   ·exact a
   ·exact Int.le_trans a (b z hz)
  ·rename_i a;refine bw.mpr ⟨λz hz=>?_,Sh c⟩;rcases ar.mp ((LB x r).mem_iff.mp hz) with rfl|hz
   ·lia
   ·exact b z hz
theorem Sd:∀l:List Int,(w_ l).Pairwise (· <= ·)
 |[]=>.nil
 |x::r=>Sh (Sd r)
def Q3{os ns:List Int}(c:os.Perm ns)(d:os.Pairwise (· <= ·)):os=w_ ns:=
 List.Perm.eq_of_pairwise (λa b _ _ e f=>mH e f) d (Sd ns) (c.trans (Lz ns).symm)
noncomputable def xf:List D->Option (List Int)
 |[]=>Jd []
 |.int i::r=>(xf r).map (i :: ·)
 |_=>Jf
def CL:Ow->List D->R D:=λO xs=>match xs with
 | [x]=>match (match rk O x with|some ds=>Jd ds|none=>zy x) with
  | some ds=>match xf ds with
   |some ns=>if ns.length<64 then .ok (.lst ((w_ ns).map .int)) O else .bad
   |none=>.bad
  |none=>.bad
 |_=>.bad
theorem QR:∀{ds:List D}{ns:List Int},xf ds=Jd ns->ds=ns.map .int
 |[],ns,h=>by cases h;rfl
 | .int i::r,ns,h=>by
  unfold xf at h;cases e:xf r with
  |none=>rw[e] at h;cases h
  |some m=>rw[e] at h;cases h;rw[QR e];rfl
theorem HF{K:ah}{H:Hp}{XV a:List ab}:∀(ns:List Int),np K H XV a (ns.map D.int) (ns.map V.int)
 |[]=>.nil
 |x::r=>.cons rD (HF r)
theorem LO{K:ah}{H:Hp}{XV a:List ab}:∀{ns:List Int}{vs:List V},np K H XV a (ns.map D.int) vs->vs=ns.map V.int
 |[],vs,h=>by unfold np at h;exact h
 | x::r,vs,h=>by
  have h:np K H XV a (D.int x::r.map D.int) vs:=h;unfold np at h;obtain⟨v,t,rfl,b,c⟩:=h;unfold Y2 at b;subst b;rw[LO c];rfl
def z7I{ns:List Int}:∀{a:List ae},nu (ns.map V.int) a->gP a ns:=by
 induction ns with
 |nil=>intro a h;cases h;exact .nil
 | cons x r ih=>
  intro a h;cases h with
  | cons h1 h2=>
   obtain⟨t,rfl⟩:=h1;exact .cons _ _ (ih h2)
def z94{prog:aQ}{w:a8}{A:be}{E:ae->ag->Prop}{s:ag}{p:ab}{T:String}{o:Obj}{vs:List ae}{n:Nat}{ns:List Int}{Q:ae->ag->Prop}(j:T = "list" \/ T = "tuple")(k:s.heap.get? p=Jd o)(l:o.cls=.type T)(r:o.data=.seq vs.toArray n)(t:gP vs ns)(g:vs.length<64)
  (h:∀(a h':aV)(out:List ae)(e:Nat)(d:List Int),(∀b c,s.heap.get? b=Jd c->a.get? b=Jd c)->(∀b c,a.get? b=Jd c->h'.get? b=Jd c)->h'.get? a.objs.size=Jd { cls:=.type "list",data:=.seq out.toArray e }->gP out d->d.Perm ns->d.Pairwise (· <= ·)->Q (.ref a.objs.size) { s with heap:=h' }):
  ay (aC prog w) A (call (.builtin "sorted") [.ref p]) Q E s:=by
 refine gu me lE lG (lH _) ?_;unfold fY.«sorted»;refine aa (m:=checkCount "sorted" 1 1 _) (aq ?_);have hsz:vs.toArray.size<=KM:=by rw[aJ];exact aG (fk g) 's'
 refine aa (wpAny_collect_seq (hsz:=hsz) p j k l r λa u=>?_);refine aa (gi ?_);have f:(a.push (seqObj "list" vs.toArray 0)).get? a.objs.size=Jd (seqObj "list" vs.toArray 0):=aO _ rfl;have v:vs.toArray.toList=vs:=by simp
 rw[v];show ay _ _ _ _ _ { s with heap:=a.push (seqObj "list" vs.toArray 0) };refine aa (bK (cB ku ⟨_,f,rfl⟩ jR (list_sort_tree f t g λout d x y z=>⟨_,rfl,?_⟩) (kw _)));obtain⟨e,B⟩:=sortedHeap_at (vs:=vs) (out:=out) f;refine aq ⟨_,rfl,h a _ out.toList e d u (λb c q=>?_) (by rw[B]) x y z⟩;have i:=aR q;rw[sortedHeap_old (bt i) (by rw[size_push'];exact gW i)];exact ai _ q
section
variable{X:Cx}{Ex:Nat->Hp->Prop}{H:Hp}{XV μ:List ab}
def ON(K:ah):List V->Hp->VK->Prop:=λxs H Q=>∃p ns,xs=[.ref p]/\(qg K H p (ns.map V.int)\/qX K H p (ns.map V.int))/\ns.length<64/\∀l,H l=Jf->Q (.ref l) (upd H l (.lst ((w_ ns).map V.int)))
theorem Tq:∀{a:List ae}{ns:List Int},gP a ns->nu (ns.map V.int) a
 |_,_,.nil=>.nil
 |_,_,.cons _ _ r=>.cons ⟨_,rfl⟩ (Tq r)
def zcM:nF X (.builtin "sorted") (ON X.K):=by
 intro a s m H O P Q I r h;obtain⟨p,c,rfl,sq,t,q⟩:=h;obtain⟨u,rfl,y⟩:=tu r;cases y;have f:∀(b:List ae)(T:String)(o:Obj)(n:Nat),(T = "list" \/ T = "tuple")->s.heap.get? p=Jd o->o.cls=.type T->o.data=.seq b.toArray n->nu (c.map V.int) b->ay (aC X.prog X.w) X.A (call (.builtin "sorted") [.ref p]) (EP X a m Q) X.xe s:=by
  intro b T o n z g i j d;have k:b.length=c.length:=by have:=d.length;simpa using this.symm
  refine z94 z g i j (z7I d) (by rw[k];exact t) λv R l e S B C D E F G=>?_;have J:=Q3 F G;subst J;have x:L2.Inv X a m H { s with heap:=v }:=I.kept (t':=s.toks) B;have L:(w_ c).length=c.length:=(Lz c).length_eq;exact⟨.ref v.objs.size,_,x.laid (t':=s.toks) (o:=.lst ((w_ c).map V.int)) C (aE _) ⟨by rw[aA,L];exact aG (fk t) 's',l,e,Tq E,D⟩,rfl,q _ (x.hok.fresh (aE _))⟩
 rcases sq with sq|sq
 ·obtain⟨b,d,M,N⟩:=I.list sq;obtain⟨o,g,i,n,j⟩:=M.isList;exact f b "list" o n (.inl rfl) g i j d
 ·obtain⟨b,d,⟨o,g,i,n,j⟩,N⟩:=I.tuple sq;exact f b "tuple" o n (.inr rfl) g i j d
def ZQ:ue X Ex (ON X.K) CL:=by
 intro H XV μ O s t Q c d q;unfold CL at q;split at q
 ·rename_i x;obtain⟨v,rfl,j⟩:=sI d;split at q
  ·rename_i m e;split at q
   ·rename_i b n;obtain⟨k,q⟩:=post.ite q;have o:=QR n;subst o;have a:∀l,H l=Jf->Q (.ref l) (upd H l (.lst ((w_ b).map V.int))):=λl f=>post.ok q (.laid f) (c.laid f) (Y2.newL c f (HF _));cases g:rk O x with
    | some m=>
     rw[g] at e;cases e;obtain⟨p,r,rfl,h,i⟩:=uj c j g;have:=LO i;subst this;exact⟨p,b,rfl,.inl h,k,a⟩
    | none=>
     rw[g] at e;obtain⟨p,r,rfl,h,i⟩:=Bj j e;have:=LO i;subst this;exact⟨p,b,rfl,.inr h,k,a⟩
   ·exact aj q
  ·exact aj q
 ·exact aj q
end
theorem CZ{α:Type}(l:List α):∀k:Nat,(aH k l).flatten.length=k*l.length
 |0=>by simp
 |k+1=>by rw[List.replicate_succ,gX,aw,CZ l k,lJ,Nat.add_comm]
end DL
namespace DL
open PySem L2 PySem.Spec PyProof.Rows
open Sem (wp)
open AutoSeq1 (wpAny_loadPart')
section
variable{X:Cx}{Ex:Nat->Hp->Prop}{o e a:aS}{to ta:DE}{t:DA}{pos p:Pos}
def zp8(to:DE)(t:DA):DE:=λσ O=>(to σ O).bnd λx O1=>match x with
 | .tup ds=>(t σ O1).bnd λys O2=>match xf ds,ys with
  |some ns,[.int k]=>if k∈ns then .ok (.int (ns.idxOf k)) O2 else .bad
  |_,_=>.bad
 |_=>.bad
noncomputable def sH(n:Nat):List Int:=(aM n).map λi:Nat=>(i:Int)
def Wn(ta:TA):TE:=λσ H Q=>ta σ H λvs H1=>∃n:Nat,vs=[.int n]/\n<=1000/\∀r,H1 r=Jf->Q (.ref r) (upd H1 r (.rng 0 n))
def Xg{ta:TA}(g:Gl X "range")(i:X.mg "range" = Jf)(j:PA X [a] ta)(k:aP [a] X.env=[(Jh,eval a X.env)]:=by rfl):PE X (.Call (.Name "range" p) [a] [] pos) (Wn ta):=by intro c s l H Q I h;refine jJ (Ai I g i boot_range (dO (o7 (j pos c s l H _ I h) λv d ⟨w,x,f,m,n,e,y,q⟩=>?_) k rfl));subst e;obtain⟨u,rfl,r⟩:=tu m;obtain⟨t,rfl⟩:=r;refine call_range_1 ⟨.ref d.heap.objs.size,_,f.laid (t':=d.toks+1+1) (o:=.rng 0 n) (λb o e=>ai _ e) (aE _) ⟨_,_,_,aO _ rfl⟩,rfl,q _ (f.hok.fresh (aE _))⟩
theorem TN{α β:Type}{F:α->β->Prop}:∀(l:List α)(m:List β),l.length=m.length->(∀(i:Nat)a b,l[i]?=Jd a->m[i]?=Jd b->F a b)->bR F l m
 |[],[],_,_=>.nil
 |a::l,b::m,h,k=>.cons (k 0 a b rfl rfl) (TN l m ⇑h λi x y c d=>k (i+1) x y ⇑c ⇑d)
 |[],_::_,h,_=>by simp at h
 |_::_,[],h,_=>by simp at h
def zdQ{Ja:Array ae}{n:Nat}(h:ItemsOf (λi v=>∃t,v=.int (0+i*1) t) Ja n):nu ((sH n).map V.int) Ja.toList:=by
 refine TN _ _ (by simp[sH,h.1]) λi a b c d=>?_;obtain⟨t,rfl⟩:=h.2 i b ⇑d;have f:i<n:=by
  have:=(al.mp c).1;simpa [sH] using this
 have:a=.int i:=by
  simp only[sH,aZ,bd,er f,jO,Function.comp] at c;cases c;rfl
 subst this;exact⟨t,by simp⟩
def zgC(n:Nat):jI 0 n 1=(n:Int):=by rw[rangeSize_one];split<;>lia
def zb1(g:X.calm=Jg):nF X (.type "list") (λxs H Q=>∃(r:ab)(n:Nat),xs=[.ref r]/\H r=Jd (.rng 0 n)/\n<=1000/\∀l,H l=Jf->Q (.ref l) (upd H l (.lst ((sH n).map V.int)))):=by
 intro f s z H xs A Q I r h;obtain⟨i,n,rfl,j,k,q⟩:=h;obtain⟨u,rfl,m⟩:=tu r;cases m;obtain⟨B,C,D,e⟩:=I.hok i _ j;refine wT I (call_list_range (I.ok.hd g) e (small_one 'o' 'o' 'o' 'o') (zgC n) 'o' λE v d c w x y F=>?_);have b:((sH n).map V.int).length=n:=by simp[sH]
 exact⟨.ref s.heap.objs.size,_,I.laid (t':=v) (o:=.lst ((sH n).map V.int)) w (aE _) ⟨by rw[b];exact aG k 's',d.toList,c,zdQ y,by simpa using x⟩,rfl,q _ (I.hok.fresh (aE _))⟩
def CJ(o:Bool)(t:DA):DE:=λσ O=>(t σ O).bnd λxs O1=>match xs with
 |[.int i]=>if 0<=i/\i<=1000 then (if o=Jg then .ok (.own O1.length) (O1++[(sH i.toNat).map .int]) else .ok (.lst ((sH i.toNat).map .int)) O1) else .bad
 |_=>.bad
def Zd(o:Bool){x y:Pos}(z:X.calm=Jg)(f:Gl X "list")(A:X.mg "list" = Jf)(g:bu "list" = Jd (.type "list"))(B:Gl X "range")(C:X.mg "range" = Jf)(D:sE X Ex [a] t)
  (E:aP [a] X.env=[(Jh,eval a X.env)]:=by rfl) (m:aP [.Call (.Name "range" p) [a] [] pos] X.env=[(Jh,eval (.Call (.Name "range" p) [a] [] pos) X.env)]:=by rfl):PD X Ex (.Call (.Name "list" x) [.Call (.Name "range" p) [a] [] pos] [] y) (CJ o t):=
 qN (Lf (zb1 z) f A g (Ej (Xg B C D.out E) G6 m) 's' 's' m rfl) λc L M O N H Q F G q=>sY.go F G q λP h R n s S T u I b=>by
  split at b
  ·rename_i i;obtain⟨⟨J,U⟩,b⟩:=post.ite b;obtain⟨w,rfl,v⟩:=sI I;unfold Y2 at v;subst v;refine⟨i.toNat,by rw[Int.toNat_of_nonneg J],by lia,λr j=>⟨r,i.toNat,rfl,qP,by lia,λl d=>?_⟩⟩;have k:=u.laid (o:=.rng 0 i.toNat) j;cases o with
   |false=>exact post.ok (show qC Ex X.K n c s (.ok (.lst ((sH i.toNat).map .int)) h) Q from b) (Ext.trans (.laid j) (.laid d)) (k.laid d) (Y2.newL k d (HF _))
   | true=>
    have b:qC Ex X.K n c s (.ok (.own h.length) (h++[(sH i.toNat).map .int])) Q:=b;exact post.ok b (Ext.trans (.laid j) (.cell d)) (k.cell d (HF _)) (Ie u.len)
  ·exact aj b
end
end DL
namespace DL
open PySem L2 PySem.Spec PyProof.Rows
section
end
end DL
namespace DL
open PySem L2
section
variable{Ex:Nat->Hp->Prop}
def nw.seq(q:nw Ex K H XV μ (oM t u σ O) E):nw Ex K H XV μ (t σ O) { E with nx:=λf H'=>Mt Ex K u E f H' }:=by
 unfold oM at q;cases e:t σ O with
 | nx σ' O'=>
  rw[e] at q;exact λi H' g h a b=>⟨XV,g,σ',O',a,b,q.ext h⟩
 |rt d O'=>rw[e] at q;exact q
 |bk σ' O'=>rw[e] at q;exact q
 |ct σ' O'=>rw[e] at q;exact q
 |exc c O'=>rw[e] at q;exact q
 |bad=>rw[e] at q;exact q
end
end DL
namespace DL
open PySem L2 PySem.Spec PyProof.Rows
noncomputable def Cz:List ae->List Int->Bool
 |[],[]=>Jg
 |.int i _::vs,k::ks=>i==k&&Cz vs ks
 |_,_=>Jh
def Jz(o:Obj)(ks:List Int):Bool:=(match o.cls with|.type n=>n == "tuple"|_=>Jh)&&o.dict.isNone&&(match o.data with|.seq d_ _=>Cz d_.toList ks&&decide (d_.size<=1000)|_=>Jh)
structure JG(K:ah)(mg:az->Option ae)(x:az)(ks:List Int):Prop where
 ex:∃e o,mg x=Jd (.ref e)/\K.lookup e=Jd o/\Jz o ks=Jg
theorem TB:∀{vs:List ae}{a:List Int},Cz vs a=Jg->nu (a.map V.int) vs
 |[],[],_=>.nil
 | .int i t::vs,k::a,h=>by
  have h:(i==k&&Cz vs a)=Jg:=h;rw[aT] at h;have e:i=k:=⇑h.1
  subst e;exact .cons ⟨_,rfl⟩ (TB h.2)
 |[],_::_,h=>by cases h
 |v::_,[],h=>by cases v<;>cases h
theorem TX{K:ah}{H:Hp}{XV b:List ab}:∀a:List Int,np K H XV b (a.map D.int) (a.map V.int)
 |[]=>.nil
 |_::a=>.cons rD (TX a)
section
variable{X:Cx}{Ex:Nat->Hp->Prop}{pos:Pos}
def zic(h:JG X.K X.mg x ks)(k:Gl X x:=by rfl)(c:rG x:=by decide):PD X Ex (.Name x pos) (dC (.tup (ks.map .int))):=by
 obtain⟨e,o,l,i,f⟩:=h.ex;unfold Jz at f;rw[aT,aT] at f;obtain⟨⟨d,m⟩,b⟩:=f;obtain⟨a,n,p,r,s⟩:∃a n,o.data=.seq a n/\Cz a.toList ks=Jg/\a.size<=1000:=by
  cases c:o.data with
  | seq a n=>
   rw[c] at b;have b:(Cz a.toList ks&&decide (a.size<=1000))=Jg:=b;rw[aT] at b;exact⟨a,n,rfl,b.1,by simpa using b.2⟩
  |_=>rw[c] at b;cases b
 have t:o.cls=.type "tuple":=by
  cases j:o.cls with
  | type n=>
   rw[j] at d;have:n = "tuple":=⇑d
   rw[this]
  |_=>rw[j] at d;cases d
 have g:o.dict=Jf:=⇑m
 refine qN (Ei (v:=.ref e) k l rfl c) λu y z O A H Q B w q=>post.here q w ?_;unfold Y2;exact⟨e,ks.map V.int,rfl,.inr ⟨⟨o,a,n,i,t,p,aG s 's',TB r⟩,o,i,g⟩,TX ks⟩
end
end DL
namespace DL
open PySem L2 PyProof.Rows
def yR:List D->Option (List m_)
 |[]=>Jd []
 | .tup ds::r=>match tO ds,yR r with
  |some ks,Jd t=>Jd (ks::t)
  |_,_=>Jf
 |_::_=>Jf
def Cr(x:m_):List m_->List m_
 |[]=>[x]
 |y::l=>if y<x then y::Cr x l else x::y::l
def AZ(l:List m_):List m_:=l.foldr Cr []
def toT(ks:m_):D:=.tup (ks.map .str)
def D1:Ow->List D->R D:=λO xs=>match xs with
 | [x]=>match rk O x with
  | some ds=>match yR ds with
   |some qA=>if (2<=qA.length->(qA.all λks=>!ks.isEmpty)=Jg)/\qA.length<=4000000 then .ok (.lst ((AZ qA).map toT)) O else .bad
   |none=>.bad
  |none=>.bad
 |_=>.bad
abbrev vY(a b:m_):Prop:=¬ b<a
def vY.trans{a b c:m_}(g:vY a b)(d:vY b c):vY a c:=λh=>by
 by_cases e:b<a
 ·exact g e
 ·by_cases f:a<b
  ·exact d (TS.llt_trans h f)
  ·rw[TS.llt_total f e] at h;exact d h
theorem Lh(x:m_):∀l,(Cr x l).Perm (x::l)
 |[]=>d8 _
 | y::l=>by
  unfold Cr;split
  ·exact((Lh x l).cons y).trans (mS x y l)
  ·exact d8 _
theorem Li:∀l,(AZ l).Perm l
 |[]=>d8 _
 |x::l=>(Lh x (AZ l)).trans ((Li l).cons x)
theorem Rz(x:m_):∀l,l.Pairwise vY->(Cr x l).Pairwise vY
 |[],_=>jL _ _
 | y::l,h=>by
  unfold Cr;have a:=bw.mp h;split
  ·rename_i c;refine bw.mpr ⟨λz hz=>?_,Rz x l a.2⟩;rcases ar.mp ((Lh x l).mem_iff.mp hz) with rfl|hz
   ·exact λd=>TS.llt_irrefl _ (TS.llt_trans d c)
   ·exact a.1 z hz
  ·rename_i b;refine bw.mpr ⟨λz hz=>?_,h⟩;rcases ar.mp hz with rfl|hz
   ·exact b
   ·exact vY.trans b (a.1 z hz)
theorem R8:∀l,(AZ l).Pairwise vY
 |[]=>eZ
 |x::l=>Rz x _ (R8 l)
theorem Tj:∀{a b:List m_},a.Pairwise vY->b.Pairwise vY->a.Perm b->a=b
 |[],b,_,_,p=>p.nil_eq
 |x::a,[],_,_,p=>absurd p.symm.nil_eq 'd'
 | x::a,y::b,ha,hb,p=>by
  have c:=bw.mp ha;have d:=bw.mp hb;have e:x=y:=by
   have f:vY y x:=by
    rcases ar.mp (p.mem_iff.mp am) with h|h
    ·rw[h];exact TS.llt_irrefl _
    ·exact d.1 x h
   have g:vY x y:=by
    rcases ar.mp (p.mem_iff.mpr am) with h|h
    ·rw[h];exact TS.llt_irrefl _
    ·exact c.1 y h
   exact TS.llt_total f g
  subst e;rw[Tj c.2 d.2 (List.Perm.cons_inv p)]
def Ad{α:Type}(R:V->α->Prop):List V->List α->Prop
 |[],[]=>True
 |v::vs,k::ks=>R v k/\Ad R vs ks
 |_,_=>False
def Oe(K:ah)(H:Hp)(v:V)(ks:m_):Prop:=∃t,v=.ref t/\qX K H t (ks.map λcs=>V.str ⟨cs.toArray⟩)
def vT:ae->V
 |.ref t=>.ref t
 |_=>.non
theorem Lo:∀{a:m_}{b:List ae},nu (a.map λcs=>V.str ⟨cs.toArray⟩) b->TS.allS b=Jd a
 |[],_,.nil=>rfl
 | k::a,u::us,.cons r h=>by
  obtain⟨c,rfl⟩:=r;unfold TS.allS;rw[Lo h];rfl
section
variable{X:Cx}{Ex:Nat->Hp->Prop}{H:Hp}{XV μ:List ab}
def OC(K:ah):List V->Hp->VK->Prop:=λxs H Q=>∃p vs qA,∃R:V->m_->Prop,xs=[.ref p]/\qg K H p vs/\Ad R vs qA/\(∀v k,R v k->Oe K H v k/\(2<=vs.length->k≠[]))/\vs.length<=4000000/\∀l qT zF,Ad R qT zF->zF.Perm qA->zF.Pairwise vY->H l=Jf->Q (.ref l) (upd H l (.lst qT))
theorem QY{b:List (ab×Obj)}{σ:L2.St}{s:ag}(I:L2.Inv X b σ H s){R:V->m_->Prop}{B:Prop}(d:∀v k,R v k->Oe X.K H v k/\(B->k≠[])):∀{vs:List V}{c:List m_}{a:List ae},Ad R vs c->nu vs a->a.map (TS.keyT s.heap)=c/\∀u∈a,R (vT u) (TS.keyT s.heap u)/\RelV (vT u) u/\∃f,TS.TupS s.heap u f/\(B->f≠[])
 |[],[],_,_,.nil=>⟨rfl,λ_ h=>by cases h⟩
 |[],_::_,_,h,_=>h.elim
 |v::vs,[],_,h,_=>h.elim
 | v::vs,k::c,u::us,⟨h1,h2⟩,.cons r hv=>by
  obtain⟨e,m⟩:=QY I d h2 hv;obtain⟨⟨t,rfl,p⟩,q⟩:=d v k h1;cases r;obtain⟨a,i,⟨o,g,w,n,j⟩,_⟩:=I.tuple p;have x:TS.TupS s.heap (.ref t) k:=⟨t,o,a.toArray,n,rfl,g,w,j,by simpa using Lo i⟩;have l:TS.keyT s.heap (.ref t)=k:=by
   show((match s.heap.get? t with|some o=>(match o.data with|.seq a _=>TS.allS a.toList|_=>Jf)|none=>Jf):Option _).getD []=_;rw[g];dsimp only;rw[j];dsimp only;rw[show TS.allS a.toArray.toList=Jd k from by simpa using Lo i];rfl
  refine⟨by rw[br,l,e],λu hu=>?_⟩;rcases ar.mp hu with rfl|hu
  ·exact⟨by rw[l];exact h1,rfl,k,x,q⟩
  ·exact m u hu
theorem RK{R:V->m_->Prop}{f:ae->m_}:∀{l:List ae},(∀u∈l,R (vT u) (f u))->Ad R (l.map vT) (l.map f)
 |[],_=>trivial
 |u::l,h=>⟨h u am,RK λv a=>h v (ak _ a)⟩
theorem Se:∀{l:List ae},(∀u∈l,RelV (vT u) u)->nu (l.map vT) l
 |[],_=>.nil
 |u::l,h=>.cons (h u am) (Se λv a=>h v (ak _ a))
def zd5:nF X (.builtin "sorted") (OC X.K):=by intro f s C H D E Q I r h;obtain⟨p,F,G,R,rfl,k,l,m,n,q⟩:=h;obtain⟨u,rfl,o⟩:=tu r;cases o;obtain⟨g,i,t,J⟩:=I.list k;obtain⟨w,c⟩:=QY I m l i;have b:=i.length.symm;refine TS.sorted_tups t.isList (λv x=>let ⟨ks,k1,k2⟩:=(c v x).2.2;⟨ks,k1,λz=>k2 'o'⟩) 'o' λa d y=>?_;obtain⟨e,A⟩:=sortedAll_at s.heap g a;have B:=I.hok.fresh (d9 _);have j:∀u∈a.toList,u∈g:=λu h=>d.mem_iff.mp h;refine⟨.ref _,_,I.laid (λ_ _ z=>sortedAll_old z) (d9 _) ?_,rfl,q _ _ _ (RK λu h=>(c u (j u h)).1) (by rw[<- w];exact d.map _) (dM.mpr y) B⟩;refine⟨?_,a.toList,e,Se λu h=>(c u (j u h)).2.1,by rw[A]⟩;rw[aA,d.length_eq,b];exact aG n 's'
theorem Qh:∀{ds:List D}{a:m_},tO ds=Jd a->ds=a.map D.str
 |[],a,h=>by cases h;rfl
 | d::ds,a,h=>by
  cases d with
  | str cs=>
   unfold tO at h;cases e:tO ds with
   |none=>rw[e] at h;cases h
   |some r=>rw[e] at h;cases h;rw[Qh e];rfl
  |_=>cases h
theorem R6:∀{ds:List D}{a:List m_},yR ds=Jd a->ds.length=a.length
 |[],a,h=>by cases h;rfl
 | d::ds,a,h=>by
  cases d with
  | tup xs=>
   unfold yR at h;split at h
   ·rename_i c t e b;cases h;rw[bg,bg,R6 b]
   ·cases h
  |_=>cases h
theorem QX{K:ah}{B:Prop}:∀{ds:List D}{vs:List V}{a:List m_},np K H XV μ ds vs->yR ds=Jd a->(∀k∈a,B->k≠[])->Ad (λv k=>Y2 K H XV μ (toT k) v/\(B->k≠[])) vs a
 | [],vs,a,h,e,_=>by
  cases e;subst h;trivial
 | d::ds,vs,a,h,e,qB=>by
  obtain⟨v,r,rfl,b,c⟩:=h;cases d with
  | tup xs=>
   unfold yR at e;split at e
   ·rename_i f t g i;cases e;refine⟨⟨?_,qB f am⟩,QX c i λk j=>qB k (ak _ j)⟩;have:=Qh g;unfold toT;rw[<- this];exact b
   ·cases e
  |_=>cases e
theorem R4{α:Type}{R:V->α->Prop}:∀{vs:List V}{a:List α},Ad R vs a->vs.length=a.length
 |[],[],_=>rfl
 |[],_::_,h=>h.elim
 |_::_,[],h=>h.elim
 |_::_,_::_,h=>by rw[bg,bg,R4 h.2]
theorem S6{K:ah}{B:Prop}:∀{vs:List V}{a:List m_},Ad (λv k=>Y2 K H XV μ (toT k) v/\(B->k≠[])) vs a->np K H XV μ (a.map toT) vs
 |[],[],_=>by unfold np;rfl
 |[],_::_,h=>h.elim
 |v::vs,[],h=>h.elim
 | v::vs,k::a,h=>by
  exact⟨v,vs,rfl,h.1.1,S6 h.2⟩
def ZD:ue X Ex (OC X.K) D1:=by
 intro H XV μ O C D Q c d q;unfold D1 at q;split at q
 ·rename_i x;obtain⟨v,rfl,o⟩:=sI d;split at q
  ·rename_i E e;obtain⟨p,f,rfl,r,g⟩:=uj c o e;split at q
   ·rename_i a h;obtain⟨⟨s,i⟩,q⟩:=post.ite q;have b:f.length=a.length:=by rw[<- g.length,R6 h]
    have u:∀k∈a,2<=f.length->k≠[]:=λk w i e=>by
     have:=af.mp (s 'o') k w;rw[e] at this;cases this
    have j:=QX g h u;refine⟨p,f,a,_,rfl,r,j,λv k m=>⟨?_,m.2⟩,?_,λl F G y z A b=>?_⟩
    ·obtain⟨t,I,rfl,n,B⟩:=Bj m.1 rfl;have:=Hq B (strL_map k);rw[this] at n;exact⟨t,rfl,n⟩
    ·rw[R4 j];exact i
    ·have e:=Tj A (R8 a) (z.trans (Li a).symm);subst e;exact post.ok q (.laid b) (c.laid b) (Y2.newL c b (S6 y))
   ·exact aj q
  ·exact aj q
 ·exact aj q
end
end DL
namespace DL
open PySem L2
open PyProof.Rows (AllBare)
section
variable{prog:aQ}{w:a8}{A:be}{s:ag}{R:Result->ag->Prop}
def zgz(g:A.depth<recursionLimit)
  (i:s.heap.get? lam=Jd { cls:=.type "function",data:=.func (dG name qual params body scope cl pm cd ct) }) (j:s.heap.CodeRec cd q) (k:scope.isCoroutine=Jh) (l:scope.isGenerator=Jh) (m:scope.kind=.function) (n:∀x∈scope.names,x.2 ≠ .cell) (p:scope.names.lookup x=Jd .local)
  (r:bindArgs (dG name qual params body scope cl pm cd ct) ⟨[u],[]⟩=pure [(x,u)]) (t:s.heap.NoLimit)
  (h:∀h' tk,0<tk->h'.Ns s.heap.objs.size (λy=>[(x,u)].lookup y)->(∀b o,s.heap.get? b=Jd o->h'.get? b=Jd o)->
   ay (aC prog w) (A.deeper (xg q scope s.heap.objs.size lam cd cl)) (eval body (xg q scope s.heap.objs.size lam cd cl)) (λv B=>R (.ok (.ret v)) B) (λ_ _=>False) { s with heap:=h',toks:=tk }):
  codeAny (aC prog w) A (.call (.ref lam) ⟨[u],[]⟩) R s:=by
 refine codeAny_of_tree ?_;show ay _ A.in1 (callAny (.ref lam) ⟨[u],[]⟩) _ _ s;refine aa (wpAny_load i ?_);obtain⟨c,I,J,K,C,D,a,E⟩:=j;subst C;simp only[callFunction,k,l];refine aa (bQ D a E (aa (aq ?_)));rw[r];refine aa (aq (aa (wpAny_newFunctionEnv n (λy F=>?_) (λd G H=>?_) m)))
 ·have e:y=(x,u):=⇑F
  rw[e];exact p
 have f:∀b o,s.heap.get? b=Jd o->d.get? b=Jd o:=λb o e=>H.extBut b o (bt (aR e)) (ai _ e);refine aa (wpAny_enterFrame (t.keeps f) g (aq ⟨rfl,?_⟩));exact PySem.W.kla_codeExpr (cj (h d _ (cK _) G f) (λ_ _ z=>z) λ_ _ z=>z.elim)
end
noncomputable def Gd(P:aQ)(w:a8)(K:ah)(mg:az->Option ae)(base:aV)(N:List az)(env:Env)(A:be)(outer:List Env)(s:ag)(H:Hp):Cx where
 prog:=P
 w:=w
 K:=K
 mg:=mg
 base:=base
 A:=A.deeper env
 N:=N
 s₀:=s
 H₀:=H
 env:=env
 outer:=outer
 stack:=env::outer
 ex:=[]
 calm:=Jg
 fn:=λ_=>Jh
 pn:=[]
 xe:=λ_ _=>False
structure Ov(out sc:cG)(x:az):Prop where
 kind:sc.kind=.function
 co:sc.isCoroutine=Jh
 gen:sc.isGenerator=Jh
 nd:(sc.names.map (·.1)).Nodup
 cell:∀y∈sc.names,y.2 ≠ .cell
 one:sc.names.lookup x=Jd .local
 loc:∀y∈sc.names,y.2=.local->y.1=x
 frees:∀y∈sc.names,y.2=.free->out.names.lookup y.1=Jd .cell\/out.names.lookup y.1=Jd .free
section
variable{P:aQ}{w:a8}{K:ah}{mg:az->Option ae}{base:aV}{N:List az}{A:be}{outer:List Env}{s:ag}{H:Hp}{q x:az}{scope:cG}{lam:ab}{cd:ae}{cl:List (az×ab)}{σ:St}{h':aV}{tk:Nat}{v:V}{u:ae}
def zfK(f:n8 P w K mg base A outer s H)(D:A.handled=Jf)(E:scope.kind=.function)(B:∀y,uA scope y->scope.names.lookup y=Jd .free\/y=x)(C:scope.names.lookup x=Jd .local)(F:x∉N)
  (cells:∀x c,cl.lookup x=Jd c->(∃v,s.heap.IsCell c v)/\H c=Jf) (inj:∀x y c,cl.lookup x=Jd c->cl.lookup y=Jd c->x=y) (k:∀x,scope.names.lookup x=Jd .free->∃c,cl.lookup x=Jd c)
  (h:∀(i:Nat)x v,N[i]?=Jd x->σ[i]?=Jd (Jd v)->scope.names.lookup x=Jd .free->∃u c,RelV v u/\cl.lookup x=Jd c/\s.heap.IsCell c (Jd u)) (l:σ.length=N.length) (G:RelV v u)
  (I:h'.Ns s.heap.objs.size (λy=>[(x,u)].lookup y)) (m:∀b o,s.heap.get? b=Jd o->h'.get? b=Jd o) (J:0<tk):
  L2.Inv (Gd P w K mg base (N++[x]) (xg q scope s.heap.objs.size lam cd cl) A outer s H) [] (σ++[Jd v]) H { s with heap:=h',toks:=tk }:=by
 have a:∀{c:ab}{v:Option ae},s.heap.IsCell c v->h'.IsCell c v:=λ{c v}⟨o,ho,r⟩=>⟨o,m c o ho,r⟩;have n:∀b:ab,b∉(Gd P w K mg base (N++[x]) (xg q scope s.heap.objs.size lam cd cl) A outer s H).ex:=λb z=>absurd (show b∈([]:List ab) from z) 'd';refine⟨⟨f.mod,E,rfl,rfl,aE _,inj,λy L=>?_,λy c z _=>absurd (show Jh=Jg from z) 's',λ_=>D,kH f.frames,.inr ⟨rfl,rfl⟩,λb z=>absurd z (n b),f.bs,f.bsz,λb _ _=>n b,λb z=>absurd z (n b),f.funs,f.frf⟩,
  rfl,f.bare,Un.kept m,⟨_,I,λi y M d j O=>?_⟩,λy c g=>?_,f.hok.fresh (aE _),λy c g=>(cells y c g).2,λp Q=>absurd (show p∈([]:List (ab×Obj)) from Q) 'd',f.hok.kept m,by show(σ++[Jd v]).length=(N++[x]).length;simp[l],J⟩
 ·have t:scope.names.lookup y=Jd .cell\/scope.names.lookup y=Jd .free:=L;rcases B y (t.elim (λz=>.inr (.inl z)) λz=>.inr (.inr z)) with z|z
  ·exact k y z
  ·rw[z,C] at t;rcases t with z|z<;>cases z
 ·have d:(N++[x])[i]?=Jd y:=d;by_cases R:i<N.length
  ·rw[aF R] at d;rw[aF 'o'] at j;rcases B y O with z|z
   ·obtain⟨u,c,r,S,T⟩:=h i y M d j z;exact⟨u,r,.inr ⟨.inr z,c,S,a T⟩⟩
   ·rw[z] at d;exact absurd (aN d) F
  ·rw[bb 'o'] at d j;have e:i-N.length=0:=by
    have:=(al.mp d).1;simp at this;lia
   rw[e] at d;rw[show i-σ.length=0 by lia] at j;cases d;cases j;exact⟨u,G,.inl ⟨C,by simp[eD]⟩⟩
 ·obtain⟨⟨v,z⟩,_⟩:=cells y c g;exact⟨v,a z⟩
def Xx(d:nD (k+1) A)(f:n8 P w K mg base A outer s H)
  (m:s.heap.get? lam=Jd { cls:=.type "function",data:=.func (dG name qual params body scope cl pm cd ct) }) (n:s.heap.CodeRec cd q) (p:scope.isCoroutine=Jh) (r:scope.isGenerator=Jh) (j:scope.kind=.function) (B:∀x∈scope.names,x.2 ≠ .cell)
  (C:bindArgs (dG name qual params body scope cl pm cd ct) ⟨[u],[]⟩=pure [(x,u)]) (D:∀y,uA scope y->scope.names.lookup y=Jd .free\/y=x) (l:scope.names.lookup x=Jd .local) (E:x∉N)
  (cells:∀x c,cl.lookup x=Jd c->(∃v,s.heap.IsCell c v)/\H c=Jf) (inj:∀x y c,cl.lookup x=Jd c->cl.lookup y=Jd c->x=y) (g:∀x,scope.names.lookup x=Jd .free->∃c,cl.lookup x=Jd c)
  (a:∀(i:Nat)x v,N[i]?=Jd x->σ[i]?=Jd (Jd v)->scope.names.lookup x=Jd .free->∃u c,RelV v u/\cl.lookup x=Jd c/\s.heap.IsCell c (Jd u)) (h:σ.length=N.length) (F:RelV v u)
  (G:nD k (A.deeper (xg q scope s.heap.objs.size lam cd cl))->PD (Gd P w K mg base (N++[x]) (xg q scope s.heap.objs.size lam cd cl) A outer s H) pS body t)
  (I:nq K H XV μ NY (σ++[Jd v])) (L:nk K H XV μ O) (M:qC pS K H XV μ (t NY O) Q):codeAny (aC P w) A (.call (.ref lam) ⟨[u],[]⟩) (CR xA outer P w H s Q E0) s:=by refine zgz d.depth m n p r j B l C (f.mod.nolimit.keeps λb o e=>(f.bs b o e).1) λh' tk R S T=>?_;refine cj ((G (d.deeper _)).out [] _ (σ++[Jd v]) H Q (zfK f d.hd j D l E cells inj g a h F S T R) ⟨XV,μ,NY,O,I,L,M⟩) (λv U ⟨W,X,J,Y,z⟩=>?_) λe U z=>z;exact⟨⟨W,X,J.os,J.bare,J.base,J.hok,Y,z⟩,J.tk⟩
end
end DL
namespace DL
open PySem L2 PyProof.Rows
def minGo(tE:DE)(σ:Sg):List D->D->Int->Ow->R D
 |[],b,_,O=>.ok b O
 | x::xs,b,k,O=>match tE (σ++[Jd x]) O with
  |.ok (.int j) O1=>if j<k then minGo tE σ xs x j O1 else minGo tE σ xs b k O1
  |_=>.bad
def Ct(tE:DE)(σ:Sg)(O:Ow):List D->R D
 |[]=>.bad
 | x::xs=>match tE (σ++[Jd x]) O with
  |.ok (.int j) O1=>minGo tE σ xs x j O1
  |_=>.bad
def CF(Pt iT:Nat)(te tE:DE):DE:=λσ O=>match σ[iT]? with
 | some (Jd (.tab p))=>if p=Pt then (te σ O).bnd λx O1=>match x with
  |.lst ds=>Ct tE σ O1 ds
  |_=>.bad else .bad
 |_=>.bad
def nq.snoc{K:ah}{H:Hp}{XV a:List ab}{σ:Sg}{b:L2.St}{d:D}{v:V}(e:nq K H XV a σ b)(q:Y2 K H XV a d v):nq K H XV a (σ++[Jd d]) (b++[Jd v]):=by
 refine⟨by simp[e.len],λi x h=>?_⟩;have k:=e.len;by_cases c:i<σ.length
 ·rw[aF c] at h;obtain⟨w,f,g⟩:=e.at_ i x h;exact⟨w,by rw[aF 'o'];exact f,g⟩
 ·rw[bb 'o'] at h;have j:i-σ.length=0:=by
   have:=(al.mp h).1;simp at this;lia
  rw[j] at h;cases h;exact⟨v,by rw[bb 'o',show i-b.length=0 by lia];rfl,q⟩
section
variable{X:Cx}{Ex:Nat->Hp->Prop}{XV:List ab}{σ:Sg}{b_:L2.St}{tE:DE}{lam cc:ab}{lo:Obj}
def JU(X:Cx)(lam:ab)(lo:Obj)(cc:ab)(XV:List ab)(σ:Sg)(b_:L2.St)(tE:DE):Prop:=
 ∀(Y1:List (ab×Obj))(s:ag)(H:Hp)(μ:List ab)(O:Ow)(d:D)(v:V)(u:ae)(Q:VK),L2.Inv X Y1 b_ H s->(lam,lo)∈Y1->(∃φ,H cc=Jd (.ext φ)/\∀h:aV,φ h->∃q,h.CodeRec (.ref cc) q)->nq X.K H XV μ σ b_->nk X.K H XV μ O->Y2 X.K H XV μ d v->RelV v u->
  qC pS X.K H XV μ (tE (σ++[Jd d]) O) Q->ay (aC X.prog X.w) X.A.in1 (call (.ref lam) [u]) (EP X Y1 b_ Q) (λ_ _=>False) s
def WM{K:ah}{H:Hp}{e:List ab}{d:D}{O:Ow}:qC pS K H XV e (.ok d O) (λv a=>∃b,Ext H e a b/\nk K a XV b O/\Y2 K a XV b d v):=λv g f x c r=>⟨f,x,c,r⟩
def Si{K:ah}{H H':Hp}{a f:List ab}{O:Ow}(c:nk K H XV a O)(x:Ext H a H' f){b:aV->Prop}(h:H cc=Jd (.ext b)):H' cc=Jd (.ext b):=by refine x.kept cc _ h (λm=>?_) (by intro i z;cases z);obtain⟨k,g,e⟩:=c8.mp m;obtain⟨j,l,_,d,_⟩:=c.at_ k cc (by rw[ao g,e]);rw[h] at d;cases d
variable{l:ab}{vs:List V}{ds:List D}{Q:VK}{Y1:List (ab×Obj)}{E:ae->ag->Prop}
def R9{a S:ab}{i oI:Obj}{j:Nat}{s:ag}{H:Hp}{c:List ab}{O:Ow}{d:D}{R:ae->ae->ag->Prop}(oN:X.calm=Jg)(hK:JU X lam lo cc XV σ b_ tE)
  (I:L2.Inv X ((S,i)::(a,oI)::(lam,lo)::Y1) b_ H s) (AO:rC X ((S,i)::(lam,lo)::Y1) H a) (hl:l≠a) (k:s.heap.IsListIter a l j) (la:LstAt X.K H XV c l vs) (G:np X.K H XV c ds vs) (ev:nq X.K H XV c σ b_) (cl:nk X.K H XV c O) (t6:∃J,H cc=Jd (.ext J)/\∀h:aV,J h->∃q,h.CodeRec (.ref cc) q)
  (L:ds[j]?=Jd d) {m:Int} {O1:Ow} (hE:tE (σ++[Jd d]) O=.ok (.int m) O1)
  (h:∀(v:ae)(tk:Tok)(f:Obj)(n:ag)(H':Hp)(t:List ab)(x:V),L2.Inv X ((S,i)::(a,f)::(lam,lo)::Y1) b_ H' n->n.heap.IsListIter a l (j+1)->Ext H c H' t->nk X.K H' XV t O1->RelV x v->Y2 X.K H' XV t d x->R v (.int m tk) n) {E2:ae->ag->Prop}:
  ay (aC X.prog X.w) X.A.in1 (pyNext (.ref a)) (λo s1=>∃v,o=Jd v/\ay (aC X.prog X.w) X.A.in1 (call (.ref lam) [v]) (λr y=>R v r y) (λ_ _=>False) s1) E2 s:=by
 obtain⟨g,M,pl,hz⟩:=I.list la.sq;have W:=kI (prog:=X.prog) (w:=X.w) (A:=X.A.in1) (I.ok.hd oN) a l hl g.toArray;have N:ds.length=g.length:=by rw[G.length,M.length]
 have hj:j<g.length:=by have:=(al.mp L).1;lia
 refine wT I (W.item j _ _ _ ⇑hj ⟨k,pl.isList⟩ λv h' P hP MZ rH qf=>?_);have hv:g[j]?=Jd v:=⇑hP
 obtain⟨T,U,f2,f3,f4,f5⟩:=AO;have I0:=I.pins_of λp hp=>I.pin p (ax _ (by
  rcases ar.mp hp with rfl|hp
  ·exact .head _
  ·exact .tail _ (.tail _ hp)))
 have B:=I0.turned (t':=P) (it:=a) (λb o hb e=>rH b o ⇑hb e) T U f3 f4 f5;obtain⟨f,M9,Ds,Y⟩:=id MZ.1;have I2:L2.Inv X ((S,i)::(a,f)::(lam,lo)::Y1) b_ H { s with heap:=h',toks:=P }:=B.pins_of λp hp=>by
  rcases ar.mp hp with rfl|hp
  ·exact B.pin _ (ax _ (.head _))
  ·rcases ar.mp hp with rfl|hp
   ·exact⟨M9,T,U,f2,λv z=>by rw[Y] at z;cases z⟩
   ·exact B.pin p (ax _ (.tail _ hp))
 obtain⟨x,hx,Z⟩:=G.get L;obtain⟨u,hu,ru⟩:∃u,g[j]?=Jd u/\RelV x u:=M.get hx;rw[hv] at hu;cases hu;refine⟨v,rfl,cj (hK _ _ H c O d x v (λv C=>∃F,Ext H c C F/\nk X.K C XV F O1/\Y2 X.K C XV F (.int m) v) I2 (.tail _ (.tail _ (.head _))) t6 ev cl Z ru (by rw[hE];exact WM)) (λr y ⟨v2,H2,I3,r2,oW,x2,c2,d2⟩=>?_) λ_ _ z=>z⟩;subst d2;obtain⟨t2,rfl⟩:=r2;exact h v t2 f y H2 oW x I3 ⟨f,(I3.pin (a,f) (ax _ (.tail _ (.head _)))).1,Ds,Y⟩ x2 c2 ru (Z.ext x2)
def X4{a S:ab}(oN:X.calm=Jg)(hK:JU X lam lo cc XV σ b_ tE)(hl:l≠a)(zS:S≠a){s0:ag}:
  ∀(r j:Nat)(s:ag)(H:Hp)(n:List ab)(O:Ow)(b:D)(L:V)(g:ae)(f:Int)(k:Tok)(c:Nat)(oI:Obj),ds.length-j=r->j<=ds.length->
   L2.Inv X ((S,seqObj "list" #[g,.int f k] c)::(a,oI)::(lam,lo)::Y1) b_ H s->rC X ((lam,lo)::Y1) H a->rC X ((lam,lo)::Y1) H S->s.heap.IsListIter a l j->LstAt X.K H XV n l vs->np X.K H XV n ds vs->nq X.K H XV n σ b_->nk X.K H XV n O->(∃F,H cc=Jd (.ext F)/\∀h:aV,F h->∃q,h.CodeRec (.ref cc) q)->
   RelV L g->Y2 X.K H XV n b L->qC Ex X.K H XV n (minGo tE σ (ds.drop j) b f O) Q->
   codeAny (aC X.prog X.w) X.A (.builtin "min.loop" ⟨[.ref a,.ref lam,.ref S],[]⟩) (λr U=>match r with|.ok (.ret u)=>EP X Y1 b_ Q u U|_=>False) s:=by
 have AM:(toString "min" ++ toString ".loop":String) = "min.loop":=by decide
 intro r
 induction r with
 | zero=>
  intro j s H n O b L g f k c oI hr hj I m fS G la dd ev cl t6 rb db q;have hjl:j=ds.length:=by lia
  have nS:=I.pin (S,seqObj "list" #[g,.int f k] c) (ax _ (.head _));obtain⟨d_,rv,pl,hz⟩:=I.list la.sq;have W:=kI (prog:=X.prog) (w:=X.w) (A:=X.A.in1) (I.ok.hd oN) a l hl d_.toArray;have hlen:ds.length=d_.length:=by rw[dd.length,rv.length]
  refine jS hV ?_;refine aa (dh nS.1 rfl ?_);refine aa (gd (wT I (W.done _ _ _ ⟨by rw[show d_.toArray.size=j by simp;lia];exact G,pl.isList⟩ λh' E5 rH qf=>?_)));have I0:=I.pins_of λp hp=>I.pin p (ax _ (.tail _ (.tail _ hp)));obtain⟨f0,f1,f2,f3,f4,f5⟩:=m;have I1:=I0.turned (t':=E5) (it:=a) (λb o Y e=>rH b o ⇑Y e) f0 f1 f3 f4 f5;have hS':=rH S _ ⇑zS nS.1;have Z:=eu h' S (bG λ_=>(#[]:Array ae));obtain⟨g0,g1,g2,g3,g4,g5⟩:=fS;refine aa ?_;refine iD hS' rfl (aa (fQ (aq ?_)));have y:=I1.turned (t':=E5) (it:=S) (λb o Y e=>(Z.2 b Y).trans e) g0 g1 g3 g4 g5;have I3:=y.pins_of λp hp=>y.pin p (ax _ (.tail _ hp));rw[hjl,mx] at q;exact⟨L,H,I3,rb,post.here q cl db⟩
 | succ r ih=>
  intro j s H n O b L g f k c oI hr hj I m fS G la dd ev cl t6 rb db q;have pW:j<ds.length:=by lia
  have nS:=I.pin (S,seqObj "list" #[g,.int f k] c) (ax _ (.head _));obtain⟨d,hd⟩:∃d,ds[j]?=Jd d:=⟨_,ao pW⟩;rw[cO pW,(al.mp hd).2] at q;unfold minGo at q;split at q
  case h_2=>exact aj q
  rename_i t O1 hE;refine jS hV ?_;refine aa (dh nS.1 rfl ?_);have ND:rC X ((S,seqObj "list" #[g,.int f k] c)::(lam,lo)::Y1) H a:=⟨m.1,m.2.1,m.2.2.1,m.2.2.2.1,m.2.2.2.2.1,λp hp=>by
   rcases aK.mp hp with hp|hp
   ·exact m.2.2.2.2.2 p (bA _ hp)
   ·rcases ar.mp hp with rfl|hp
    ·exact zS
    ·exact m.2.2.2.2.2 p (ax _ hp)⟩
  refine aa (gd (cj (R9 oN hK I ND hl G la dd ev cl t6 hd hE (R:=λv u U=>∃tk B M c_ x,u=.int t tk/\L2.Inv X ((S,seqObj "list" #[g,.int f k] c)::(a,B)::(lam,lo)::Y1) b_ M U/\U.heap.IsListIter a l (j+1)/\Ext H n M c_/\nk X.K M XV c_ O1/\RelV x v/\Y2 X.K M XV c_ d x)
   λv tk B U M c_ x a1 a2 a3 a4 a5 a6=>⟨tk,B,M,c_,x,rfl,a1,a2,a3,a4,a5,a6⟩) (λo Z ho=>?_) λ_ _ z=>z))
  obtain⟨v,rfl,x_⟩:=ho;refine aa (gd (bK (cj x_ (λu s2 he=>?_) λ_ _ hF=>hF.elim)));obtain⟨J,B,N,oW,x,rfl,y,zN,P,AU,rx,dx⟩:=he;have T:=y.pin (S,seqObj "list" #[g,.int f k] c) (ax _ (.head _));have MC:=y.pin (a,B) (ax _ (.tail _ (.head _)));have IZ:=la.mv P.mv;have Cg:=dd.ext P;have Ga:=ev.ext P;have F3:∃F,N cc=Jd (.ext F)/\∀h:aV,F h->∃q,h.CodeRec (.ref cc) q:=let ⟨F,h1,h2⟩:=t6;⟨F,Si cl P h1,h2⟩;have Vy:rC X ((lam,lo)::Y1) N a:=⟨MC.2.1,m.2⟩;have C:rC X ((lam,lo)::Y1) N S:=⟨T.2.1,fS.2⟩;have q2:=post.ext q P;refine aa (gd (bK (aa (CmpOf.ints_lt (w:=X.w) (λi=>if i=0 then t else f) (λi v h=>h) 0 1 _ _ _ _ _ ⟨J,rfl⟩ ⟨k,rfl⟩ ?_))));refine aa (bK (cP ?_));refine aa (fQ (aq ?_));by_cases uG:t<f
  ·have Z:=eu s2.heap S (bG λ_=>#[v,.int t J]);obtain⟨c2,yK⟩:∃c2,(s2.heap.update S (bG λ_=>#[v,.int t J])).get? S=Jd (seqObj "list" #[v,.int t J] c2):=⟨_,get?_update_seq T.1 λ_=>#[v,.int t J]⟩;rw[Ji uG] at q2;simp only[mI,uG,decide_true,if_true,cy,if_false];refine aa (iD T.1 rfl (aa (fQ ?_)));have I3:=y.pins_of λp hp=>y.pin p (ax _ (.tail _ hp));have I4:=I3.turned (it:=S) (λb o Y e=>(Z.2 b Y).trans e) C.1 C.2.1 C.2.2.2.1 C.2.2.2.2.1 (λp hp=>by
    rcases aK.mp hp with hp|hp
    ·exact C.2.2.2.2.2 p (bA _ hp)
    ·rcases ar.mp hp with rfl|hp
     ·exact zS.symm
     ·exact C.2.2.2.2.2 p (ax _ hp))
   have I5:L2.Inv X ((S,seqObj "list" #[v,.int t J] c2)::(a,B)::(lam,lo)::Y1) b_ N _:=I4.pins_of λp hp=>by
    rcases ar.mp hp with rfl|hp
    ·exact⟨yK,T.2.1,T.2.2.1,T.2.2.2.1,λv z=>nomatch z⟩
    ·exact I4.pin p (ax _ hp)
   obtain⟨oq,Dp,Jc,M0⟩:=id zN;exact aq ⟨jk fR _,ih (j+1) _ N oW O1 d x v t J c2 B 'o' pW I5 Vy C ⟨oq,(Z.2 a zS.symm).trans Dp,Jc,M0⟩ IZ Cg Ga AU F3 rx dx q2⟩
  ·rw[Jk uG] at q2;simp only[mI,uG,decide_false,cy,if_false,if_true];refine aa (fQ ?_);exact aq ⟨jk fR _,ih (j+1) s2 N oW O1 b L g f k c B 'o' pW y Vy C zN IZ Cg Ga AU F3 rb (db.ext P) q2⟩
def zfQ{s:ag}{H:Hp}{g:List ab}{O:Ow}(oN:X.calm=Jg)(hK:JU X lam lo cc XV σ b_ tE)(I:L2.Inv X ((lam,lo)::Y1) b_ H s)(W:LstAt X.K H XV g l vs)(dd:np X.K H XV g ds vs)(ev:nq X.K H XV g σ b_)(cl:nk X.K H XV g O)
  (t6:∃L,H cc=Jd (.ext L)/\∀h:aV,L h->∃q,h.CodeRec (.ref cc) q) (q:qC Ex X.K H XV g (Ct tE σ O ds) Q):ay (aC X.prog X.w) X.A (call (.builtin "min") [.ref l] [(gZ "key",.ref lam)]) (EP X Y1 b_ Q) E s:=by
 have AM:(toString "min" ++ toString ".loop":String) = "min.loop":=by decide
 obtain⟨d_,rv,pl,hz⟩:=I.list W.sq;have Vc:=pl.isList;obtain⟨ol,Dr,_⟩:=id Vc;have Nc:=aR Dr;cases ds with
 |nil=>exact aj q
 |cons d rY=>
 have q:qC Ex X.K H XV g (match tE (σ++[Jd d]) O with|.ok (.int j) M=>minGo tE σ rY d j M|_=>.bad) Q:=q;split at q
 case h_2=>exact aj q
 rename_i i M hE;refine kmb_tree PySem.F.kind_min PySem.F.plain_min PySem.F.entry_min (kmb_min_key _ _) ?_;refine aa (ma (rfl) ?_);refine aa (aq (aa (e9 Vc ?_)));refine aa (gi ?_ (bN _));rw[AM];generalize n:s.heap.objs.size=c at *;generalize Y:s.heap.push { cls:=.type "list_iterator",data:=.fields #[.ref l,.int 0 0] } = h1 at *;have Z:h1.objs.size=c+1:=by rw[<- Y,size_push',n]
 generalize hSS:h1.objs.size=S at *;have Vd:=bt Nc;have N:S≠c:=by rw[Z];exact eJ (fu _)
 have kp:∀b o,s.heap.get? b=Jd o->(h1.push (seqObj "list" #[] 0)).get? b=Jd o:=λb o e=>ai _ (by rw[<- Y];exact ai _ e);have gI:(h1.push (seqObj "list" #[] 0)).get? c=Jd { cls:=.type "list_iterator",data:=.fields #[.ref l,.int 0 0] }:=ai _ (by rw[<- Y,<- n];exact aO _ rfl);have gS:(h1.push (seqObj "list" #[] 0)).get? S=Jd (seqObj "list" #[] 0):=by rw[<- hSS];exact aO _ rfl
 have a:=I.fpOk (gH n) (I.hok.fresh (gH n));have P:rC X ((lam,lo)::Y1) H S:=I.fpOk (by rw[Z,n];exact d9 _) (I.hok.fresh (by rw[Z,n];exact d9 _));have I1:=I.kept kp;have I2:L2.Inv X ((S,seqObj "list" #[] 0)::(c,{ cls:=.type "list_iterator",data:=.fields #[.ref l,.int 0 0] })::(lam,lo)::Y1) b_ H { s with heap:=h1.push (seqObj "list" #[] 0),toks:=s.toks }:=I1.pins_of λp hp=>by
  rcases ar.mp hp with rfl|hp
  ·exact⟨gS,P.1,P.2.1,P.2.2.1,λv z=>nomatch z⟩
  ·rcases ar.mp hp with rfl|hp
   ·exact⟨gI,a.1,a.2.1,a.2.2.1,λv z=>nomatch z⟩
   ·exact I1.pin p (ax _ hp)
 refine aq ⟨jk fR _,?_⟩;refine fZ (R:=λr t=>match r with|.ok (.ret u)=>EP X Y1 b_ Q u t|_=>False) ?_ (λr t h=>by
  cases r with
  |error e=>exact h.elim
  |ok f=>cases f<;>first|exact h|exact h.elim)
 refine jS hV ?_;refine aa (dh gS rfl ?_);have ND:rC X ((S,seqObj "list" #[] 0)::(lam,lo)::Y1) H c:=⟨a.1,a.2.1,a.2.2.1,a.2.2.2.1,a.2.2.2.2.1,λp hp=>by
  rcases aK.mp hp with hp|hp
  ·exact a.2.2.2.2.2 p (bA _ hp)
  ·rcases ar.mp hp with rfl|hp
   ·exact N
   ·exact a.2.2.2.2.2 p (ax _ hp)⟩
 refine aa (gd (cj (R9 oN hK I2 ND Vd ⟨_,gI,rfl,rfl⟩ W dd ev cl t6 rfl hE (R:=λv u t=>∃tk k y G x,u=.int i tk/\L2.Inv X ((S,seqObj "list" #[] 0)::(c,k)::(lam,lo)::Y1) b_ y t/\t.heap.IsListIter c l (0+1)/\Ext H g y G/\nk X.K y XV G M/\RelV x v/\Y2 X.K y XV G d x)
  λv tk k t y G x a1 a2 a3 a4 a5 a6=>⟨tk,k,y,G,x,rfl,a1,a2,a3,a4,a5,a6⟩) (λo s1 ho=>?_) λ_ _ z=>z))
 obtain⟨v,rfl,x_⟩:=ho;refine aa (gd (bK (cj x_ (λu s2 he=>?_) λ_ _ hF=>hF.elim)));obtain⟨B,k,H2,oW,x,rfl,T,zN,J,AU,rx,dx⟩:=he;have C:=T.pin (S,seqObj "list" #[] 0) (ax _ (.head _));have MC:=T.pin (c,k) (ax _ (.tail _ (.head _)));have s1:=eu s2.heap S (bG λ_=>#[v,.int i B]);obtain⟨U,yK⟩:∃U,(s2.heap.update S (bG λ_=>#[v,.int i B])).get? S=Jd (seqObj "list" #[v,.int i B] U):=⟨_,get?_update_seq C.1 λ_=>#[v,.int i B]⟩;refine aa (iD C.1 rfl ?_);have m:rC X ((lam,lo)::Y1) H2 S:=⟨C.2.1,P.2⟩;have I4:=T.pins_of λp hp=>T.pin p (ax _ (.tail _ hp));have I5:=I4.turned (λb o hb e=>(s1.2 b hb).trans e) m.1 m.2.1 m.2.2.2.1 m.2.2.2.2.1 (λp hp=>by
  rcases aK.mp hp with hp|hp
  ·exact m.2.2.2.2.2 p (bA _ hp)
  ·rcases ar.mp hp with rfl|hp
   ·exact N.symm
   ·exact m.2.2.2.2.2 p (ax _ hp))
 have I6:L2.Inv X ((S,seqObj "list" #[v,.int i B] U)::(c,k)::(lam,lo)::Y1) b_ H2 _:=I5.pins_of λp hp=>by
  rcases ar.mp hp with rfl|hp
  ·exact⟨yK,C.2.1,C.2.2.1,C.2.2.2.1,λv z=>nomatch z⟩
  ·exact I5.pin p (ax _ hp)
 obtain⟨oq,Dp,Jc,M0⟩:=id zN;exact aq ⟨jk fR _,X4 (ds:=d::rY) oN hK Vd N (s0:=s) _ 1 _ H2 oW M d x v i B U k rfl (ml (bN _)) I6 ⟨MC.2.1,a.2⟩ m ⟨oq,(s1.2 c N.symm).trans Dp,Jc,M0⟩ (W.mv J.mv) (dd.ext J) (ev.ext J) AU (let ⟨L,h1,h2⟩:=t6;⟨L,Si cl J h1,h2⟩) rx dx (post.ext q J)⟩
def zi6(hr:nD (k+2) X.A)(oN:X.calm=Jg)(L:tT X.mg X.base c Pt)(sZ:X.env.code=.ref c)(b:Ov X.env.scope scope x)(x8:defaultsOf params X.env=([],[]))
  (Nu:∀(name n:az)(cl:List (az×ab))(pm o ct u:ae),bindArgs (dG name n params body scope cl pm o ct) ⟨[u],[]⟩=pure [(x,u)]) (zI:x∉X.N) (he:PD X Ex e te)
  (hE:∀(q:az)(lam:ab)(o:ae)(cl:List (az×ab))(A:be)(outer:List Env)(s:ag)(H:Hp),nD k (A.deeper (xg q scope s.heap.objs.size lam o cl))->PD (Gd X.prog X.w X.K X.mg X.base (X.N++[x]) (xg q scope s.heap.objs.size lam o cl) A outer s H) pS body tE)
  (hg:Gl X "min") (hm:X.mg "min" = Jf) (C:aP [e] X.env=[(Jh,eval e X.env)]:=by rfl):PD X Ex (.Call (.Name "min" pn) [e] [⟨Jd (gZ "key"),.Lambda params body scope pl,kq⟩] pp) (CF Pt iT te tE):=by
 refine⟨?_⟩;rintro Y1 s b_ H Q I ⟨XV,μ,σ,O,ev,c1,q⟩;obtain⟨ti,q⟩:nI H Pt/\qC Ex X.K H XV μ ((te σ O).bnd λx f=>match x with|.lst ds=>Ct tE σ f ds|_=>.bad) Q:=by
  unfold CF at q;split at q
  ·rename_i p hp;by_cases F:p=Pt
   ·rw[Ji F] at q;obtain⟨v,_,d⟩:=ev.at_ iT _ hp;rw[F] at d;exact⟨d.2,q⟩
   ·rw[Jk F] at q;exact aj q
  ·exact aj q
 have G:∀{cells:List (az×ab)},(∀y∈scope.names,y.2=.free->∃c,cells.lookup y.1=Jd c)->∀x c,(q_ cells scope.names []).lookup x=Jd c->cells.lookup x=Jd c:=λ{cells}i x c e=>by
  rcases HU _ _ (bD e) with m|⟨m,z⟩
  ·cases m
  ·obtain⟨c',zR⟩:=i (x,.free) m rfl;have yK:=zR;rw[yK] at z ⊢;rw[z];rfl
 have i:∀y∈scope.names,y.2=.free->∃c,X.env.cells.lookup y.1=Jd c:=λy J hf=>I.ok.has y.1 (b.frees y J hf);have F5:∀x,scope.names.lookup x=Jd .free->∃c,(q_ X.env.cells scope.names []).lookup x=Jd c:=λx e=>by
  have m:=HW (cells:=X.env.cells) scope.names [] (bD e);exact⟨_,yB (H8 _ _ b.nd 'd' (by intro p hp;cases hp)) m⟩
 have Jj:∀x,scope.names.lookup x=Jd .free->X.env.scope.names.lookup x=Jd .cell\/X.env.scope.names.lookup x=Jd .free:=λx e=>b.frees (x,.free) (bD e) rfl;have vO:∀y,uA scope y->scope.names.lookup y=Jd .free\/y=x:=λy J=>by
  rcases J with z|z|z
  ·exact .inr (b.loc _ (bD z) rfl)
  ·exact absurd rfl (b.cell _ (bD z))
  ·exact .inl z
 refine gz (Ai I hg hm Ks ?_ 's' 's');refine callWith_kw ?_ (by rw[C];rfl) (by rw[C];rfl);rw[C];refine lg (o7 (he.out Y1 s b_ H _ I (rd.go (Q1:=λM h=>∃j f a,nq X.K h XV a σ b_/\Ext H μ h a/\nk X.K h XV a f/\Y2 X.K h XV a j M/\qC Ex X.K h XV a (match j with|.lst ds=>Ct tE σ f ds|_=>.bad) Q) ev c1 q λj f M h a P R S r1 T=>⟨j,f,a,P,R,S,r1,T⟩)) λu1 s1 ⟨M,h,I1,U,j,f,a,P,R,S,W,T⟩=>?_);refine lR (kws_cons (Y5 I1 L sZ (R.tab _ ti) (Ud i) x8 λlam o yN h' tk H' I3 ext cells Y zO qp ur=>?_));refine kws_nil ?_;obtain⟨cc,φ,rfl,t6,Z⟩:=ur;have NF:=P.ext (ext a);have cl3:=cells XV a f S;have q3:=post.ext T (ext a);have da3:=W.ext (ext a);cases j with
 | lst ds=>
  obtain⟨l,vs,rfl,la,dd⟩:=da3;cases U;have t:=I1.fpOk zO Y;have I4:L2.Inv X ((lam,_)::Y1) b_ H' { s1 with heap:=h',toks:=tk }:=I3.pins_of λp hp=>by
   rcases ar.mp hp with rfl|hp
   ·exact⟨qp,t.1,t.2.1,t.2.2.1,λv z=>nomatch z⟩
   ·exact I3.pin p (ax _ hp)
  refine zfQ oN ?_ I4 la dd NF cl3 ⟨φ,t6,Z⟩ q3;intro UQ s5 H5 zX O5 d5 v5 u5 Q5 g FK B5 Jo cl5 dx5 rx5 q5;obtain⟨φ5,B5,MQ⟩:=B5;obtain⟨qn,hqn⟩:=MQ _ (g.hok cc _ B5).1;have hg5:=(g.pin _ (ax _ FK)).1;refine kG (fZ (Xx hr.in1 g.env0.in1 hg5 hqn b.co b.gen b.kind b.cell (Nu _ _ _ _ _ _ _) vO b.one zI (zbz g Un.refl (G i)) (zgI g (G i)) F5 (zcF g Un.refl (G i) F5 Jj) g.len rx5 (hE _ _ _ _ _ _ _ _) (Jo.snoc dx5) cl5 q5) λr s8 B=>?_);cases r with
  |error e=>exact B.elim
  | ok t=>
   cases t with
   |ret u=>exact g.after B
   |next=>exact aj B
   |brk=>exact aj B
   |cont=>exact aj B
 |_=>exact aj q3
end
end DL
namespace DL
open PySem L2
mutual
def nm:D->Bool
 |.map _ _=>Jh
 |.dct=>Jh
 |.exn _=>Jh
 |.lst ds=>nms ds
 |.tup ds=>nms ds
 |_=>Jg
def nms:List D->Bool
 |[]=>Jg
 |d::ds=>nm d&&nms ds
end
section
variable{K:ah}{H:Hp}{XV μ:List ab}{p:ab}{l_:List (Key×V)}
def OU(b:H p=Jd (.frz o (.dK l_)))(h:Rd H a u)(c:∀l_,u ≠ .dK l_)(d:∀o v,u ≠ .frz o v):a≠p:=by
 rintro rfl;rcases h with h|⟨o,h⟩
 ·rw[b] at h;cases h;exact d _ _ rfl
 ·rw[b] at h;cases h;exact c _ rfl
mutual
theorem Y2.hide(b:H p=Jd (.frz o (.dK l_))):∀{d:D}{v:V},nm d=Jg->Y2 K H XV μ d v->Y2 K H (p::XV) μ d v
 |.non,_,_,h=>h
 |.bl _,_,_,h=>h
 |.int _,_,_,h=>h
 |.str _,_,_,h=>h
 | .lst ds,v,n,h=>by
  unfold Y2 at h ⊢;obtain⟨a,c,r,l,q⟩:=h;refine⟨a,c,r,l.imp (λz=>⟨z.1,λm=>?_,z.2.2⟩) id,np.hide b n q⟩;rcases ar.mp m with e|m
  ·exact OU b z.1 (λ_ z=>nomatch z) (λ_ _ z=>nomatch z) e
  ·exact z.2.1 m
 | .tup ds,v,n,h=>by
  unfold Y2 at h ⊢;obtain⟨a,c,r,l,q⟩:=h;refine⟨a,c,r,l.imp (λz=>⟨z.1,λm=>?_,z.2.2⟩) id,np.hide b n q⟩;rcases ar.mp m with e|m
  ·exact OU b z.1 (λ_ z=>nomatch z) (λ_ _ z=>nomatch z) e
  ·exact z.2.1 m
 |.own k,v,_,h=>by unfold Y2 at h ⊢;exact h
 |.dct,_,n,_=>by cases n
 |.exn _,_,n,_=>by cases n
 |.tab P,v,_,h=>by unfold Y2 at h ⊢;exact h
 |.map _ _,_,n,_=>by cases n
 |.adr _,_,_,h=>h
theorem np.hide(a:H p=Jd (.frz o (.dK l_))):∀{ds:List D}{vs:List V},nms ds=Jg->np K H XV μ ds vs->np K H (p::XV) μ ds vs
 |[],_,_,h=>h
 | d::ds,vs,n,h=>by
  unfold np at h ⊢;unfold nms at n;obtain⟨b,c⟩:=dI.mp n;obtain⟨v,r,e,f,g⟩:=h;exact⟨v,r,e,Y2.hide a b f,np.hide a c g⟩
end
def nk.hide(d:H p=Jd (.frz o (.dK l_)))(n:O.all nms=Jg)(c:nk K H XV μ O):nk K H (p::XV) μ O:=by
 refine⟨c.len,c.nd,λa m z=>?_,λa m=>?_,λk a e=>?_⟩
 ·rcases ar.mp z with e|z
  ·obtain⟨k,i,j⟩:=c8.mp m;obtain⟨f,g,_,b,_⟩:=c.at_ k a (by rw[ao i,j]);rw[e,d] at b;cases b
  ·exact c.nh a m z
 ·rcases ar.mp m with e|m
  ·rw[e,d];simp
  ·exact c.ht a m
 ·obtain⟨f,g,h,b,l⟩:=c.at_ k a e;exact⟨f,g,h,b,l.hide d (af.mp n f (aN h))⟩
def nq.put(e:nq K H XV μ σ b_)(h:b_[i]?=Jd (Jd v))(q:Y2 K H XV μ d v):nq K H XV μ (σ.set i (Jd d)) b_:=by
 refine⟨by simp[e.len],λj x g=>?_⟩;by_cases a:i=j
 ·subst a;have b:i<σ.length:=by have:=(al.mp g).1;simpa using this
  rw[bq b] at g;cases g;exact⟨v,h,q⟩
 ·rw[bj a] at g;exact e.at_ j x g
def nq.forget(e:nq K H XV μ σ b_)(o:Option V):nq K H XV μ (σ.set i Jf) (b_.set i o):=by
 refine⟨by simp[e.len],λj x g=>?_⟩;by_cases a:i=j
 ·subst a;have b:i<σ.length:=by have:=(al.mp g).1;simpa using this
  rw[bq b] at g;cases g
 ·rw[bj a] at g;obtain⟨v,c,d⟩:=e.at_ j x g;exact⟨v,by rw[bj a];exact c,d⟩
def Dj(k:DK)(ks:List DK):Bool:=ks.any λj=>decide (j=k)
def uh(k:DK)(ks:List DK):List DK:=ks.filter λj=>decide (j≠k)
def xI(k:DK):List DK->List D->List D
 |j::ks,d::ds=>if j=k then xI k ks ds else d::xI k ks ds
 |_,_=>[]
theorem Qf:∀{a:List DK}{ds:List D}{vs:List V},a.length=vs.length->np K H XV μ ds vs->∃b,yZ ((a.map kD).zip vs) (kD k)=((uh k a).map kD).zip b/\(uh k a).length=b.length/\np K H XV μ (xI k a ds) b
 |[],ds,vs,_,_=>⟨[],rfl,rfl,.nil⟩
 |j::a,ds,[],h,_=>by cases h
 |j::a,[],v::vs,_,h=>by unfold np at h;cases h
 | j::a,d::ds,v::vs,hl,h=>by
  obtain⟨w,r,e,i,l⟩:=(by unfold np at h;exact h);cases e;obtain⟨b,c,f,g⟩:=Qf (k:=k) (lI hl) l;show ∃b,yZ ((kD j,v)::(a.map kD).zip vs) (kD k)=_/\_;by_cases e:j=k
  ·subst e;refine⟨b,?_,?_,?_⟩
   ·unfold yZ uh at *;rw[cX 'd',cX 'd'];exact c
   ·unfold uh at *;rw[cX 'd'];exact f
   ·unfold xI;rw[Ji rfl];exact g
  ·have m:kD j≠kD k:=λz=>e (Hd z);refine⟨v::b,?_,?_,?_⟩
   ·unfold yZ uh at *;rw[cY ⇑m,cY ⇑e,c];rfl
   ·unfold uh at *;rw[cY ⇑e];simpa using f
   ·unfold xI;rw[Jk e];exact .cons i g
theorem Th:∀{a:List DK}{vs:List V},a.length=vs.length->Dj k a=Jg->(tQ ((a.map kD).zip vs) (kD k)).isSome=Jg
 |[],_,_,h=>by cases h
 |_::_,[],h,_=>by cases h
 | j::a,v::vs,hl,h=>by
  show(tQ ((kD j,v)::(a.map kD).zip vs) (kD k)).isSome=Jg;by_cases e:j=k
  ·rw[ED (congrArg kD e)];rfl
  ·rw[C0 (λz=>e (Hd z))];unfold Dj at h;rw[gg,decide_eq_false e,h9] at h;exact Th (lI hl) h
end
def zj(iR sQ iL:Nat)(t1 t3:DE):List D->List DK->List D->Sg->Ow->RS
 |[],_,_,σ,O=>.nx σ O
 | x::xs,ks,ds,σ,O=>match vq x with
  | some k=>if Dj k ks=Jg then match t1 (σ.set sQ (Jd x)) O with
    | .ok d1 O1=>match t3 (((σ.set sQ (Jd x)).set iL (Jd d1)).set iR (Jd (.map (uh k ks) (xI k ks ds)))) O1 with
     |.ok _ O2=>if O2.all nms=Jg then zj iR sQ iL t1 t3 xs (uh k ks) (xI k ks ds) ((σ.set sQ (Jd x)).set iL (Jd d1)) O2 else .bad
     |_=>.bad
    |_=>.bad
   else .bad
  |none=>.bad
def DX(iR sQ iL:Nat)(tH:DE)(it:DI)(t1 t3:DE)(tt:DS):DS:=λσ O=>(tH σ O).bnS λx O1=>match x with
 | .map ks ds=>(it (σ.set iR Jf) O1).bnS λsrc O2=>match src with
  | .val xs=>match zj iR sQ iL t1 t3 xs ks ds (σ.set iR Jf) O2 with
   |.nx σ' O'=>tt σ' O'
   |_=>.bad
  |_=>.bad
 |_=>.bad
def Ea.ext(e:Ea p H μ H' c_)(h:H p=Jf):Ext H μ H' c_:=⟨e.pre,λb o g n a=>e.kept b o g n (rf g h) a,e.fresh,e.there,e.tab⟩
section
variable{X:Cx}{Ex:Nat->Hp->Prop}
def OL(g:H A=Jd (.frz ob u)):∀a,nI H a->nI (upd H A o) a:=by
 rintro a ⟨h,b,i,j⟩;have k:a≠A:=by rintro rfl;rw[g] at b;cases b
 refine⟨h,by rw[o9 k];exact b,i,λd l e=>?_⟩;obtain⟨c,m,rfl,f,n⟩:=j d l e;have p:c≠A:=by rintro rfl;rw[g] at f;cases f
 exact⟨c,m,rfl,by rw[o9 p];exact f,n⟩
def XA(d:PE X e te):PE X e (λσ H Q=>∃p a,H p=Jd (.dK a)/\∀o,te σ (upd H p (.frz o (.dK a))) λv H'=>H' p=Jd (.frz o (.dK a))/\Q v (upd H' p (.dK a))):=by rintro b s σ H Q I ⟨p,a,c,h⟩;obtain⟨o,J⟩:=Inv.frzK I c;exact o7 (d b s σ _ _ J (h o)) λv i ⟨x,j,f,r,g,q⟩=>⟨x,_,Inv.thawK f g (Inv.nofrz I c),r,q⟩
def zb7:nF X (.type "dict") (λxs H Q=>∃(a:ab)(d:List (Key×V)),xs=[.ref a]/\Rd H a (.dK d)/\∀p,H p=Jf->Q (.ref p) (upd H p (.dK d))):=by intro f s w H xs x Q I r h;obtain⟨a,d,rfl,g,q⟩:=h;obtain⟨u,rfl,i⟩:=tu r;cases i;obtain⟨z,j,y,c,k⟩:=GR I.hok g;refine kt_call_dict j k (by rw[<- c.length];exact z) λl m n=>?_;have t:∀b o,s.heap.get? b=Jd o->l.get? b=Jd o:=λb o e=>(n.2 b (bt (aR e))).trans (ai _ e);have v:=I.hok.fresh (aE s.heap.objs.size);exact⟨.ref _,_,I.laid t (aE _) (Kk z (beq_eq_false_iff_ne.mpr (bI (bt I.big))) c m),rfl,q _ v⟩
def zbh{d k c:aS}{f:List aS}{l:List bC}{b:cG}{j n p:Pos}{y:az}{i:Nat}(o:Bool)(ext:List az){it0:DI}{g:Tg}{ts:List DT}{cs:List Cl}{te:DE}(B:X.calm=Jg)(D:X.N.Nodup)(F:X.N[i]?=Jd y)(r:X.env.scope.names.lookup y=Jd .local)
  (G:sD X Ex k c it0) (J:v7 X.env.scope b (X.N++ext) (pK (⟨it0,g,ts⟩::cs)))
  (M:GN X ext b k g f ts l cs d te)
  (P:swapsWith (.ListComp d (⟨k,c,f,0⟩::l) b j) (Jd (.Name y p)) n.line X.env=pure Jg)
  (Q:∀x,bM c X.env x=pure x:=by intro _;rfl):PS X (.Assign [.Name y p] (.ListComp d (⟨k,c,f,0⟩::l) b j) n) (Cu (rd Ex X.K (pB o ext.length it0 g ts cs te)) (uQ i)):=by
 rintro t s b_ H E I ⟨R,μ,σ,O,S,u,q⟩;rw[iq _ _ _ _ P];refine aa (dU (aa ?_));unfold pB at q;rw[<- LK] at q;refine aa (cj (Ez (K0 d) B G J (λh T s H U _ _ _=>JB M h T s H U) Q I S u (Sm u q λL V W Y C Z ns nC w y1 A pn=>?_)) (λ_ Y hq=>aq (aq hq)) λ_ _ e=>e);obtain⟨m,hn⟩:=ns;refine gU (HL (v:=.ref L) Z D F (.inl r) rfl (λrF Gj uo=>?_) (.inr r));obtain⟨a,BS,ha⟩:=uo;have F7:C≠a:=by
  rcases ha with z|z
  ·rw[z];exact w
  ·exact λe=>A y a z e.symm
 refine⟨m,hn.sameBut BS F7,λh' uq=>?_⟩;exact⟨_,V,Inv.bare Gj uq nC w y1 A pn,W⟩
def zcl(n:jN (aC X.prog X.w) X.A X.env X.xe)(hc:X.calm=Jg)
  (hA:∀te,PE X e te->PS X sA (Cu (IH (λxs H Q=>∃(a:ab)(l_:List (Key×V)),xs=[.ref a]/\Rd H a (.dK l_)/\∀p,H p=Jf->Q (.ref p) (upd H p (.dK l_))) (Oy te N5)) (uQ iR))) (hH:PD X Ex e tH)
  (hi:sD X Ex tg iter it) (hg:PG X tg ((Tg.one sQ).rd X.K)) (vR:PE X (.Name r p2) (JC iR)) (vT:PE X (.Name tm p3) (JC sQ)) (hL:PS X sL (Cu (rd Ex X.K t1) (uQ iL))) (hE:PD X Ex e3 t3) (xR:swapsWith e3 Jf pE.line X.env=pure Jh) (ht:r9 X Ex xs tt)
  (n1:iR≠sQ) (n2:iR≠iL) (hl:iR<X.N.length) (hT:sQ<X.N.length) (hs:∀x,bM iter X.env x=pure x:=by intro _;rfl):r9 X Ex (sA :: .For tg iter [.Delete [.Subscript (.Name r p2) (.Name tm p3) p4] p1,sL,.Expr e3 pE] [] pos::xs) (DX iR sQ iL tH it t1 t3 tt):=by
 refine⟨?_⟩;rintro U s b_ H E I ⟨b,μ,σ,O,e1,c1,q⟩;have hlv:iR<b_.length:=by rw[I.len];exact hl
 refine(EC (hA _ hH.out) (EC (O8 n hc hi.out hg (EC (zij vR vT) (EC hL (Qr (QJ (XA hE.out) xR)))) hs) ht.out)) U s b_ H E I (rd.goS e1 c1 q λx O1 v F C ea xa ca da qa=>?_);cases x with
 | map ks ds=>
  obtain⟨a0,W,rfl,ra,na1,na2,Y,yM⟩:=da;refine⟨a0,_,rfl,.inr ra,λp n=>?_⟩;have ME:Mv F b C (upd F p (.dK ((ks.map kD).zip W))) (p::b) C:=(Mv.hide n).trans (Ext.laid n).mv;have VA:nq X.K (upd F p (.dK ((ks.map kD).zip W))) (p::b) C (σ.set iR Jf) (b_.set iR (Jd (.ref p))):=(ea.mv ME).forget _;have UT:p∉C:=λm=>by
   obtain⟨k,Z,e2⟩:=c8.mp m;obtain⟨_,_,_,h2,_⟩:=ca.at_ k p (by rw[ao Z,e2]);rw[n] at h2;cases h2
  have nph:p∉b:=λm=>ca.ht p m n;have cap:nk X.K (upd F p (.dK ((ks.map kD).zip W))) (p::b) C O1:=by
   have c0:=ca.laid (o:=.dK ((ks.map kD).zip W)) n;refine⟨c0.len,c0.nd,λa m z=>?_,λa m=>?_,λk a e=>?_⟩
   ·rcases ar.mp z with e|z
    ·exact UT (e▸m)
    ·exact c0.nh a m z
   ·rcases ar.mp m with e|m
    ·rw[e,qP];simp
    ·exact c0.ht a m
   ·obtain⟨G,D,S,h2,T⟩:=ca.at_ k a e;exact⟨G,D,S,by rw[o9 (rf h2 n)];exact h2,T.mv ME⟩
  have t:=qa;refine⟨p::b,C,σ.set iR Jf,O1,VA,cap,?_⟩;cases L:it (σ.set iR Jf) O1 with
  |bad=>rw[L] at t;exact aj t
  | exc c' l=>
   rw[L] at t;exact λg j x c2=>t g j ((Ext.laid n).trans x) c2.unhide
  | ok src O2=>
   rw[L] at t;intro J H1 e_ x1 c2 sa;cases src with
   |own _=>exact aj t
   |zip _ _=>exact aj t
   | val ys=>
    have t:=t;have e0:Ea p F C H1 e_:=(Ext.laid n).ea.trans x1.ea;have hp1:=x1.keep p _ qP UT;refine⟨λi m M g=>∃j f l P G D,m=ys.length-i/\i<=ys.length/\M.length=X.N.length/\Ea p H1 e_ g j/\nq X.K g (p::b) j f M/\nk X.K g (p::b) j l/\M[iR]?=Jd (Jd (.ref p))/\g p=Jd (.dK ((P.map kD).zip D))/\P.length=D.length/\np X.K g (p::b) j G D/\
     nw Ex X.K F b C (match zj iR sQ iL t1 t3 (ys.drop i) P G f l with
      |.nx f l=>tt f l
      |_=>.bad) E,
     ⟨_,e_,_,O2,ks,ds,W,rfl,bN _,by rw[ck];exact I.len,.refl,VA.ext x1,c2,by rw[bq hlv],hp1,Y,(yM.mv ME).ext x1,t⟩,?_⟩
    rintro i m vn H2 ⟨u,rR,Gh,B,DB,yE,hm,hile,U5,NN,Ga,AU,Jb,FL,BZ,Cg,c⟩;have De:=sa (p::b) H2 u Gh NN.mv AU i;have IL:match ys[i]? with
     |some d=>J.go i H2/\∀x sG,J.yld i H2 x sG->Ext H2 u sG u/\nk X.K sG (p::b) u Gh/\Y2 X.K sG (p::b) u d x
     |none=>J.stop i H2:=De
    cases qp:ys[i]? with
    | none=>
     rw[qp] at IL;have xX:i=ys.length:=by have:=aY.mp qp;lia
     rw[xX,mx] at c;exact .inl ⟨IL,b,u,rR,Gh,Ga.mv .unhide,AU.unhide,c.ext ((e0.trans NN).ext n)⟩
    | some d=>
     rw[qp] at IL;obtain⟨go,yl⟩:=IL;have xX:=(al.mp qp).1;rw[cO xX,(al.mp qp).2] at c;unfold zj at c;cases Z:vq d with
     |none=>rw[Z] at c;exact aj c
     | some k=>
      rw[Z] at c;dsimp only at c;by_cases rM:Dj k B=Jg
      case neg=>rw[Jk rM] at c;exact aj c
      rw[Ji rM] at c;refine .inr ⟨go,λM g=>∃j f l P G D,M.length=X.N.length/\Ea p H1 e_ g j/\nq X.K g (p::b) j f M/\nk X.K g (p::b) j l/\M[iR]?=Jd (Jd (.ref p))/\g p=Jd (.dK ((P.map kD).zip D))/\P.length=D.length/\np X.K g (p::b) j G D/\
       nw Ex X.K F b C (match zj iR sQ iL t1 t3 (ys.drop (i+1)) P G f l with
        |.nx f l=>tt f l
        |_=>.bad) E,λf g ⟨j,rB,O3,ks3,ds3,vs3,h⟩=>⟨ys.length-(i+1),by lia,j,rB,O3,ks3,ds3,vs3,rfl,xX,h⟩,λv H3 y=>?_⟩
      obtain⟨x3,c3,r3⟩:=yl v H3 y;have Ff:p∉u:=λm=>AU.nh p m 'd';have M4:=x3.keep p _ FL Ff;have NF:=(Ga.ext x3).set r3 sQ;have dd3:=Cg.ext x3;have ekv:=JT Z r3;have FF:(vn.set sQ (Jd v))[iR]?=Jd (Jd (.ref p)):=by rw[bj (bI n1)];exact Jb
      have MY:(vn.set sQ (Jd v))[sQ]?=Jd (Jd v):=by
       rw[bq (by rw[U5];exact hT)]
      refine⟨_,FF,v,MY,p,_,kD k,rfl,M4,ekv,Th BZ rM,?_⟩;obtain⟨R,hd1,hd2,hd3⟩:=Qf BZ dd3;rw[hd1];have NM:Ea p H3 u (upd H3 p (.dK (((uh k B).map kD).zip R))) u:=.putX (xG M4);have VB:=NF.mv (NM.mv);have cl4:=c3.putX (o:=.dK (((uh k B).map kD).zip R)) (xG M4);have dd4:=hd3.mv (NM.mv);cases S:t1 (rR.set sQ (Jd d)) Gh with
      |bad=>rw[S] at c;exact aj c
      |exc c' l=>rw[S] at c;exact aj c
      | ok d1 O5=>
       rw[S] at c;dsimp only at c;refine⟨p::b,u,rR.set sQ (Jd d),Gh,VB,cl4,?_⟩;rw[S];intro v1 H5 zX x5 c5 r5;have FK:=x5.keep p _ qP Ff;have Fe:p∉zX:=λm=>c5.nh p m 'd';have Jo:=(VB.ext x5).set r5 iL;have VC:=dd4.ext x5;have FE:((vn.set sQ (Jd v)).set iL (Jd v1))[iR]?=Jd (Jd (.ref p)):=by rw[bj (bI n2)];exact FF
       cases T:t3 (((rR.set sQ (Jd d)).set iL (Jd d1)).set iR (Jd (.map (uh k B) (xI k B DB)))) O5 with
       |bad=>rw[T] at c;exact aj c
       |exc c' l=>rw[T] at c;exact aj c
       | ok d3 O6=>
        rw[T] at c;dsimp only at c;by_cases hn:O6.all nms=Jg
        case neg=>rw[Jk hn] at c;exact aj c
        rw[Ji hn] at c;refine⟨p,_,FK,λo=>?_⟩;have NL:Ea p H5 zX (upd H5 p (.frz o (.dK (((uh k B).map kD).zip R)))) zX:=.putX (xG FK);have dm:Y2 X.K (upd H5 p (.frz o (.dK (((uh k B).map kD).zip R)))) b zX (.map (uh k B) (xI k B DB)) (.ref p):=by
         exact⟨p,R,rfl,⟨o,qP⟩,nph,Fe,hd2,(VC.mv (NL.mv)).mv .unhide⟩
        refine⟨b,zX,_,O5,((Jo.mv (NL.mv)).mv .unhide).put FE dm,(c5.putX (xG FK)).unhide,?_⟩;rw[T];intro v3 H6 Gn x6 c6 r6;have Je:=x6.keep p _ qP Fe;have ea7:Ea p H6 Gn (upd H6 p (.dK (((uh k B).map kD).zip R))) Gn:=.putX (OL Je);have NK:=(NL.trans x6.ea).trans ea7;exact⟨Je,Gn,_,O6,_,_,R,by rw[ck,ck];exact U5,((NN.trans x3.ea).trans NM).trans (x5.ea.trans NK),Jo.mv (NK.mv),(c6.hide Je hn).putX (OL Je),FE,qP,hd2,VC.mv (NK.mv),c⟩
 |_=>exact aj qa
end
end DL
namespace DL
open PySem L2
def GG(o:Obj):Nat:=match o.data with
 |.dict _ ep=>ep
 |_=>0
def VJ(a:ab)(o:Obj)(l_:List (Key×V)):It:=⟨λi H=>H a=Jd (.frz o (.dK l_))/\i<l_.length,λi H x H'=>H'=H/\∃k v,l_[i]?=Jd (k,v)/\x=kV k,λi H=>H a=Jd (.frz o (.dK l_))/\l_.length<=i⟩
theorem Pz:∀{l_:List (Key×V)}{ws:List (Key×ae)}{i:Nat}{k:Key}{v:V},KV l_ ws->l_[i]?=Jd (k,v)->∃u,ws[i]?=Jd (k,u)
 |_,_,_,_,_,.nil,h=>by simp at h
 | (k0,v0)::_,(k1,u1)::_,0,k,v,.cons h _,e=>by
  obtain⟨rfl,rfl⟩:=e;have a:=h.1;subst a;exact⟨u1,rfl⟩
 |_::_,_::_,i+1,k,v,.cons _ t,e=>Pz (i:=i) t ⇑e
def Zm(h:(xp P w).is k u=Jg):RelV (kV k) u:=by
 rcases yD h with⟨i,t,rfl,rfl⟩|⟨x,t,rfl,rfl⟩
 ·exact⟨t,rfl⟩
 ·exact⟨t,rfl⟩
def KA(ok:HOk P w H h)(e:H a=Jd (.frz o (.dK l_))):(a==sysModules)=Jh/\∃b,KV l_ b/\h.DictAt (xp P w) a b (GG o):=by
 obtain⟨d,z,i,b,c,m,j,k,f,l,g,r⟩:=ok a _ e;rw[d] at f;cases f;have:GG o=k:=by unfold GG;rw[g]
 rw[this];exact⟨i,b,c,o,j,d,l,g,r⟩
def zcN(a it:ab)(o:Obj)(n:List (Key×V)):v9 P w K tg (VJ a o n) [it] it (λi h=>h.IsKeyIter it a i n.length (GG o)) where
 mem:=by simp
 obj:=λi h g b j=>by
  have e:b=it:=⇑j
  subst e;obtain⟨o,e,c,d⟩:=g;exact⟨o,e,λv z=>by rw[d] at z;cases z⟩
 keep:=λi h N g k=>g.at λo e=>k it 'd' o e
 item:=by
  intro X q r t O i l s R H E I m g x;subst q r t;obtain⟨y,A⟩:=x;obtain⟨S,T,f,B⟩:=KA I.hok y;obtain⟨⟨k,v⟩,Q⟩:∃p,n[i]?=Jd p:=⟨_,ao A⟩;obtain⟨u,U⟩:=Pz f Q;obtain⟨C,D,W,F,G,J⟩:=m it 'd';rw[f.length] at g;refine wpAny_pyNext_dict_item g B U λL N Y M Z=>?_;have I1:=I.turned (λb o j e=>(Z.2 b j).trans e) C D F G J;obtain⟨o2,e,c,d⟩:=id M;rw[<- f.length] at M;exact⟨L,rfl,DY e c d 's' ⟨kV k,H,I1,Zm Y,⟨rfl,k,v,Q,rfl⟩,M,λb j=>(m b j).1⟩⟩
 done:=by
  intro X q r t O i l s R H E I m g x;subst q r t;obtain⟨y,A⟩:=x;obtain⟨S,T,f,B⟩:=KA I.hok y;obtain⟨C,D,W,F,G,J⟩:=m it 'd';rw[f.length] at g;exact wpAny_pyNext_dict_end (I.ok.hd O) g B (aY.mpr (by rw[<- f.length];exact A)) λN eb=>⟨rfl,I.turned (λb o j e=>eb b o j e) C D F G J⟩
 self:=λ_ _ _ _ _ g h=>wpAny_pyIter_keyiter g h
noncomputable def AB:DK->D
 |.inl i=>.int i
 |.inr cs=>.str cs
def Z9:∀k:DK,Y2 K H XV μ (AB k) (kV (kD k))
 |.inl _=>by unfold AB Y2;rfl
 |.inr _=>by unfold AB Y2;rfl
def ny.keys{K:ah}{H:Hp}{XV g:List ab}{b:List DK}{vs:List V}{a:ab}{o:Obj}(h:H a=Jd (.frz o (.dK ((b.map kD).zip vs))))(n:a∉XV)(p:a∉g)(j:b.length=vs.length):ny K (VJ a o ((b.map kD).zip vs)) (.val (b.map AB)) H XV g:=by
 intro u v w A m c i;have l:=m.kept a _ h p n (by intro B z;cases z);have f:((b.map kD).zip vs).length=b.length:=by rw[gw,aA,j,Nat.min_self]
 show match (b.map AB)[i]? with|some d=>_|none=>_
 rw[bd];cases e:b[i]? with
 | some k=>
  have q:=(al.mp e).1;refine⟨⟨l,by rw[f];exact q⟩,λx C y=>?_⟩;obtain⟨rfl,r,D,s,rfl⟩:=y;have t:r=kD k:=by
   have:=congrArg (mC Prod.fst) s;rw[<- bd,List.map_fst_zip (by rw[aA];exact gH j),bd,e] at this;cases this;rfl
  subst t;exact⟨.refl,c,Z9 k⟩
 | none=>
  exact⟨l,by rw[f];exact aY.mp e⟩
def Gq(t:DE):DI:=λσ O=>(t σ O).bnd λx O1=>match x with
 |.map ks _=>.ok (.val (ks.map AB)) O1
 |_=>.bad
def zfD{X:Cx}{l:Nat->Hp->Prop}{a y:aS}{t:DE}(z:PD X l a t):sD X l y a (Gq t):=by
 refine⟨?_⟩;rintro i s A H B I ⟨f,S,T,O,C,D,q⟩;refine o7 (z.out i s A H _ I (rd.go C D q (Q1:=λv g=>∃f h j d,nk X.K g f h j/\Y2 X.K g f h d v/\post l X.K (λE F s J=>ny X.K J s E f F) g f h (match d with|.map ks _=>.ok (.val (ks.map AB)) j|_=>.bad) B)
  λd j v g h U x c r p=>⟨f,h,j,d,c,r,p⟩)) λu m ⟨v,g,k,G,f,h,j,d,c,r,p⟩=>?_
 cases d with
 | map ks ds=>
  obtain⟨a,V,rfl,⟨o,w⟩,L,M,N,W⟩:=r;cases G;obtain⟨P,Y,n,Q⟩:=KA k.hok w;refine wpAny_pyIter_dict P Q ?_;rw[<- n.length];refine⟨m.heap.objs.size,[m.heap.objs.size],_,_,g,rfl,k.kept λb o e=>ai _ e,zcN a _ o _,⟨_,aO _ rfl,rfl,rfl⟩,λb R=>?_,post.here p c (.keys w L M N)⟩;have e:b=m.heap.objs.size:=⇑R
  subst e;exact k.fpOk (aE _) (k.hok.fresh (aE _))
 |_=>exact aj p
end DL
namespace DL
open PySem L2 PyProof.Rows
noncomputable def ltP(i j k l:Int):Bool:=decide (i<k)||(decide (i=k)&&decide (j<l))
section
variable{X:Cx}{Ex:Nat->Hp->Prop}
def zpd:Ow->D->D->R D:=λO x y=>match x,y with
 |.tup [.int i,.int j],.tup [.int k,.int l]=>.ok (.bl (ltP i j k l)) O
 |_,_=>.bad
def z_:List Int->Int
 |[]=>0
 |x::l=>l.foldl min x
theorem KW:∀(l:List Int)(x:Int),l.foldl min x<=x/\∀a∈l,l.foldl min x<=a
 |[],x=>⟨Int.le_refl _,λ_ h=>by cases h⟩
 | y::l,x=>by
  obtain⟨c,b⟩:=KW l (min x y);rw[dQ];refine⟨by lia,λa ha=>?_⟩;rcases ar.mp ha with rfl|ha
  ·lia
  ·exact b a ha
theorem Ey:∀(l:List Int)(x:Int),l.foldl min x=x\/l.foldl min x∈l
 |[],x=>.inl rfl
 | y::l,x=>by
  rw[dQ];rcases Ey l (min x y) with h|h
  ·rcases Int.le_total x y with e|e
   ·left;rw[h];lia
   ·right;rw[h];rw[show min x y=y by lia];exact am
  ·exact .inr (ak _ h)
def zdu(hm:M∈ns)(b:∀a,a∈ns->M<=a):M=z_ ns:=by
 cases ns with
 |nil=>cases hm
 | cons x l=>
  show M=l.foldl min x;obtain⟨c,d⟩:=KW l x;have f:l.foldl min x<=M:=by
   rcases ar.mp hm with rfl|hm
   ·exact c
   ·exact d M hm
  have g:M<=l.foldl min x:=by
   rcases Ey l x with e|e
   ·rw[e];exact b x am
   ·exact b _ (ak _ e)
  lia
def zei(m:X.calm=Jg):nF X (.builtin "min") (λxs H Q=>∃(p:ab)(ns:List Int),xs=[.ref p]/\qg X.K H p (ns.map V.int)/\ns≠[]/\Q (.int (z_ ns)) H):=by
 intro e s G H xs J Q I r h;obtain⟨p,ns,rfl,n,o,q⟩:=h;obtain⟨u,rfl,w⟩:=tu r;cases w;obtain⟨L,x,y,M⟩:=I.list n;have f:=TU x;obtain⟨b,g⟩:=f.allInts.items;have c:ns=b.toList.map (·.1):=by rw[<- f.numsOf,<- kZ,<- g]
 have k:=y.isList;rw[g] at k;have d:0<b.size:=by
  rcases Nat.eq_zero_or_pos b.size with z|z
  ·exact absurd (by rw[c,Array.eq_empty_of_size_eq_zero z];rfl) o
  ·exact z
 refine wT I (min_intList (I.ok.hd m) k d λv N A B C O=>?_);obtain⟨t,rfl⟩:=intItems_at B;obtain⟨P,D⟩:=argBest_lt (numAt b) (b.size-1);have E:numAt b (argBest (λi j=>decide (numAt b i<numAt b j)) (b.size-1))=z_ ns:=by
  refine zdu ?_ λa l=>?_
  ·rw[c,numAt_eq];exact getD_mem (by rw[aA,aI];lia)
  ·rw[c] at l;obtain⟨j,F,rfl⟩:=mem_getD l;rw[aA,aI] at F;rw[<- numAt_eq];exact D j 'o'
 rw[E];exact⟨.int _,H,I.kept (t':=A) C,⟨_,rfl⟩,q⟩
def D0:Ow->List D->R D:=λO xs=>match xs with
 | [x]=>match rk O x with
  | some ds=>match yk ds with
   |some ns=>if ns≠[] then .ok (.int (z_ ns)) O else .bad
   |none=>.bad
  |none=>.bad
 |_=>.bad
def zhT:ue X Ex (λxs H Q=>∃(p:ab)(ns:List Int),xs=[.ref p]/\qg X.K H p (ns.map V.int)/\ns≠[]/\Q (.int (z_ ns)) H) D0:=by
 intro H a j O xs k Q c d q;unfold D0 at q;split at q
 ·rename_i x;obtain⟨v,rfl,b⟩:=sI d;split at q
  ·rename_i l e;obtain⟨p,m,rfl,f,g⟩:=uj c b e;split at q
   ·rename_i ns h;obtain⟨i,q⟩:=post.ite q;refine⟨p,ns,rfl,?_,i,post.here q c rD⟩;rw[<- KH g h];exact f
   ·exact aj q
  ·exact aj q
 ·exact aj q
noncomputable def Gx(i:Nat)(t:DE):DS:=λσ O=>match σ[i]? with
 | some (Jd (.int a))=>(t σ O).bnS λd O1=>match d with
  |.int b=>.nx (σ.set i (Jd (.int (a+b)))) O1
  |_=>.bad
 |_=>.bad
def ziK(h:X.N.Nodup)(j:X.N[i]?=Jd x)(k:Loc X.env.scope x)(l:PD X Ex e te)(m:X.fn x=Jg\/X.env.scope.names.lookup x=Jd .local:=by first|exact .inl rfl|exact .inr rfl):
  sS X Ex (.AugAssign (.Name x pos') .Add e pos) (Gx i te):=
 xm (XS h j k l.out YO m) λn A B O E o H f s q=>by
  unfold Gx at q;split at q
  ·rename_i a t;obtain⟨v,u,g⟩:=f.at_ i _ t;unfold Y2 at g;subst g;refine⟨.int a,u,rd.goS f s q λd C v w y z x c r p=>?_⟩;cases d with
   | int b=>
    unfold Y2 at r;subst r;exact⟨a,b,rfl,rfl,p (o.set i (Jd (.int (a+b)))) w y .refl (z.set rD i) c⟩
   |_=>exact aj p
  ·exact aj q
end
end DL
namespace DL
open PySem L2
open PyProof.Rows (AllBare)
structure nv(P:aQ)(w:a8)(K:ah)(mg:az->Option ae)(base:aV)(x:az)(k n:Nat)(Pt:ab)(F:o5):Prop where
 ex:∃f fd ps,mg x=Jd (.ref f)/\cJ K (.ref f)=Jg/\Binds K fd ps []/\nK P w K mg base xA k f fd ps (yV K zW n Pt F)
section
variable{P:aQ}{w:a8}{K:ah}{mg:az->Option ae}{base:aV}{k n i:Nat}{x z:az}{Pt c:ab}{F G:o5}
def nv.imp(c:nv P w K mg base x k n Pt F)(h:∀ds O H XV a Q,nk K H XV a O->qC pS K H XV a (G ds O) Q->qC pS K H XV a (F ds O) Q):nv P w K mg base x k n Pt G:=by obtain⟨f,e,g,j,l,m,o⟩:=c.ex;exact⟨f,e,g,j,l,m,o.imp λs H Q E ⟨p,XV,a,ds,O,d,b,r,q⟩=>⟨p,XV,a,ds,O,d,b,r,h ds O H XV a Q b q⟩⟩
def nv.bad(c:nv P w K mg base x k n Pt F):nv P w K mg base x k n Pt (λ_ _=>.bad):=c.imp λ_ _ _ _ _ _ _ q=>aj q
def nv.self(c:nv P w K mg base x k n Pt F):nv P w K mg base x k n Pt F:=c
def nv.frz(c:nv P w K mg base x k n Pt F):nv P w K mg base x k n Pt (Cp F):=c.imp λd O H a e Q b q=>Ss b.len q
def Kt{f:ab}{name b:az}{j:ip}{body:List dW}{a:cG}{C D m I o ct M:ae}{J R:Option ab}{T:Array (Option ae)}{N y:List az}{t:DS}
  (U:K.lookup f=Jd ⟨M,R,.func (bV name b j body a C D m I J o ct),T⟩) (V:eB K o b=Jg) (S:sW N y a) (W:N[i]?=Jd z) (X:¬ uA a z)
  (Y:∀(A:be)(g:List Env)(s:ag)(H:Hp)(E:XK),nD k (A.deeper (dR b a s.heap.objs.size f o))->r9 (Cj P w K mg base N b a f o A g s H E) pS body t):
  nK P w K mg base xA (k+1) f (bV name b j body a C D m I J o ct) y (yV K zW y.length Pt (uN N.length i Pt t)):=by
 refine oY U V S (λZ H Q E h=>h.1) λA g s H Z Q E hr h=>?_;obtain⟨hl,B,μ,L,O,d,c,ti,l⟩:=h;refine⟨_,(rZ.fake W X (Y A g s H E hr).out).nox,B,μ,_,O,(T8 d N).set (d:=.tab Pt) (by unfold Y2;exact⟨rfl,ti⟩) i,c,?_⟩;unfold uN at l;generalize t ((L.map Jd++aH (N.length-L.length) Jf).set i (Jd (.tab Pt))) O=r at l;cases r with
 |nx σ O'=>exact λb_ p q x e u=>l .non p q x u Hn
 |rt d' O'=>exact λv p q x u r=>l v p q x u r
 |bk σ O'=>exact aj l
 |ct σ O'=>exact aj l
 |exc u O'=>exact λp q x c2=>l p q x c2
 |bad=>exact aj l
def Cd(h:pD K mg x st)(S:sW N ps (qr st))(o:N[i]?=Jd z)(p:¬ uA (qr st) z)
  (q:∀(g d j:ae)(l:Option ab)(b m:ae)(e:List ae),e.length=ps.length->bindArgs (bV x x (xo st) (tY st) (qr st) .none g d j l b m) ⟨e,[]⟩=pure (ps.zip e))
  (r:∀(f:ab)(b:ae)(A:be)(a:List Env)(s:ag)(H:Hp)(E:XK),nD k (A.deeper (dR x (qr st) s.heap.objs.size f b))->r9 (Cj P w K mg base N x (qr st) f b A a s H E) pS (tY st) t):
  nv P w K mg base x (k+1) ps.length Pt (uN N.length i Pt t):=by obtain⟨f,u,v,F⟩:=h;refine⟨f,u,ps,v,F.kp,F.binds q,?_⟩;obtain⟨D,I,g,d,j,l,b,m,J,rfl,y,B⟩:=F.ex;exact Kt y B S o p λA a s H E C=>r f b A a s H E C
def N9(h:vp K mg x st c)(S:sW N ps (qr st))(o:N[i]?=Jd z)(p:¬ uA (qr st) z)
  (q:∀(e b g:ae)(j:Option ab)(l m:ae)(d:List ae),d.length=ps.length->bindArgs (bV x x (xo st) (tY st) (qr st) .none e b g j l m) ⟨d,[]⟩=pure (ps.zip d))
  (r:∀(f:ab)(A:be)(a:List Env)(s:ag)(H:Hp)(E:XK),nD k (A.deeper (dR x (qr st) s.heap.objs.size f (.ref c)))->r9 (Cj P w K mg base N x (qr st) f (.ref c) A a s H E) pS (tY st) t):
  nv P w K mg base x (k+1) ps.length Pt (uN N.length i Pt t):=by obtain⟨f,u,v,F,y⟩:=h.ex;refine⟨f,u,ps,v,F.kp,F.binds q,?_⟩;obtain⟨I,J,e,b,g,j,l,m,L,rfl,B,C⟩:=F.ex;cases (y);exact Kt B C S o p λA a s H E D=>r f A a s H E D
def VY(F:L2.Fun K x x st f fd)(S:sW N ps (qr st))(d:N[i]?=Jd z)(e:¬ uA (qr st) z)
  (g:∀(b:ae)(A:be)(a:List Env)(s:ag)(H:Hp)(E:XK),nD k (A.deeper (dR x (qr st) s.heap.objs.size f b))->r9 (Cj P w K mg base N x (qr st) f b A a s H E) pS (tY st) t):
  nK P w K mg base xA (k+1) f fd ps (yV K zW ps.length Pt (uN N.length i Pt t)):=by obtain⟨o,p,q,h,r,u,b,v,y,rfl,j,l⟩:=F.ex;exact Kt j l S d e λA a s H E m=>g b A a s H E m
end
def yq(c:nv X.prog X.w X.K X.mg X.base x k n Pt F)(l:nD j X.A)(m:k<=j)(o:Gl X x)(r:sE X pS (e::es) t)
  (s:rG x:=by decide) (u:aP (e::es) X.env=(Jh,eval e X.env)::aP es X.env:=by rfl) (y:(backTo pos (aP es X.env)).any (·.1)=Jh:=by rfl):
  PD X pS (.Call (.Name x p) (e::es) [] pos) (qZ Pt iT n F t):=by
 obtain⟨f,U,V,z,B,C,G⟩:=c.ex;refine qN (Qz (G.mono m) l o z B C .nil OH r.out s u y) λa D E O W H Q h I q=>?_;obtain⟨J,q⟩:nI H Pt/\qC pS X.K H a D (k_ n F t E O) Q:=by
  unfold qZ at q;split at q
  ·rename_i p L;by_cases b:p=Pt
   ·rw[Ji b] at q;obtain⟨v,_,d⟩:=h.at_ iT _ L;rw[b] at d;exact⟨d.2,q⟩
   ·rw[Jk b] at q;exact aj q
  ·exact aj q
 refine sY.go h I q λM N Y Z P e2 R S i g=>?_;obtain⟨T,g⟩:=post.ite g;refine⟨by rw[bF,<- i.length];exact T,a,P,M,N,?_,S,R.tab _ J,g⟩;rw[bF];exact i
def walkU{l:lp}{q:aQ}{loose:List az}{XP:(az->Option ae)->aV->Prop}{r:a8->aV->Prop}{d:DefRec}{K:ir->ah}{k:Nat}{x xd:az}{F:Nat->o5}{α:Type}{Yf:ag->α}{Ya:a8->α}(J:l.most=Jd 63)(L:d.params.defaults=[])(M:nD k callerA)
  (N:∀w s,Yf s=Ya w->r w s.heap) (P:∀w h h',r w h->(∀b o,h.get? b=Jd o->h'.get? b=Jd o)->r w h')
  (Q:∀(w:a8)(h:aV),r w h->(K w.params).In h) (R:((PyProof.Rows.recsOf q).find? (λe=>e.name==xd)).isSome=Jg)
  (S:∀(w:a8)(i:az->Option ae)(t:ab)(h:aV),(K w.params).In h->h.Ns bB i->i d.name=Jd (.ref t)->
   iP (K w.params)=Jg/\∃(c Pt:ab),jf (K w.params) xd=Jd (c,Pt)/\∃v:d0,(∀(s:ag)(u:ae),j8 s v ⟨[u],[]⟩ [(x,u)])/\∀base:aV,(K w.params).In base->base.Ns bB i->tT i base c Pt->nK l.prog w (K w.params) i base xA k t v [x] (yV (K w.params) zW 1 Pt (F Pt)))
  (m:∀(Pt:Nat)(ns:List Int),ns.length<=63->∃O,F Pt [.lst (ns.map .int)] []=.ok (.bl Jg) O):
  PySem.W.WalkX q loose XP (λs=>(Yf s,decide (0<s.toks))) (λw=>(Ya w,Jg)) l.row.toRowW d [] (λf vs=>PySem.call f vs):=by
 refine Att.attach_call J L N P λw B U i mb t o pm cd V a vs ns G Y ho C qx X Z n j hg qf=>?_;have y:=Q w _ Y;obtain⟨hK,c,Pt,ht,v,hb,hG⟩:=S w i t _ y G.T.g X;obtain⟨dd,D⟩:=gA.mp R;have hnm:dd.name=xd:=by simpa using List.find?_some D
 obtain⟨hC,E⟩:=PySem.W.tab_of G.T y D ht;have hB:U.heap.BuiltinsAt i Pt:=by
  obtain⟨bm,ob,b1,b2,p,I,b5,A⟩:=G.T.bmain;refine⟨bm,ob,b1,b2,λq=>?_,λq=>?_,p,I,b5,A⟩
  ·obtain⟨o,es,ep,e,C,_⟩:=G.T.g;rw[q,e] at p;cases p;rw[C] at A;cases A
  ·rw[q,E] at p;cases p;cases I
 exact zds y G.T.g G.T.b G.T.builtins G.T.nolimit hg qf Z n (aG j 's') M hC E hK hB hG hb (λH hT hS=>XO (m Pt ns j) hT hS) λH e s' z=>z
end DL
namespace DL
open PySem L2 PyProof.Rows
def z9m(m:T = "list" \/ T = "tuple")(r:s.heap.get? p=Jd o)(t:o.cls=.type T)(u:o.data=.seq vs.toArray n)(f:jy vs ss)(i:vs.length<=4000000)
  (h:∀(a h':aV)(out:Array ae)(os:List az)(c:Nat),(∀b d,s.heap.get? b=Jd d->a.get? b=Jd d)->(∀b d,a.get? b=Jd d->h'.get? b=Jd d)->h'.get? a.objs.size=Jd { cls:=.type "list",data:=.seq out c }->jy out.toList os->os.Perm ss->sortedS os=Jg->Q (.ref a.objs.size) { s with heap:=h' }):
  ay (aC prog w) A (call (.builtin "sorted") [.ref p]) Q E s:=by
 refine gu me lE lG (lH _) ?_;refine aa (aq ?_);have v:vs.toArray.size<=KM:=by rw[aJ];exact aG i 's'
 refine aa (wpAny_collect_seq p m r t u λa x=>?_);refine aa (gi ?_);have K:vs.toArray.toList=vs:=by simp
 have g:(a.push (seqObj "list" vs.toArray 0)).get? a.objs.size=Jd (seqObj "list" vs.toArray 0):=aO _ rfl;refine aa (bK (cB ku ⟨_,g,rfl⟩ jR (TS.list_sort_big strKind_oneLt g f.keysOf (λL M j e=>keyKind_strs (by rw[<- e];exact f)) i λy z B=>⟨_,rfl,?_⟩) (kw _)));obtain⟨C,D,F,G⟩:=sorted_out_str f z B;refine aq ⟨_,rfl,?_⟩;have H:=d6 (bG λ_=>#[]) g rfl;have I:=ai (seqObj "list" #[] 0) (ai (seqObj "tuple" vs.toArray 0) H);have J:=d6 (bG λ_=>(KB y).map (·.2)) I rfl;refine h a _ _ C _ x (λb o k=>?_) J D F G;have l:a.objs.size≠b:=λq=>absurd (aR k) (by rw[<- q];exact cR _);exact(dS _ _ l).trans (ai _ (ai _ ((dS _ _ l).trans (ai _ k))))
section
variable{X:Cx}{Ex:Nat->Hp->Prop}{H:Hp}{XV μ:List ab}
def Ol(K:ah):List V->Hp->VK->Prop:=λxs H Q=>∃p ss,xs=[.ref p]/\qX K H p (ss.map λcs=>V.str ⟨cs.toArray⟩)/\ss.Nodup/\ss.length<=1000/\∀l,H l=Jf->Q (.ref l) (upd H l (.lst ((pM ss).map λcs=>V.str ⟨cs.toArray⟩)))
def zbP:nF X (.builtin "sorted") (Ol X.K):=by
 intro g s N H O P Q I r h;obtain⟨p,a,rfl,m,t,v,q⟩:=h;obtain⟨u,rfl,w⟩:=tu r;cases w;obtain⟨x,i,⟨o,y,z,n,A⟩,R⟩:=I.tuple m;have B:(a.map λb=>V.str ⟨b.toArray⟩)=(a.map toS).map V.str:=by rw[aZ];rfl
 have C:=HR (by rw[<- B];exact i);have j:x.length=a.length:=by have:=i.length;simpa using this.symm
 refine z9m (.inr rfl) y z A C 'o' λD S d T c E F G J k L=>?_;have e:=Qy k t L;subst e;have l:=I.kept E;have f:nu ((pM a).map λb=>V.str ⟨b.toArray⟩) d.toList:=by
  have f:=LA J;rw[aZ] at f;exact f
 have M:(pM a).length=a.length:=by have:=k.length_eq;simpa using this
 exact⟨.ref D.objs.size,_,l.laid (o:=.lst ((pM a).map λb=>V.str ⟨b.toArray⟩)) F (aE _) ⟨by rw[aA,M];exact aG v 's',d.toList,c,f,by rw[G]⟩,rfl,q _ (l.hok.fresh (aE _))⟩
def yh:Ow->List D->R D:=λO xs=>match xs with
 | [.tup ds]=>match tO ds with
  |some ss=>if ss.Nodup/\ss.length<=1000 then .ok (.lst ((pM ss).map .str)) O else .bad
  |none=>.bad
 |_=>.bad
def Y_:ue X Ex (Ol X.K) yh:=by
 intro H XV μ O m n Q c d q;unfold yh at q;split at q
 ·rename_i o;obtain⟨v,rfl,b⟩:=sI d;obtain⟨p,r,rfl,e,f⟩:=Bj b rfl;split at q
  ·rename_i g h;obtain⟨⟨i,j⟩,q⟩:=post.ite q;have k:=Hq f h;subst k;exact⟨p,g,rfl,e,i,j,λl a=>post.ok q (.laid a) (c.laid a) (Y2.newL c a (Lr _))⟩
  ·exact aj q
 ·exact aj q
end
noncomputable def J3(out sc:cG)(x:az):Bool:=(match sc.kind with|.function=>Jg|_=>Jh) && !sc.isCoroutine && !sc.isGenerator&&decide ((sc.names.map (·.1)).Nodup)&&(sc.names.lookup x==Jd .local)&&(sc.names.all λy=>!(y.2 == .cell)&&(!(y.2 == .local)||y.1==x))&&(sc.names.all λy=>!(y.2 == .free)||out.names.lookup y.1==Jd .cell||out.names.lookup y.1==Jd .free)
def WS(h:J3 out sc x=Jg):Ov out sc x:=by
 unfold J3 at h;simp only[aT,decide_eq_true_eq,af] at h;obtain⟨⟨⟨⟨⟨⟨c,f⟩,g⟩,i⟩,j⟩,d⟩,k⟩:=h;refine⟨?_,by simpa using f,by simpa using g,i,λy a=>?_,by simpa using j,λy a b=>?_,λy a b=>?_⟩
 ·cases e:sc.kind<;>rw[e] at c<;>first|rfl|cases c
 ·have:=(d y a).1;simpa using this
 ·have:=(d y a).2;rw[b] at this;simpa using this
 ·have:=k y a;rw[b] at this;simpa using this
def zgc(f:nD (k+2) X.A)(g:X.calm=Jg)(L:tT X.mg X.base c Pt)(h:X.env.code=.ref c)(i:J3 X.env.scope scope x=Jg)(j:defaultsOf params X.env=([],[]))
  (l:∀(name a:az)(cl:List (az×ab))(pm d ct u:ae),bindArgs (dG name a params body scope cl pm d ct) ⟨[u],[]⟩=pure [(x,u)]) (m:(X.N++[x]).Nodup) (n:PD X Ex e te)
  (o:∀(q:az)(b:ab)(d:ae)(cl:List (az×ab))(A:be)(outer:List Env)(s:ag)(H:Hp),nD k (A.deeper (xg q scope s.heap.objs.size b d cl))->PD (Gd X.prog X.w X.K X.mg X.base (X.N++[x]) (xg q scope s.heap.objs.size b d cl) A outer s H) pS body tE)
  (p:Gl X "min") (r:X.mg "min" = Jf) (t:aP [e] X.env=[(Jh,eval e X.env)]:=by rfl):PD X Ex (.Call (.Name "min" pn) [e] [⟨Jd (gZ "key"),.Lambda params body scope pl,kq⟩] pp) (CF Pt iT te tE):=
 zi6 f g L h (WS i) j l (λz=>(e8.mp m).2.2 x z x 'd' rfl) n o p r t
def z8V{X:Cx}{j:Nat->Hp->Prop}{c f b:aS}{d:List aS}{h:List bC}{a:cG}{e l m:Pos}{y:az}{i k:Nat}{ext:List az}{it0:DI}{g:Tg}{ts:List DT}{cs:List Cl}{te:DE}(_:Nx ext)(o:Bool)(n:X.calm=Jg)(p:X.N.Nodup)(q:X.N[i]?=Jd y)(r:X.env.scope.names.lookup y=Jd .local)(s:v7 X.env.scope a (X.N++ext) (pK (⟨it0,g,ts⟩::cs)))(t:sD X j f b it0)(u:GN X ext a f g d ts h cs c te)
  (v:swapsWith (.ListComp c (⟨f,b,d,0⟩::h) a e) (Jd (.Name y m)) l.line X.env=pure Jg) (w:ext.length=k:=by rfl) (z:∀x,bM b X.env x=pure x:=by intro _;rfl):
  PS X (.Assign [.Name y m] (.ListComp c (⟨f,b,d,0⟩::h) a e) l) (Cu (rd j X.K (pB o k it0 g ts cs te)) (uQ i)):=w▸zbh o ext n p q r t s u v z
end DL
namespace DL
open PySem L2
section
variable{X:Cx}{Ex:Nat->Hp->Prop}
def z7h{w B D h:aS}{j:List aS}{R:List bC}{f:cG}{l qU F:Pos}{y:az}{i k:Nat}{ext:List az}{it0:DI}{g:Tg}{ts:List DT}{cs:List Cl}{tk tv:DE}(_:Nx ext)(oN:X.calm=Jg)(hN:X.N.Nodup)(zM:X.N[i]?=Jd y)(hy:X.env.scope.names.lookup y=Jd .local)(hb:v7 X.env.scope f (X.N++ext) (pK (⟨it0,g,ts⟩::cs)))(hi:sD X Ex D h it0)
  (rQ:∀cells C s H r,PG (pU X (X.N++ext) f cells C s H r) D (g.rd X.K)/\bR (λe t=>qM (pU X (X.N++ext) f cells C s H r) pS e t) j ts/\nN (pU X (X.N++ext) f cells C s H r) R cs/\PD (pU X (X.N++ext) f cells C s H r) pS w tk/\PD (pU X (X.N++ext) f cells C s H r) pS B tv)
  (xR:swapsWith (.DictComp w B (⟨D,h,j,0⟩::R) f l) (Jd (.Name y F)) qU.line X.env=pure Jg) (hk:ext.length=k:=by rfl)
  (hs:∀x,bM h X.env x=pure x:=by intro _;rfl):sS X Ex (.Assign [.Name y F] (.DictComp w B (⟨D,h,j,0⟩::R) f l) qU) (pN i (xl k it0 g ts cs tk tv)):=by
 subst hk;refine⟨?_⟩;rintro G s b_ H E I ⟨M,μ,U,O,e1,c1,q⟩;rw[iq _ _ _ _ xR];refine aa (dU (aa ?_));show ay _ X.A (do let _ <- comprehension (.DictComp w B (⟨D,h,j,0⟩::R) f l) f X.env _ newDict Jh (eval h X.env) (Jd (assign (.Name y F) X.env))) _ _ s;have q:nw Ex X.K H M μ ((xl ext.length it0 g ts cs tk tv U O).bnS λd O1=>.nx (U.set i (Jd d)) O1) E:=q;unfold xl at q;refine aa (cj (Ez (SH w B) (use:=Jd (assign (.Name y F) X.env)) (Q:=λ_ S=>SP X G E .next S) oN hi hb (λcells Cn s H r _ _ _=>Od rQ cells Cn s H r) hs I e1 c1 ?_) (λ_ S hq=>aq (aq hq)) λ_ _ e=>e);cases V:Ao ext.length it0 g ts cs (AR tk tv) U O with
 |bad=>rw[V] at q;exact q
 |exc c' O'=>rw[V] at q;exact q
 | ok Ja O'=>
  rw[V] at q;rintro L W T nL x c ⟨Y,Z,rfl,hA,hl,dA⟩ S C I' ns nC l1 y1 ce pn;obtain⟨m,hn⟩:=ns;have n1:L∉M:=λm=>c1.ht L m nL;show ay _ _ (assign (.Name y F) X.env (.ref L)) _ _ S;refine gU (HL (v:=.ref L) I' hN zM (.inl hy) rfl (λrF Gj uo=>?_) (.inr hy));obtain⟨a,BS,ha⟩:=uo;have F7:C≠a:=by
   rcases ha with z|z
   ·rw[z];exact l1
   ·exact λe=>ce y a z e.symm
  refine⟨m,hn.sameBut BS F7,λh' uq=>?_⟩;obtain⟨o,J⟩:=Inv.frzK (Inv.bare Gj uq nC l1 y1 ce pn) hA;have ea:Ea L W T (upd W L (.frz o (.dK ((Y.map λp=>kD p.1).zip Z)))) T:=.putX (xG hA);have c2:=c.putX (o:=.frz o (.dK ((Y.map λp=>kD p.1).zip Z))) (xG hA);have P:=x.ea.trans ea;have x3:Ext H μ (upd W L (.frz o (.dK ((Y.map λp=>kD p.1).zip Z)))) T:=⟨P.pre,λb u g n ht=>P.kept b u g n (rf g nL) ht,P.fresh,P.there,P.tab⟩;exact⟨_,_,J,q _ _ T x3 ((e1.ext x3).set (T_ c2 n1 qP hl (dA.mv ea.mv)) i) c2.unhide⟩
end
end DL
namespace DLC
section
variable{α:Type}[DecidableEq α]
abbrev Held(α:Type):=List (g_×List α)
def keys(h:Held α):m_:=h.map (·.1)
def hold(h:Held α)(x:α):m_:=(h.filter λkv=>kv.2.contains x).map (·.1)
noncomputable def at_(h:Held α)(t:g_):List α:=((h.find? λkv=>decide (kv.1=t)).map (·.2)).getD []
def drop(h:Held α)(t:g_):Held α:=h.filter λkv=>decide (kv.1≠t)
noncomputable def minGo(f:α->Nat):List α->α->α
 |[],b=>b
 |x::xs,b=>if f x<f b then minGo f xs x else minGo f xs b
def left(h:Held α)(w:List α)(t:g_):List α:=w.filter λx=>!(at_ h t).contains x
def covL(rec:Held α->List α->List m_)(h:Held α)(w:List α):m_->Held α->List m_
 |[],_=>[]
 |t::ts,r=>(rec (drop r t) (left h w t)).map (t :: ·)++covL rec h w ts (drop r t)
def cov:Nat->Held α->List α->List m_
 |_,_,[]=>[[]]
 |0,_,_::_=>[]
 |m+1,h,x::w=>covL (cov m) h (x::w) (hold h (minGo (λy=>(hold h y).length) w x)) h
theorem minGo_mem(f:α->Nat):∀(l:List α)(b:α),minGo f l b=b\/minGo f l b∈l
 |[],b=>.inl rfl
 | x::xs,b=>by
  unfold minGo;split
  ·rcases minGo_mem f xs x with h|h
   ·exact .inr (by rw[h];exact am)
   ·exact .inr (ak _ h)
  ·rcases minGo_mem f xs b with h|h
   ·exact .inl h
   ·exact .inr (ak _ h)
def Cov(h:Held α)(w:List α)(S:m_):Prop:=(∀t∈S,t∈keys h)/\∀x∈w,∃t∈S,x∈at_ h t
def mem_drop{h:Held α}{t:g_}{kv:g_×List α}:kv∈drop h t↔kv∈h/\kv.1≠t:=by unfold drop;simp
def keys_drop{h:Held α}{t s:g_}:s∈keys (drop h t)↔s∈keys h/\s≠t:=by
 unfold keys;simp only[av,mem_drop];constructor
 ·rintro⟨a,⟨b,c⟩,rfl⟩;exact⟨⟨a,b,rfl⟩,c⟩
 ·rintro⟨⟨a,b,rfl⟩,c⟩;exact⟨a,⟨b,c⟩,rfl⟩
def nd_drop{h:Held α}{t:g_}(n:(keys h).Nodup):(keys (drop h t)).Nodup:=by exact n.sublist ((gn).map _)
def Q8{h:Held α}{t s:g_}(b:s≠t):at_ (drop h t) s=at_ h s:=by
 unfold at_ drop;congr 2
 induction h with
 |nil=>rfl
 | cons kv r ih=>
  by_cases e:kv.1=t
  ·rw[cX ⇑e,fT (by simpa using λz=>b (z.symm.trans e)),ih]
  ·rw[cY ⇑e];by_cases a:kv.1=s
   ·rw[hW ⇑a,hW ⇑a]
   ·rw[fT ⇑a,fT ⇑a,ih]
def at_mem{h:Held α}(n:(keys h).Nodup){kv:g_×List α}(m:kv∈h):at_ h kv.1=kv.2:=by
 unfold at_
 induction h with
 |nil=>cases m
 | cons a r ih=>
  unfold keys at n;rw[br,bo] at n;rcases ar.mp m with rfl|m
  ·rw[hW 'd'];rfl
  ·have b:a.1≠kv.1:=λz=>n.1 (z▸av.mpr ⟨kv,m,rfl⟩);rw[fT ⇑b];exact ih n.2 m
def mem_hold{h:Held α}(n:(keys h).Nodup){x:α}{t:g_}:t∈hold h x↔t∈keys h/\x∈at_ h t:=by
 unfold hold;simp only[av,aB,aW];constructor
 ·rintro⟨b,⟨a,c⟩,rfl⟩;exact⟨av.mpr ⟨b,a,rfl⟩,by rw[at_mem n a];exact c⟩
 ·rintro⟨a,c⟩;obtain⟨b,d,rfl⟩:=av.mp a;exact⟨b,⟨d,by rw[<- at_mem n d];exact c⟩,rfl⟩
def hold_nd{h:Held α}(n:(keys h).Nodup)(x:α):(hold h x).Nodup:=by exact n.sublist ((gn).map _)
def on{h:Held α}{w:List α}{t:g_}{x:α}:x∈left h w t↔x∈w/\x∉at_ h t:=by unfold left;simp
theorem cov_sound:∀(m:Nat){h:Held α}{w:List α}{c:m_},(keys h).Nodup->c∈cov m h w->c.length<=m/\c.Nodup/\Cov h w c
 | m,h,[],c,n,hc=>by
  have:c=[]:=by unfold cov at hc;simpa using hc
  subst this;exact⟨bN _,gQ,⟨λ_ z=>(bE z).elim,λ_ z=>(bE z).elim⟩⟩
 |0,h,x::w,c,n,hc=>by unfold cov at hc;cases hc
 | m+1,h,x::w,c,n,hc=>by
  have v:∀(b:m_)(r:Held α),(∀t∈b,t∈keys h)->(∀a∈r,a∈h)->(keys r).Nodup->c∈covL (cov m) h (x::w) b r->c.length<=m+1/\c.Nodup/\Cov h (x::w) c:=by
   intro b
   induction b with
   |nil=>intro r _ _ _ hc;cases hc
   | cons t b ih=>
    intro r g j k hc;rcases aK.mp hc with hc|hc
    ·obtain⟨p,A,rfl⟩:=av.mp hc;obtain⟨B,C,q,D⟩:=cov_sound m (nd_drop k) A;have d:∀s∈p,s∈keys h/\s≠t:=λs hs=>by
      obtain⟨l,o⟩:=keys_drop.mp (q s hs);obtain⟨a,i,rfl⟩:=av.mp l;exact⟨av.mpr ⟨a,j a i,rfl⟩,o⟩
     have f:∀s∈p,at_ (drop r t) s=at_ h s:=λs hs=>by
      obtain⟨l,o⟩:=keys_drop.mp (q s hs);rw[Q8 o];obtain⟨a,i,rfl⟩:=av.mp l;rw[at_mem k i,at_mem n (j a i)]
     refine⟨by simpa using B,bo.mpr ⟨λz=>(d t z).2 rfl,C⟩,λs hs=>?_,λy E=>?_⟩
     ·rcases ar.mp hs with rfl|hs
      ·exact g s am
      ·exact(d s hs).1
     ·by_cases e:y∈at_ h t
      ·exact⟨t,am,e⟩
      ·obtain⟨s,u,F⟩:=D y (on.mpr ⟨E,e⟩);exact⟨s,ak _ u,by rw[<- f s u];exact F⟩
    ·exact ih (drop r t) (λs hs=>g s (ak _ hs)) (λa G=>j a (mem_drop.mp G).1) (nd_drop k) hc
  exact v _ h (λt g=>(mem_hold n).mp g |>.1) (λ_ h=>h) n hc
def cov_some:∀(m:Nat){h:Held α}{w:List α}{S:m_},(keys h).Nodup->Cov h w S->S.length<=m->∃c∈cov m h w,∀t∈c,t∈S
 |m,h,[],S,n,hS,hl=>⟨[],by unfold cov;simp,λ_ z=>(bE z).elim⟩
 | 0,h,x::w,S,n,hS,hl=>by
  obtain⟨t,a,_⟩:=hS.2 x am;have:S=[]:=dL.mp 'o';subst this;cases a
 | m+1,h,x::w,S,n,hS,hl=>by
  unfold cov;generalize u:minGo (λy=>(hold h y).length) w x=y;have G:y∈x::w:=by
   rcases minGo_mem (λy=>(hold h y).length) w x with e|e
   ·rw[<- u,e];exact am
   ·rw[<- u];exact ak _ e
  obtain⟨s,v,H⟩:=hS.2 y G;have hs:=(mem_hold n).mpr ⟨hS.1 s v,H⟩;have I:∀(b:m_)(r:Held α),(∃t∈b,t∈S)->(∀d∈r,d∈h)->(keys r).Nodup->(∀t∈S,t∈keys r)->b.Nodup->∃c∈covL (cov m) h (x::w) b r,∀t∈c,t∈S:=by
   intro b
   induction b with
   |nil=>rintro r ⟨_,h,_⟩;cases h
   | cons t b ih=>
    intro r g A i f J;by_cases a:t∈S
    ·have K:Cov (drop r t) (left h (x::w) t) (S.filter λs=>decide (s≠t)):=by
      refine⟨λs hs=>?_,λz L=>?_⟩
      ·obtain⟨j,k⟩:=aB.mp hs;exact keys_drop.mpr ⟨f s j,by simpa using k⟩
      ·obtain⟨j,k⟩:=on.mp L;obtain⟨l,B,C⟩:=hS.2 z j;have D:l≠t:=λe=>k (e▸C);refine⟨l,aB.mpr ⟨B,by simpa using D⟩,?_⟩;rw[Q8 D];obtain⟨d,E,rfl⟩:=av.mp (f l B);rw[at_mem i E,<- at_mem n (A d E)];exact C
     have N:(S.filter λs=>decide (s≠t)).length<S.length:=by
      rcases lK (S.filter λs=>decide (s≠t)).length S.length with z|z
      ·exact z
      ·have e:=gn.eq_of_length (jT (a7 _ _) z);rw[<- e] at a;have:=(aB.mp a).2;simp at this
     obtain⟨c,o,p⟩:=cov_some m (nd_drop i) K 'o';refine⟨t::c,bA _ (av.mpr ⟨c,o,rfl⟩),λs hs=>?_⟩;rcases ar.mp hs with rfl|hs
     ·exact a
     ·exact(aB.mp (p s hs)).1
    ·obtain⟨M,q,F⟩:=g;have q:=(ar.mp q).resolve_left (λe=>a (e▸F));obtain⟨c,o,p⟩:=ih (drop r t) ⟨M,q,F⟩ (λd f=>A d (mem_drop.mp f).1) (nd_drop i) (λs hs=>keys_drop.mpr ⟨f s hs,λe=>a (e▸hs)⟩) (bo.mp J).2;exact⟨c,ax _ o,p⟩
  exact I _ h ⟨s,hs,v⟩ (λ_ h=>h) n hS.1 (hold_nd n y)
end
section
variable{α:Type}[DecidableEq α]
def drop_lt{r:Held α}{t:g_}(b:t∈keys r):(drop r t).length<r.length:=by
 obtain⟨a,h,rfl⟩:=av.mp b;rcases lK (drop r a.1).length r.length with z|z
 ·exact z
 ·have e:drop r a.1=r:=gn.eq_of_length (jT (a7 _ _) z);rw[<- e] at h;exact absurd rfl (mem_drop.mp h).2
theorem Ru(a:∀r w,(keys r).Nodup->(rec r w).length<=2 ^ r.length):∀(ts:m_)(r:Held α),(∀t∈ts,t∈keys r)->ts.Nodup->(keys r).Nodup->(covL rec h w ts r).length<=2 ^ r.length
 |[],r,_,_,_=>bN _
 | t::ts,r,hk,nt,nr=>by
  unfold covL;rw[aw,aA];have d:=a (drop r t) (left h w t) (nd_drop nr);have f:=Ru (h:=h) (w:=w) a ts (drop r t) (λs b=>keys_drop.mpr ⟨hk s (ak _ b),λe=>(bo.mp nt).1 (e▸b)⟩) (bo.mp nt).2 (nd_drop nr);have c:2 ^ ((drop r t).length+1)<=2 ^ r.length:=fi 'o' (drop_lt (hk t am));rw[Nat.pow_succ] at c;lia
theorem cov_pow:∀(m:Nat)(h:Held α)(w:List α),(keys h).Nodup->(cov m h w).length<=2 ^ h.length
 |m,h,[],_=>by unfold cov;exact Nat.one_le_two_pow
 |0,h,x::w,_=>by unfold cov;exact bN _
 | m+1,h,x::w,n=>by
  unfold cov;exact Ru (cov_pow m) _ h (λt a=>((mem_hold n).mp a).1) (hold_nd n _) n
theorem perm_of_sub:∀{c S:m_},c.Nodup->(∀t∈c,t∈S)->S.length<=c.length->c.Perm S
 | [],S,_,_,h=>by
  have:S=[]:=dL.mp (Nat.le_zero.mp h);rw[this]
 | a::c,S,n,hs,h=>by
  have b:=hs a am;have d:=bo.mp n;have:=perm_of_sub (S:=S.erase a) d.2 (λt f=>(kM (λe:t=a=>d.1 (e▸f))).mpr (hs t (ak _ f))) (by
   rw[jD b];rw[bg] at h;lia)
  exact(this.cons a).trans (List.perm_cons_erase b).symm
structure Lm(h:Held α)(w:List α)(m:Nat):Prop where
 nd:(keys h).Nodup
 ne:cov m h w≠[]
 no:∀j,j<m->cov j h w=[]
def Lm.le{h:Held α}{w:List α}{m:Nat}(z:Lm h w m){S:m_}(b:Cov h w S):m<=S.length:=by
 rcases lK S.length m with g|g
 ·obtain⟨c,a,_⟩:=cov_some S.length z.nd b (aE _);rw[z.no _ g] at a;cases a
 ·exact g
def Lm.len{h:Held α}{w:List α}{m:Nat}(z:Lm h w m){c:m_}(a:c∈cov m h w):c.length=m:=by obtain⟨d,_,b⟩:=cov_sound m z.nd a;have:=z.le b;lia
def Lm.all{h:Held α}{w:List α}{m:Nat}(z:Lm h w m){S:m_}(d:Cov h w S)(b:S.length=m):∃c∈cov m h w,c.Perm S:=by obtain⟨c,a,e⟩:=cov_some m z.nd d (gH b);exact⟨c,a,perm_of_sub (cov_sound m z.nd a).2.1 e (by rw[z.len a,b];exact aE _)⟩
end
end DLC
namespace DLB
noncomputable def US(r:g_):Nat:=match r.getLast? with
 |some k=>k+1
 |none=>0
def ext(many:Nat)(r:g_):m_:=(aM (many-US r)).map λi=>r++[US r+i]
end DLB
namespace DL
open PySem L2
def Gy:List az->Bool
 |[]=>Jg
 |x::l=>!(l.contains x)&&Gy l
theorem uR:∀{l:List az},Gy l=Jg->l.Nodup
 |[],_=>gQ
 | x::l,h=>by
  unfold Gy at h;rw[aT,ei] at h;refine bo.mpr ⟨λm=>?_,uR h.2⟩;rw[aW.mpr m] at h;exact Bool.noConfusion h.1
noncomputable def JI:Option cT->Bool
 |some .local=>Jg
 |some .cell=>Jg
 |_=>Jh
def Zc(h:JI o=Jg):o=Jd .local\/o=Jd .cell:=by
 unfold JI at h;split at h
 ·exact .inl rfl
 ·exact .inr rfl
 ·cases h
def kNf:cT->Bool
 |.free=>Jh
 |_=>Jg
def Vu(N P:List az)(sc:cG):Bool:=Gy N&&(N.take P.length==P)&&P.all (λx=>JI (sc.names.lookup x))&&sc.names.all (λy=>kNf y.2)
def fnS(f:sc.kind=.function)(g:sc.isCoroutine=Jh)(i:sc.isGenerator=Jh)(h:Vu N P sc=Jg):sW N P sc:=by unfold Vu at h;simp only[aT] at h;obtain⟨⟨⟨a,b⟩,c⟩,d⟩:=h;refine⟨f,g,i,uR a,eq_of_beq b,λx j=>Zc (af.mp c x j),λy k e=>?_⟩;have:=af.mp d y k;rw[e] at this;cases this
end DL
namespace DL
open PySem
noncomputable def pl:Nat->D->Bool
 |n,.non=>Jg
 |n,.int _=>Jg
 |n,.str cs=>cs.all (· < 1114112)
 |n+1,.lst ds=>ds.all (pl n)
 |n+1,.tup ds=>ds.all (pl n)
 |_,_=>Jh
theorem EG{α β:Type}{f:α->Option β}:∀{l:List α},(∀x∈l,∃y,f x=Jd y)->∃m,pe f l=Jd m
 |[],_=>⟨[],rfl⟩
 | x::l,h=>by
  obtain⟨y,a⟩:=h x am;obtain⟨m,b⟩:=EG λz c=>h z (ak _ c);exact⟨y::m,by unfold pe;rw[a,b]⟩
def Ep(O:Ow):∀(n:Nat)(d:D),pl n d=Jg->∃p,qh O n d=Jd p:=by
 intro n
 induction n with
 | zero=>
  intro d h;cases d with
  |non=>exact⟨_,rfl⟩
  |int i=>exact⟨_,rfl⟩
  | str cs=>
   refine⟨.str ⟨cs.toArray⟩,?_⟩;show yb cs=_;unfold yb;rw[Ji (by simpa [pl] using h)]
  |_=>simp[pl] at h
 | succ n ih=>
  intro d h;cases d with
  |non=>exact⟨_,rfl⟩
  |int i=>exact⟨_,rfl⟩
  | str cs=>
   refine⟨.str ⟨cs.toArray⟩,?_⟩;show yb cs=_;unfold yb;rw[Ji (by simpa [pl] using h)]
  | lst ds=>
   obtain⟨m,a⟩:=EG λx b=>ih x (af.mp h x b);exact⟨.list m,by show(pe (qh O n) ds).map eH=_;rw[a];rfl⟩
  | tup ds=>
   obtain⟨m,a⟩:=EG λx b=>ih x (af.mp h x b);exact⟨.tuple m,by show(pe (qh O n) ds).map gE=_;rw[a];rfl⟩
  |_=>simp[pl] at h
theorem TQ{f:D->Option dJ}(R:∀x y p q,f x=Jd p->f y=Jd q->pl 0 x=pl 0 x->True){P:D->Prop}(e:∀x y p q,P x->P y->f x=Jd p->f y=Jd q->(bh p q=Jg↔x=y)):
  ∀(xs a:List D)(b c:List dJ),(∀x∈xs,P x)->(∀y∈a,P y)->pe f xs=Jd b->pe f a=Jd c->(eU b c=Jg↔xs=a)
 |[],[],b,c,_,_,e1,e2=>by cases e1;cases e2;simp[eU]
 | [],y::a,b,c,_,_,e1,e2=>by
  cases e1;unfold pe at e2;split at e2
  ·cases e2;simp[eU]
  ·cases e2
 | x::xs,[],b,c,_,_,e1,e2=>by
  cases e2;unfold pe at e1;split at e1
  ·cases e1;simp[eU]
  ·cases e1
 | x::xs,y::a,b,c,h1,h2,e1,e2=>by
  unfold pe at e1 e2;split at e1
  ·rename_i p g i j;cases e1;split at e2
   ·rename_i q h k l;cases e2;have m:=e x y p q (h1 x am) (h2 y am) i k;have n:=TQ R e xs a g h (λz d=>h1 z (ak _ d)) (λz d=>h2 z (ak _ d)) j l;show(bh p q&&eU g h)=Jg↔_;rw[aT,m,n,List.cons.injEq]
   ·cases e2
  ·cases e1
def yC(h:yb cs=Jd p):p=.str ⟨cs.toArray⟩:=by
 unfold yb at h;split at h
 ·cases h;rfl
 ·cases h
def Qs(a b:g_):bh (.str ⟨a.toArray⟩) (.str ⟨b.toArray⟩)=Jg↔D.str a=D.str b:=by
 show((⟨a.toArray⟩:az)==⟨b.toArray⟩)=Jg↔_;rw[beq_iff_eq];constructor
 ·intro h;have h:a.toArray=b.toArray:=by injection h
  rw[show a=b by simpa using congrArg lf h]
 ·intro h;injection h with h;rw[h]
def PN(O:Ow):∀(n:Nat)(x y:D)(p q:dJ),pl n x=Jg->pl n y=Jg->qh O n x=Jd p->qh O n y=Jd q->(bh p q=Jg↔x=y):=by
 intro n
 induction n with
 | zero=>
  intro x y p q v l m f;cases x with
  | non=>cases m;cases y with
   |non=>cases f;simp[bh]
   |int j=>cases f;simp[bh]
   |str b=>have:=yC f;subst this;simp[bh]
   |_=>simp[pl] at l
  | int i=>cases m;cases y with
   |non=>cases f;simp[bh]
   |int j=>cases f;simp[bh]
   |str b=>have:=yC f;subst this;simp[bh]
   |_=>simp[pl] at l
  | str a=>have:=yC m;subst this;cases y with
   |non=>cases f;simp[bh]
   |int j=>cases f;simp[bh]
   |str b=>have:=yC f;subst this;exact Qs a b
   |_=>simp[pl] at l
  |_=>simp[pl] at v
 | succ n ih=>
  have w:∀s k g r,(s.all (pl n))=Jg->(k.all (pl n))=Jg->pe (qh O n) s=Jd g->pe (qh O n) k=Jd r->(eU g r=Jg↔s=k):=λs k g r z A m f=>
   TQ (λ_ _ _ _ _ _ _=>trivial) (λx y p q a b c d=>ih x y p q a b c d) s k g r (af.mp z) (af.mp A) m f
  have t:∀{o:List D}{p},qh O (n+1) (.lst o)=Jd p->∃g,pe (qh O n) o=Jd g/\p=.list g:=λ{o p}e=>by
   have e:(pe (qh O n) o).map eH=Jd p:=e;cases h:pe (qh O n) o with
   |none=>rw[h] at e;cases e
   |some g=>rw[h] at e;cases e;exact⟨g,rfl,rfl⟩
  have u:∀{o:List D}{p},qh O (n+1) (.tup o)=Jd p->∃g,pe (qh O n) o=Jd g/\p=.tuple g:=λ{o p}e=>by
   have e:(pe (qh O n) o).map gE=Jd p:=e;cases h:pe (qh O n) o with
   |none=>rw[h] at e;cases e
   |some g=>rw[h] at e;cases e;exact⟨g,rfl,rfl⟩
  intro x y p q v l m f;cases x with
  | non=>cases m;cases y with
   |non=>cases f;simp[bh]
   |int j=>cases f;simp[bh]
   |str b=>have:=yC f;subst this;simp[bh]
   |lst k=>obtain⟨_,_,rfl⟩:=t f;simp[bh]
   |tup k=>obtain⟨_,_,rfl⟩:=u f;simp[bh]
   |_=>simp[pl] at l
  | int i=>cases m;cases y with
   |non=>cases f;simp[bh]
   |int j=>cases f;simp[bh]
   |str b=>have:=yC f;subst this;simp[bh]
   |lst k=>obtain⟨_,_,rfl⟩:=t f;simp[bh]
   |tup k=>obtain⟨_,_,rfl⟩:=u f;simp[bh]
   |_=>simp[pl] at l
  | str a=>have:=yC m;subst this;cases y with
   |non=>cases f;simp[bh]
   |int j=>cases f;simp[bh]
   |str b=>have:=yC f;subst this;exact Qs a b
   |lst k=>obtain⟨_,_,rfl⟩:=t f;simp[bh]
   |tup k=>obtain⟨_,_,rfl⟩:=u f;simp[bh]
   |_=>simp[pl] at l
  | lst s=>obtain⟨g,z,rfl⟩:=t m;cases y with
   |non=>cases f;simp[bh]
   |int j=>cases f;simp[bh]
   |str b=>have:=yC f;subst this;simp[bh]
   | lst k=>
    obtain⟨r,A,rfl⟩:=t f;show eU g r=Jg↔_;rw[w s k g r v l z A,D.lst.injEq]
   |tup k=>obtain⟨_,_,rfl⟩:=u f;simp[bh]
   |_=>simp[pl] at l
  | tup s=>obtain⟨g,z,rfl⟩:=u m;cases y with
   |non=>cases f;simp[bh]
   |int j=>cases f;simp[bh]
   |str b=>have:=yC f;subst this;simp[bh]
   |lst k=>obtain⟨_,_,rfl⟩:=t f;simp[bh]
   | tup k=>
    obtain⟨r,A,rfl⟩:=u f;show eU g r=Jg↔_;rw[w s k g r v l z A,D.tup.injEq]
   |_=>simp[pl] at l
  |_=>simp[pl] at v
def D5(O:Ow)(a:pl 8 x=Jg)(c:pl 8 y=Jg)(f:b=Jg↔x=y):pj rl O x y=.ok (.bl b) O/\pj qW O x y=.ok (.bl !b) O:=by obtain⟨p,d⟩:=Ep O 8 x a;obtain⟨q,e⟩:=Ep O 8 y c;have h:=PN O 8 x y p q a c d e;have:=dq.mpr (h.trans f.symm);unfold pj py;rw[d,e];subst this;exact⟨rfl,rfl⟩
theorem R_(b:pl n x=Jg)(c:qh O n x=Jd p):∀(l:List D)(a:List dJ),(l.all (pl n))=Jg->pe (qh O n) l=Jd a->((a.any λy=>bh y p)=Jg↔x∈l)
 |[],a,_,e=>by cases e;simp
 | y::l,a,h,e=>by
  unfold pe at e;split at e
  ·rename_i q d f g;cases e;rw[eV,aT] at h;rw[gg,iA,PN O n y x q p h.1 b f c,R_ b c l d h.2 g,ar];exact⟨λz=>z.imp Eq.symm id,λz=>z.imp Eq.symm id⟩
  ·cases e
def zen(O:Ow):∀(n:Nat)(d:D)(p:dJ),pl n d=Jg->qh O n d=Jd p->qh O (n+1) d=Jd p:=by
 intro n
 induction n with
 |zero=>intro d p h e;cases d<;>first|exact e|(simp[pl] at h)
 | succ n ih=>
  have f:∀(a:List D)b,(a.all (pl n))=Jg->pe (qh O n) a=Jd b->pe (qh O (n+1)) a=Jd b:=by
   intro a
   induction a with
   |nil=>intro b _ e;exact e
   | cons x a ihd=>
    intro b h e;rw[eV,aT] at h;unfold pe at e ⊢;split at e
    ·rename_i q g j k;rw[ih x q h.1 j,ihd g h.2 k];exact e
    ·cases e
  intro d p h e;cases d with
  | lst a=>
   have e:(pe (qh O n) a).map eH=Jd p:=e;show(pe (qh O (n+1)) a).map eH=Jd p;cases c:pe (qh O n) a with
   |none=>rw[c] at e;cases e
   |some b=>rw[c] at e;rw[f a b h c];exact e
  | tup a=>
   have e:(pe (qh O n) a).map gE=Jd p:=e;show(pe (qh O (n+1)) a).map gE=Jd p;cases c:pe (qh O n) a with
   |none=>rw[c] at e;cases e
   |some b=>rw[c] at e;rw[f a b h c];exact e
  |non=>exact e
  |int i=>exact e
  |str cs=>exact e
  |_=>simp[pl] at h
def GJ(O:Ow){x y:D}{l:List D}(j:pl 7 x=Jg)(n:l.all (pl 7)=Jg)(a:rk O y=Jd l\/y=.tup l){b:Bool}(q:b=Jg↔x∈l):uJ O x y=.ok (.bl b) O/\vt O x y=.ok (.bl !b) O:=by
 obtain⟨p,o⟩:=Ep O 7 x j;obtain⟨m,d⟩:=EG λz r=>Ep O 7 z (af.mp n z r);have h:=R_ j o l m n d;have e:=dq.mpr (h.trans q.symm);have f:py O x=Jd p:=zen O 7 x p j o;rcases a with a|rfl
 ·have c:py O y=Jd (.list m):=by
   cases y with
   |lst ds=>cases a;show(pe (qh O 7) l).map eH=_;rw[d];rfl
   | own k=>
    have a:O[k]?=Jd l:=a;show(match O[k]? with|some ds=>(pe (qh O 7) ds).map eH|none=>Jf)=_;rw[a];dsimp only;rw[d];rfl
   |_=>cases a
  have g:pj AH O x y=.ok (.bl b) O:=by unfold pj;rw[f,c];subst e;rfl
  have i:pj Cq O x y=.ok (.bl !b) O:=by unfold pj;rw[f,c];subst e;rfl
  cases y with
  |lst ds=>exact⟨g,i⟩
  |own k=>exact⟨g,i⟩
  |_=>cases a
 ·have c:py O (.tup l)=Jd (.tuple m):=by show(pe (qh O 7) l).map gE=_;rw[d];rfl
  have g:pj AH O x (.tup l)=.ok (.bl b) O:=by unfold pj;rw[f,c];subst e;rfl
  have i:pj Cq O x (.tup l)=.ok (.bl !b) O:=by unfold pj;rw[f,c];subst e;rfl
  exact⟨g,i⟩
def Eg(c:t σ O=.ok (.bl a) O)(d:a=Jg->u σ O=.ok (.bl b) O):xD t u σ O=.ok (.bl (a&&b)) O:=by
 show((t σ O).bnd _)=_;rw[c];cases a with
 |true=>exact d rfl
 |false=>rfl
def Sn(c:t σ O=.ok a O)(d:a=Jg->u σ O=.ok b O):yn t u σ O=.ok (a&&b) O:=by
 show((t σ O).bnd _)=_;rw[c];cases a with
 |true=>exact d rfl
 |false=>rfl
def KP(c:t σ O=.ok a O)(d:a=Jh->u σ O=.ok b O):ud t u σ O=.ok (a||b) O:=by
 show((t σ O).bnd _)=_;rw[c];cases a with
 |false=>exact d rfl
 |true=>rfl
def G2(O:Ow)(a:x.all (pl 7)=Jg)(c:y.all (pl 7)=Jg)(d:b=Jg↔x=y):pj rl O (.lst x) (.lst y)=.ok (.bl b) O/\pj qW O (.lst x) (.lst y)=.ok (.bl !b) O:=
 D5 O (x:=.lst x) (y:=.lst y) a c (d.trans (by rw[D.lst.injEq]))
def Kx(n:Nat)(l:g_):(l.map λ(p:Nat)=>D.int (p:Int)).all (pl n)=Jg:=af.mpr λd a=>by
 obtain⟨p,_,rfl⟩:=av.mp a;cases n<;>rfl
section
variable{σ:Sg}{O O1 O2:Ow}{t u:DE}{d a:DS}{x y:D}{r:RS}{i:Nat}{c:DT}{tA:DA}{ds:List D}
def rE(h:t σ O=.ok x O1)(b:d (σ.set i (Jd x)) O1=r):oM (pN i t) d σ O=r:=by rw[tX (CS h)];exact b
def yr(h:a σ O=.nx σ' O1)(b:d σ' O1=r):oM a d σ O=r:=by rw[tX h];exact b
def xJ(h:t σ O=.ok x O1)(b:d σ O1=r):oM (rg t) d σ O=r:=by rw[tX (Hz h)];exact b
def uC(h:c σ O=.ok Jh O1)(b:d σ O1=r):oM (qc c a' qe) d σ O=r:=by rw[tX (by rw[tU h];rfl)];exact b
def yp(h:c σ O=.ok Jg O1)(b:a' σ O1=.rt x O2):oM (qc c a' e) d σ O=.rt x O2:=Eo (by rw[tU h,Ji rfl];exact b)
def rh(h:d σ O=.rt x O1):fin (d σ O)=.ok x O1:=by rw[h];rfl
def zm(h:t σ O=.ok x O1):fin (oX t σ O)=.ok x O1:=by rw[qO h];rfl
def qF(b:t σ O=.ok x O1)(e:u σ O1=.ok y O2)(g:f O2 x y=z):h_ f t u σ O=z:=by rw[qD b e];exact g
def qE(b:tA σ O=.ok ds O1)(e:f O1 ds=z):oO f tA σ O=z:=by rw[vG b];exact e
def oY(b:tA σ O=.ok ds O1)(e:F ds O1=z)(f:ds.length=n:=by rfl):k_ n F tA σ O=z:=by rw[tW b f];exact e
end
end DL
set_option maxHeartbeats 400000
namespace K89
open PySem L2 DL
abbrev n_(x:Int):Option D:=Jd (.int x)
abbrev oQ(x:List D):Option D:=Jd (.tup x)
abbrev qu(x:List D):Option D:=Jd (.lst x)
abbrev qV(x:g_):Option D:=Jd (.str x)
abbrev qm(x:Nat):Option D:=Jd (.own x)
abbrev BD(x:Bool):Option D:=Jd (.bl x)
def top(i:Nat):dW:=PySem.Challenge.pw_leastterms_k89_whole_smooth_forms.main.body.getD i (.Pass ⟨0,0,0,0⟩)
def vI:List (Int×Int):=[(2,1),(4,2),(8,3),(16,4)]
def oo:List Int:=[1,2,4,8]
structure Txt(K:ah)(mg:az->Option ae):Prop where
 w0:pD K mg "is_whole" (top 9)
 w1:pD K mg "is_whole_within" (top 10)
 w2:pD K mg "need_whole_within" (top 11)
 w3:pD K mg "need_switches" (top 12)
 w4:pD K mg "is_rising" (top 13)
 w5:pD K mg "is_answer" (top 16)
 w6:pD K mg "is_function" (top 17)
 w7:pD K mg "need_function" (top 18)
 w8:pD K mg "switches_of" (top 19)
 w9:pD K mg "points_with" (top 20)
 wa:pD K mg "has_term_signs" (top 23)
 wb:pD K mg "need_term" (top 24)
 wc:pD K mg "has_rising_terms" (top 25)
 wd:pD K mg "all_terms" (top 26)
 we:pD K mg "bits_of" (top 27)
 wf:pD K mg "points_of" (top 28)
 wg:pD K mg "with_sign" (top 29)
 wh:pD K mg "exchanged" (top 30)
 wi:pD K mg "signs_in" (top 31)
 wj:pD K mg "terms_holding" (top 32)
 wk:pD K mg "holds_no_nought" (top 34)
 wl:pD K mg "holds_a_one" (top 35)
 wm:pD K mg "good_terms" (top 36)
 wn:pD K mg "can_widen_at" (top 37)
 wo:pD K mg "is_widest" (top 38)
 wp:pD K mg "greatest" (top 39)
 wq:pD K mg "is_form" (top 41)
 wr:pD K mg "signs_of" (top 42)
 ws:pD K mg "holders_in" (top 43)
 wt:pD K mg "covers" (top 44)
 wu:pD K mg "least_covers" (top 45)
 wv:pD K mg "held_points" (top 46)
 ww:pD K mg "least_forms" (top 47)
 wx:pD K mg "least_form" (top 48)
 wy:pD K mg "need_form" (top 51)
 wz:pD K mg "steps" (top 52)
 wA:pD K mg "kept_by" (top 53)
 wB:pD K mg "open_steps" (top 54)
 wC:pD K mg "gaps" (top 55)
 wD:pD K mg "is_smooth" (top 56)
 wE:pD K mg "least_keepers" (top 57)
 wF:pD K mg "least_smooth" (top 58)
 wG:pD K mg "mended" (top 59)
 wH:pD K mg "opposite_answer" (top 61)
 wI:pD K mg "opposite" (top 62)
 wJ:pD K mg "is_order" (top 64)
 wK:pD K mg "is_turns" (top 65)
 wL:pD K mg "has_change_parts" (top 66)
 wM:pD K mg "need_change" (top 67)
 wN:pD K mg "old_points" (top 68)
 wO:pD K mg "changed" (top 69)
 wP:pD K mg "turned" (top 70)
 wQ:pD K mg "changed_term" (top 71)
 wR:pD K mg "_law_cell_at" (top 73)
 wS:pD K mg "_law_state" (top 74)
 wT:pD K mg "_law_take" (top 75)
 wU:pD K mg "_law_function" (top 76)
 wV:pD K mg "_law_order" (top 77)
 wW:pD K mg "_law_change" (top 78)
 wX:pD K mg "_law_right" (top 79)
 wY:pD K mg "law" (top 80)
 wZ:mg "all" = Jf
 w01:mg "any" = Jf
 w11:mg "bool" = Jf
 w21:mg "dict" = Jf
 w31:mg "enumerate" = Jf
 w41:mg "int" = Jf
 w51:mg "isinstance" = Jf
 w61:mg "len" = Jf
 w71:mg "list" = Jf
 w81:mg "max" = Jf
 w91:mg "min" = Jf
 wa1:mg "range" = Jf
 wb1:mg "sorted" = Jf
 wc1:mg "str" = Jf
 wd1:mg "sum" = Jf
 we1:mg "tuple" = Jf
 wf1:mg "zip" = Jf
 wg1:JL mg "SIGNS" [45,48,49]
 wh1:A1 K mg "SWITCHES_BY_POINTS" vI
 wi1:JD mg "MOST_SWITCHES" 4
 wj1:JG K mg "WORTHS" oo
class CI (F:o5) (x:outParam az) (k n:outParam Nat):Prop where
 out:∀{P:aQ}{w:a8}{K:ah}{mg:az->Option ae}{base:aV},Txt K mg->Callee P w K mg base x k n F
section
variable{P:aQ}{w:a8}{K:ah}{mg:az->Option ae}{base:aV}
def us0{C:List ae->Prop}(h:C []):∀a,a.length=0->C a
 |[],_=>h
def us1{C:List ae->Prop}(h:∀a,C [a]):∀b,b.length=1->C b
 |[a],_=>h a
def us2{C:List ae->Prop}(h:∀a b,C [a,b]):∀c,c.length=2->C c
 |[a,b],_=>h a b
def us3{C:List ae->Prop}(h:∀a b c,C [a,b,c]):∀d,d.length=3->C d
 |[a,b,c],_=>h a b c
set_option hygiene false
local macro_rules|`(tactic| exists $t)=>`(tactic| with_reducible show PD _ _ _ $t)
local macro_rules|`(tactic| exists $x,2)=>`(tactic| exact zga $x _ rfl (Eb (by kernel_rfl)) (by walk_at "i") (by walk_at "q4"))
local macro_rules|`(tactic| exists $x,3)=>`(tactic| exact zd9 $x rfl (Eb (by kernel_rfl)) (by walk_at "i") (by walk_at "q5"))
local macro_rules|`(tactic| exists $x,4)=>`(tactic| exact z7Z $x _ rfl (uR (by kernel_rfl)) rfl rfl (Eb (by kernel_rfl)) (by walk_at "i") (by walk_at "q4") rfl)
local macro_rules|`(tactic| exists $x,5)=>`(tactic| exact z7h $x rfl (uR (by kernel_rfl)) rfl rfl (Eb (by kernel_rfl)) (by walk_at "i") (by walk_at "q5") rfl)
local macro_rules|`(tactic| exists $x,6)=>`(tactic| exact z8V $x _ rfl (uR (by kernel_rfl)) rfl rfl (Eb (by kernel_rfl)) (by walk_at "i") (by walk_at "q4") rfl)
local macro_rules|`(tactic| exists $f,$a,$b,$c,$d)=>`(tactic| (with_reducible show PD _ _ _ (oO $f _));refine zfc $a $b rfl $c $d ?_<;>walk_at "a")
local macro_rules|`(tactic| exists $f,$a,$b)=>`(tactic| (with_reducible show PD _ _ _ (h_ $f _ _));refine J4 $a $b ?_ ?_<;>walk_at "e")
local macro_rules|`(tactic| exists $f,$a,$b,0)=>`(tactic| (with_reducible show PD _ _ _ (h_ $f _ _));exact Ka $a $b '2' '2' (Ah _))
local macro_rules|`(tactic| exists $t,0)=>`(tactic| with_reducible show qM _ _ _ $t)
local macro_rules|`(tactic| exists $t,1)=>`(tactic| with_reducible show sS _ _ _ $t)
local macro_rules|`(tactic| walk_at "q4")=>`(tactic| exact λ_ _ _ _ _=>⟨by walk_at "g",by walk_at "fs",by walk_at "cs",'2'⟩)
local macro_rules|`(tactic| walk_at "q5")=>`(tactic| exact λ_ _ _ _ _=>⟨by walk_at "g",by walk_at "fs",by walk_at "cs",'2','2'⟩)
local macro_rules|`(tactic| walk_at "u")=>`(tactic| intro _ _ _ _ _ _;first|exact us1 λ_=>rfl|exact us2 λ_ _=>rfl|exact us3 λ_ _ _=>rfl|exact us0 rfl)
local macro_rules|`(tactic| walk_at "z")=>`(tactic| exact fnS rfl rfl rfl (by kernel_rfl))
local macro_rules|`(tactic| walk_at "v")=>`(tactic| first|exact .inl rfl|exact .inr (.inl rfl)|exact .inr (.inr rfl))
local macro_rules|`(tactic| walk_at "l")=>`(tactic| first|exact .inl rfl|exact .inr rfl)
local macro_rules|`(tactic| walk_at "le")=>`(tactic| first|decide|exact aE _|lia)
local macro_rules|`(tactic| walk_at "fx")=>`(tactic| first|refine Pf h hr '3' rfl ?_<;>walk_at "a")
local macro_rules|`(tactic| walk_at "f")=>`(tactic| first|exact Pf (CI.out T) hr '3' rfl '6'|((exists (k_ _ _ _));have h:=c_self;walk_at "fx"))
local macro_rules|`(tactic| walk_at "k")=>`(tactic| first|exact Yk|exact Y3 _ rfl|exact YB|exact W7)
local macro_rules|`(tactic| walk_at "n")=>`(tactic| first|exact Z_ T.wg1|exact Z4 T.wi1|exact zic T.wj1)
local macro_rules|`(tactic| walk_at "o")=>`(tactic| first|((exists (h_ rS _ _));refine Xu ?_ ?_<;>walk_at "e")|((exists (h_ pY _ _));exact WZ '2' '2' (λ_ _=>rfl))|((exists (h_ vC _ _));refine ZE ?_ ?_<;>walk_at "e")|exists (fI u9),Xd,zi1|exists (fI sT),Xm,ziL|exists (fI v_),zhK,Zi|exists (fI sU),Yi,zin|exists (fI DR),Xs,zhX|exists (fI A3),Yw,Y9|exists (fI JK),Yz,ziO|exists vV,JZ,Km,0|exists Ce,OS,Po,0|exists (pj rl),(Rf hr.units),CM,0|exists (pj qW),(QT hr.units),CM,0|((exists (h_ uJ _ _));exact Ka (PU hr.units) Pj '2' '2' rfl)|((exists (h_ vt _ _));exact Ka (Rk hr.units) Rn '2' '2' rfl)|exists DU,PM,Qk,0|exists yQ,Pw,QI,0|exists zl,Qj,RD,0|((exists (zo true vI _));refine zdy T.wh1 rfl ?_<;>walk_at "e")|((exists (CP yL yL _ _ _));refine zfI OI PL OI PL ?_ ?_ ?_<;>walk_at "e"))
local macro_rules|`(tactic| walk_at "c")=>`(tactic| first|exists p8,zf9,Xy,T.w61,Xn|exists uM,(zdU rfl),YW,T.wZ,Y6|exists Cs,(zdz rfl),Xq,T.w01,Yv|exists GH,(zeh rfl),Xi,T.wd1,YX|exists Bi,(zcq rfl),zi3,T.w81,X6|exists A_,(zdh rfl),Zg,T.w91,Ks|exists D0,(zei rfl),zhT,T.w91,Ks|exists CH,zcA,zi7,T.wb1,HX|((exists (oO y0 _));refine SY zdM zi0 rfl T.w41 Pa ?_<;>walk_at "a")|((exists (oO ui _));refine SY z6O zgl rfl T.we1 Ry ?_<;>walk_at "a")|((exists (s_ "bool" _));exact G7 '2' (by decide) rfl T.w51 Iv rfl T.w11 ziE)|((exists (s_ "int" _));exact G7 '2' (by decide) rfl T.w51 Iv rfl T.w41 Pa)|((exists (s_ "str" _));exact G7 '2' (by decide) rfl T.w51 Iv rfl T.wc1 Xc)|((exists (s_ "tuple" _));exact G7 '2' (by decide) rfl T.w51 Iv rfl T.we1 Ry)|((exists (qZ _ _ _ (EA _) _));refine yq (zde T hT L) hr '3' rfl ?_<;>walk_at "a")|((exists (qZ _ _ _ (EX _) _));refine yq (z64 T hT L) hr '3' rfl ?_<;>walk_at "a")|((exists (qZ _ _ _ (EZ _) _));refine yq (z4S T hT L) hr '3' rfl ?_<;>walk_at "a")|((exists (qZ _ _ _ (Iy _) _));refine yq (z6l T hT L) hr '3' rfl ?_<;>walk_at "a")|((exists (qZ _ _ _ (C_ _) _));refine yq (z5v T hT L) hr '3' rfl ?_<;>walk_at "a")|((exists (qZ _ _ _ (Hy _) _));refine yq (zbV T hT L) hr '3' rfl ?_<;>walk_at "a")|((exists (qZ _ _ _ (H9 _) _));refine yq (z6V T hT L) hr '3' rfl ?_<;>walk_at "a")|((exists (qZ _ _ _ (Ia _) _));refine yq (z7k T hT L) hr '3' rfl ?_<;>walk_at "a")|((exists (qZ _ _ _ F _));refine yq c_self hr '3' rfl ?_<;>walk_at "a")|((exists (qZ _ _ _ _ _));refine yq c_self hr '3' rfl ?_<;>walk_at "a")|((exists (CF _ _ _ _));exact zgc (k:=2) (hr.mono (by lia)) rfl L rfl (by kernel_rfl) rfl (λ_ _ _ _ _ _ _=>rfl) (uR (by kernel_rfl)) '2' (λq lam cd cl A outer s H hr=>'2') rfl T.w91)|exists D1,zd5,ZD,T.wb1,HX|exists yh,zbP,Y_,T.wb1,HX|exists CL,zcM,ZQ,T.wb1,HX|((exists (CJ _ _));refine Zd _ rfl rfl T.w71 Zu rfl T.wa1 ?_<;>walk_at "a"))
local macro_rules|`(tactic| walk_at "so")=>`(tactic| first|((with_reducible show zU _ _ _ xH);exact zfL)|refine zf8 ?_<;>walk_at "e")
local macro_rules|`(tactic| walk_at "m")=>`(tactic| first|((exists (yW _ _));exact zek '2' '6')|((exists (Cv _ _));exact zc6 '2' '6')|((exists (CG _ _));exact zir '2' '2' (λ_ _=>rfl))|((exists (xl _ _ _ _ _ _ _));first|exists x0,3|exists x1,3)|((exists (CN _ _));exact zgj '2' '6')|((exists (GU _ _));exact ziR '2' '6')|((exists (NO JO _ _));exact WH PySem.F.slot_str_count PySem.F.type_str_count zfX Yg '2' '6')|((exists (Jp _ _ _));exact WK '2' (by walk_at "so") (by walk_at "so"))|((exists (yU _ _ _));exact YL '2' (by walk_at "so") (by walk_at "so"))|((exists (DP vI _));exact zhM T.wh1 rfl '2' (λ_ _=>rfl)))
local macro_rules|`(tactic| walk_at "e1")=>`(tactic| first|((exists (pG _));refine Yn rfl ?_<;>walk_at "v")|((exists (dC _));first|walk_at "k"|walk_at "n")|((exists (h_ _ _ _));walk_at "o")|((exists (k_ _ _ _));walk_at "f")|((exists (uK _));refine XJ ?_<;>walk_at "a")|((exists (uc _));refine YI ?_<;>walk_at "a")|((exists (pB _ _ _ _ _ _ _));first|exists x0,2|exists x1,2)|((exists (oO _ _));walk_at "c")|((exists (ym _));refine zi8 ?_<;>walk_at "a")|((exists (xD _ _));refine Ye ?_ ?_<;>walk_at "e")|((exists (NP _ _));refine Ww ?_ ?_<;>walk_at "e")|((exists (DJ _));refine Yo ?_<;>walk_at "e")|((exists (AS _ _ _));exact zgg (by walk_at "t") '2' '2')|walk_at "c"|walk_at "m"|walk_at "o")
local macro_rules|`(tactic| walk_at "e")=>`(tactic| first|(show PD _ _ (.BoolOp _ [_] _) _;refine Y7 ?_<;>walk_at "e1")|walk_at "e1")
local macro_rules|`(tactic| walk_at "a")=>`(tactic| first|((with_reducible show sE _ _ _ f_);exact ZH)|exact zg8 '2' '6')
local macro_rules|`(tactic| walk_at "t")=>`(tactic| first|((exists (o8 (h_ vV _ _)),0);exact zq JZ Km '2' '2' (Ah _))|((exists (o8 (h_ Ce _ _)),0);exact zq OS Po '2' '2' (Ah _))|((with_reducible show qM _ _ _ (o8 (h_ (pj rl) _ _)));exact zq (Rf hr.units) CM '2' '2' (Ah _))|((with_reducible show qM _ _ _ (o8 (h_ (pj qW) _ _)));exact zq (QT hr.units) CM '2' '2' (Ah _))|((exists (o8 (h_ uJ _ _)),0);exact zq (PU hr.units) Pj '2' '2' rfl)|((exists (o8 (h_ vt _ _)),0);exact zq (Rk hr.units) Rn '2' '2' rfl)|((exists (o8 (h_ DU _ _)),0);exact zq PM Qk '2' '2' (Ah _))|((exists (o8 (h_ yQ _ _)),0);exact zq Pw QI '2' '2' (Ah _))|((exists (o8 (h_ zl _ _)),0);exact zq Qj RD '2' '2' (Ah _))|((exists (o8 (zo true vI _)),0);refine zbw T.wh1 rfl ?_<;>walk_at "e")|(show qM _ _ (.BoolOp _ _ _) _;refine vm.pt ?_<;>walk_at "w")|((with_reducible show qM _ _ _ (qS _));refine ziB ?_<;>walk_at "t")|((with_reducible show qM _ _ _ (qk _));exact Zx '2' (λ_=>rfl)))
local macro_rules|`(tactic| walk_at "w")=>`(tactic| first|(show vm _ _ (.BoolOp .And [_] _) _;refine zfY ?_<;>walk_at "t")|(show vm _ _ (.BoolOp .Or [_] _) _;refine ZJ ?_<;>walk_at "t")|((with_reducible show vm _ _ _ (yn _ _));exact ZF (by walk_at "t") (by walk_at "w"))|((with_reducible show vm _ _ _ (ud _ _));exact Yd (by walk_at "t") (by walk_at "w")))
local macro_rules|`(tactic| walk_at "i")=>`(tactic| first|((with_reducible show sD _ _ _ _ (vf _));refine zb6 rfl T.wa1 ?_<;>walk_at "a")|((with_reducible show sD _ _ _ _ (Be _));refine zeX rfl T.wf1 ?_<;>walk_at "a")|((with_reducible show sD _ _ _ _ (He _));refine zcT rfl T.w31 ?_<;>walk_at "a")|((with_reducible show sD _ _ _ _ (Gq _));refine zfD ?_<;>walk_at "e")|refine zhG ?_<;>walk_at "e")
local macro_rules|`(tactic| walk_at "g")=>`(tactic| first|((with_reducible show PG _ _ (DQ _ 3 _));refine zgp rfl (uR (by kernel_rfl)) rfl rfl rfl ?_ ?_ ?_ ?_ ?_ ?_<;>walk_at "l")|(show PG _ (.Name _ _) _;refine YE (uR (by kernel_rfl)) rfl ?_ ?_<;>walk_at "l")|(show PG _ (.Tuple [_,_] _ _) _;refine Yh rfl (uR (by kernel_rfl)) rfl rfl ?_ ?_ ?_ ?_<;>walk_at "l"))
local macro_rules|`(tactic| walk_at "fs")=>`(tactic| first|exact .nil|exact .cons (by walk_at "t") (by walk_at "fs"))
local macro_rules|`(tactic| walk_at "cs")=>`(tactic| first|exact .nil|(refine nN.cons ?_ (λ_=>rfl) ?_ ?_ ?_;(dsimp only;walk_at "i");(dsimp only;walk_at "g");(dsimp only;walk_at "fs");walk_at "cs"))
local macro_rules|`(tactic| walk_at "s")=>`(tactic| first|((exists (oX _),1);refine Z5 ?_<;>walk_at "e")|((exists (qc _ _ _),1);exact YJ (by walk_at "t") (by walk_at "ss") (by walk_at "ss"))|(show sS _ _ (.Assign [.Name _ _] (.ListComp _ _ _ _) _) _;first|exists x0,4|exists x1,4|exact Kv (uR (by kernel_rfl)) rfl (by walk_at "l") '2')|(show sS _ _ (.Assign [.Name _ _] (.DictComp _ _ _ _ _) _) _;first|exists x0,5|exists x1,5|exact Kv (uR (by kernel_rfl)) rfl (by walk_at "l") '2')|((exists (pN _ _),1);exact Kv (uR (by kernel_rfl)) rfl (by walk_at "l") '2')|((exists (yg _ _ _),1);exact Zh jU rfl (by walk_at "i") (by walk_at "g") (by walk_at "ss"))|((exists (rg _),1);refine zfN ?_<;>walk_at "e")|((exists (yT _ _ _),1);refine ziY ?_ ?_ ?_<;>walk_at "e")|((exists (DM _ _ _),1);exact Ze rfl (uR (by kernel_rfl)) rfl rfl (by decide) rfl rfl '6' rfl)|((exists (Gs _ _),1);exact zi2 '2' (by walk_at "g"))|((exists (D3 _ _ _ _),1);exact zfC '2' (by walk_at "g"))|((exists (Gx _ _),1);exact ziK (uR (by kernel_rfl)) rfl (by walk_at "l") '2')|((exists (G8 _ _ _),1);exact zd3 _ jU (by walk_at "t") (by walk_at "ss"))|((exists qe,1);exact zgB))
local macro_rules|`(tactic| walk_at "sl")=>`(tactic| first|first|exists x0,6|exists x1,6)
local macro_rules|`(tactic| walk_at "rs")=>`(tactic| first|(refine zcl jU rfl (λte he=>PJ (uR (by kernel_rfl)) rfl ?_ (Lf zb7 rfl T.w21 zhP (Ej he G6))) ?_ ?_ ?_ (J_ rfl ?_) (J_ rfl ?_) ?_ ?_ rfl ?_ (by decide) (by decide) (kz rfl) (kz rfl);(walk_at "l");(walk_at "e");(walk_at "i");(walk_at "g");(walk_at "v");(walk_at "v");(walk_at "sl");(walk_at "e");(walk_at "ss")))
local macro_rules|`(tactic| walk_at "ss")=>`(tactic| first|((with_reducible show r9 _ _ _ (DX _ _ _ _ _ _ _ _));walk_at "rs")|((with_reducible show r9 _ _ _ qe);exact zg7)|((with_reducible show r9 _ _ _ Ac);exact RM)|((with_reducible show r9 _ _ _ (oM _ _));exact pF '1' (by walk_at "ss"))|refine pH ?_<;>walk_at "s")
def pX{x:az}{st:dW}{t:DS}(k:Nat)(N:List az)(j:Nat)(h:pD K mg x st)(pL:∀{f:ab}{ph:ae}{A:be}{outer:List Env}{s:ag}{H:Hp}{E:XK},nD k (A.deeper (dR x (qr st) s.heap.objs.size f ph))->r9 (Cj P w K mg base N x (qr st) f ph A outer s H E) pS (tY st) t)(S:sW N (N.take j) (qr st):=by walk_at "z")(hb:∀(kV doc pm:ae)(an:Option ab)(ph ct:ae)(us:List ae),us.length=(N.take j).length->bindArgs (bV x x (xo st) (tY st) (qr st) .none kV doc pm an ph ct) ⟨us,[]⟩=pure ((N.take j).zip us):=by walk_at "u"):Callee P w K mg base x (k+1) (N.take j).length (pP N.length t):=fnC h S hb λ_ _ _ _ _ _ _ hr=>pL hr
abbrev i_:=pG 0
def TR:DS:=(oX (xD (s_ "int" i_) (DJ (s_ "bool" i_))))
def C7:o5:=(pP 1 TR)
instance:CI C7 "is_whole" 1 1:=⟨λT=>
 Callee.self (pX 0 ["thing"] 1 T.w0 λhr=>
  ((pH (by delta TR;walk_at "s"))))⟩
abbrev qw:=dC (.int 1)
abbrev oZ:=pG 1
abbrev pO:=pG 2
def T7:DS:=(oX (oO uM (a_ (pB Jh 2 (Be (a_ i_ (a_ (yU i_ (yo qw) xH) f_))) (.two 1 2) [] [] (h_ yQ oZ pO)) f_)))
def LZ:o5:=(pP 1 T7)
instance:CI LZ "is_rising" 1 1:=⟨λT=>
 Callee.self (pX 0 ["things"] 1 T.w4 λhr=>
  (have x0:Nx ["one", "other"]:=⟨⟩;(pH (by delta T7;walk_at "s"))))⟩
def Ul:DS:=(oX (DP vI (oO p8 (a_ i_ f_))))
def C8:o5:=(pP 1 Ul)
instance:CI C8 "switches_of" 1 1:=⟨λT=>
 Callee.self (pX 0 ["function"] 1 T.w8 λhr=>
  ((pH (by delta Ul;walk_at "s"))))⟩
abbrev pQ:=pG 3
def Ue:DS:=(oX (pB Jh 2 (He (a_ i_ f_)) (.two 2 3) [(o8 (h_ (pj rl) pQ oZ))] [] pO))
def Ay:o5:=(pP 2 Ue)
instance:CI Ay "points_with" 1 2:=⟨λT=>
 Callee.self (pX 0 ["function", "answer"] 2 T.w9 λhr=>
  (have x0:Nx ["point", "told"]:=⟨⟩;(pH (by delta Ue;walk_at "s"))))⟩
abbrev pv:=a_ oZ f_
abbrev s9:=oX (dC (.bl Jh))
def z4W:DS:=(oM (qc (ud (qS (qk (s_ "str" oZ))) (o8 (h_ (pj qW) (oO p8 pv) i_))) s9 qe) (oX (oO uM (a_ (pB Jh 1 (pA oZ) (.one 2) [] [] (h_ uJ pO (dC (.str [45,48,49])))) f_))))
def Bx:o5:=(pP 2 z4W)
instance:CI Bx "has_term_signs" 1 2:=⟨λT=>
 Callee.self (pX 0 ["n", "thing"] 2 T.wa λhr=>
  (have x0:Nx ["sign"]:=⟨⟩;(pF '1' (pH '1'))))⟩
abbrev qR:=pG 4
def z8W:DS:=(oM (pN 1 (uK (a_ (dC (.str [])) f_))) (oM (yg (vf (a_ i_ f_)) (.one 2) (pN 1 (pB Jh 2 (pA oZ) (.one 3) [] (⟨(pA (dC (.str [45,48,49]))),(.one 4),[]⟩::[]) (h_ rS pQ qR)))) (oX oZ)))
def AA:o5:=(pP 3 z8W)
instance:CI AA "all_terms" 1 1:=⟨λT=>
 Callee.self (pX 0 ["n", "terms", "switch"] 1 T.wd λhr=>
  (have x0:Nx ["term", "sign"]:=⟨⟩;(pF '1' (pF '1' (pH '1')))))⟩
abbrev qy:=dC (.int 0)
abbrev DG:=dC (.str [45])
def zc8:DS:=(oM (qc (o8 (h_ (pj rl) i_ DG)) (oX (uK (a_ qy (a_ qw f_)))) qe) (oX (uK (a_ (oO y0 (a_ i_ f_)) f_))))
def S4:o5:=(pP 1 zc8)
instance:CI S4 "bits_of" 1 1:=⟨λT=>
 Callee.self (pX 0 ["sign"] 1 T.we λhr=>
  ((pF '1' (pH '1'))))⟩
def T5:DS:=(oX (h_ rS (h_ rS (Jp i_ xH (yo oZ)) pO) (Jp i_ (yo (h_ rS oZ qw)) xH)))
def Ih:o5:=(pP 3 T5)
instance:CI Ih "with_sign" 1 3:=⟨λT=>
 Callee.self (pX 0 ["term", "switch", "sign"] 3 T.wg λhr=>
  ((pH (by delta T5;walk_at "s"))))⟩
def T4:DS:=(oX (AS (o8 (h_ (pj rl) i_ (dC (.str [48])))) (dC (.str [49])) (dC (.str [48]))))
def T6:o5:=(pP 1 T4)
instance:CI T6 "exchanged" 1 1:=⟨λT=>
 Callee.self (pX 0 ["sign"] 1 T.wh λhr=>
  ((pH (by delta T4;walk_at "s"))))⟩
def TH:DS:=(oX (h_ (fI u9) (oO p8 (a_ i_ f_)) (NO JO i_ (a_ DG f_))))
def EN:o5:=(pP 1 TH)
instance:CI EN "signs_in" 1 1:=⟨λT=>
 Callee.self (pX 0 ["term"] 1 T.wi λhr=>
  ((pH (by delta TH;walk_at "s"))))⟩
def LU:DS:=(oX (pB Jh 1 (Gq i_) (.one 2) [(o8 (h_ uJ oZ (CG i_ pO)))] [] pO))
def Bw:o5:=(pP 2 LU)
instance:CI Bw "holders_in" 1 2:=⟨λT=>
 Callee.self (pX 0 ["held", "one"] 2 T.ws λhr=>
  (have x0:Nx ["term"]:=⟨⟩;(pH (by delta LU;walk_at "s"))))⟩
def Uu:DS:=(oX (AS (o8 (h_ DU i_ (dC .non))) (dC .non) (h_ (fI u9) qw i_)))
def ID:o5:=(pP 1 Uu)
instance:CI ID "opposite_answer" 1 1:=⟨λT=>
 Callee.self (pX 0 ["answer"] 1 T.wH λhr=>
  ((pH (by delta Uu;walk_at "s"))))⟩
abbrev vc:=pG 5
def z7G:DS:=(oM (D3 2 3 4 oZ) (oM (pN 5 (uK (a_ qy f_))) (oM (yg (Be (a_ pO (a_ pQ f_))) (.two 6 7) (oM (pN 8 (h_ (fI A3) qw (h_ (fI u9) (h_ (fI u9) i_ qw) (pG 6)))) (pN 5 (pB Jh 2 (pA vc) (.one 9) [] (⟨(pA (uc (a_ (pG 7) (a_ (h_ (fI u9) qw (pG 7)) f_)))),(.one 10),[]⟩::[]) (h_ rS (pG 9) (h_ (fI sT) (pG 8) (pG 10))))))) (oX vc))))
def zx:o5:=(pP 9 z7G)
instance:CI zx "old_points" 1 2:=⟨λT=>
 Callee.self (pX 0 ["n", "change", "order", "turns", "answer", "olds", "switch", "turn", "worth"] 2 T.wN λhr=>
  (have x0:Nx ["old", "bit"]:=⟨⟩;(pF '1' (pF '1' (pF '1' (pH '1'))))))⟩
def z69:DS:=(oM (qc (o8 (h_ vV oZ (oO p8 (a_ i_ f_)))) (oX (h_ pY i_ oZ)) qe) (oX qy))
def IC:o5:=(pP 2 z69)
instance:CI IC "_law_cell_at" 1 2:=⟨λT=>
 Callee.self (pX 0 ["_law_script", "_law_k"] 2 T.wR λhr=>
  ((pF '1' (pH '1'))))⟩
abbrev Gr:=dC (.int 2147483647)
def z9g:DS:=(oM (qc (qk (h_ pY i_ qw)) (oM (pN 2 (h_ (fI sU) (h_ pY i_ qy) oZ)) (oM (yT (h_ (fI v_) (h_ pY i_ qy) oZ) i_ qy) (oX pO))) qe) (oM (yT (h_ (fI sU) (h_ rS (h_ (fI sT) (h_ pY i_ qy) (dC (.int 48271))) (dC (.int 29))) Gr) i_ qy) (oM (pN 3 (h_ (fI sU) (h_ rS (h_ rS (h_ (fI sT) (h_ pY i_ qy) (h_ pY i_ qy)) (h_ (fI sT) (dC (.int 39373)) (h_ pY i_ qy))) (dC (.int 7))) (dC (.int 2147483629)))) (oM (pN 3 (h_ (fI sU) (h_ rS (h_ (fI sT) pQ pQ) (h_ (fI sT) (dC (.int 16807)) pQ)) (dC (.int 2147483587)))) (oX (h_ (fI sU) (h_ (fI v_) pQ (dC (.int 8))) oZ))))))
def sh:o5:=(pP 4 z9g)
instance:CI sh "_law_take" 1 2:=⟨λT=>
 Callee.self (pX 0 ["_law_state_here", "_law_many", "_law_found", "_law_stirred"] 2 T.wT λhr=>
  ((pF '1' (pF '1' (pF '1' (pF '1' (pH '1')))))))⟩
def Ut:DS:=(oX (xD (k_ 1 C7 (a_ i_ f_)) (CP yL yL oZ i_ pO)))
def C9:o5:=(pP 3 Ut)
instance:CI C9 "is_whole_within" 2 3:=⟨λT=>
 Callee.self (pX 1 ["thing", "least", "most"] 3 T.w1 λhr=>
  ((pH (by delta Ut;walk_at "s"))))⟩
def Il:DS:=(qc (qS (qk (k_ 2 Bx (a_ i_ pv)))) Ac qe)
def L3:o5:=(pP 2 Il)
instance:CI L3 "need_term" 2 2:=⟨λT=>
 Callee.self (pX 1 ["n", "thing"] 2 T.wb λhr=>
  ((pH (by delta Il;walk_at "s"))))⟩
abbrev qY:=a_ pO f_
def Ur:DS:=(oM (qc (qS (qk (s_ "tuple" oZ))) s9 qe) (oX (xD (oO uM (a_ (pB Jh 1 (pA oZ) (.one 2) [] [] (k_ 2 Bx (a_ i_ qY))) f_)) (k_ 1 LZ pv))))
def IE:o5:=(pP 2 Ur)
instance:CI IE "has_rising_terms" 2 2:=⟨λT=>
 Callee.self (pX 1 ["n", "thing"] 2 T.wc λhr=>
  (have x0:Nx ["term"]:=⟨⟩;(pF '1' (pH '1'))))⟩
abbrev vA:=dC (.int 2)
def z9t:DS:=(oM (pN 1 (uK (a_ qy f_))) (oM (yg (pA i_) (.one 2) (pN 1 (pB Jh 2 (pA oZ) (.one 3) [] (⟨(pA (k_ 1 S4 qY)),(.one 4),[]⟩::[]) (h_ rS (h_ (fI sT) vA pQ) qR)))) (oX oZ)))
def xK:o5:=(pP 3 z9t)
instance:CI xK "points_of" 2 1:=⟨λT=>
 Callee.self (pX 1 ["term", "points", "sign"] 1 T.wf λhr=>
  (have x0:Nx ["point", "bit"]:=⟨⟩;(pF '1' (pF '1' (pH '1')))))⟩
def LM:DS:=(oX (oO GH (a_ (pB Jh 1 (pA i_) (.one 1) [] [] (k_ 1 EN pv)) f_)))
def xM:o5:=(pP 1 LM)
instance:CI xM "signs_of" 2 1:=⟨λT=>
 Callee.self (pX 1 ["form"] 1 T.wr λhr=>
  (have x0:Nx ["term"]:=⟨⟩;(pH (by delta LM;walk_at "s"))))⟩
abbrev A0:DE:=oO p8 (a_ (k_ 2 Bw (a_ i_ (a_ (pG 9) f_))) f_)
abbrev Bb:DE:=pB Jh 1 (pA oZ) (.one 9) [(o8 (h_ vt (pG 9) (CG i_ (pG 6))))] [] (pG 9)
abbrev vB:=a_ (pG 6) f_
abbrev Aa(Pt:Nat)(F:o5):DE:=Cv qR (a_ (pB Jh 1 (pA (qZ Pt 8 3 F (a_ vc (a_ (pG 7) (a_ (h_ (fI u9) pO qw) f_))))) (.one 9) [] [] (h_ rS (uc vB) (pG 9))) f_)
def zt(Pt:Nat)(F:o5):DS:=(oM (qc (qS (qk oZ)) (oX (uK (a_ (uc f_) f_))) qe) (oM (qc (o8 (h_ (pj rl) pO qy)) (oX (uK f_)) qe) (oM (pN 3 (CF Pt 8 oZ A0)) (oM (pN 4 (ym f_)) (DX 5 6 7 i_ (pA (k_ 2 Bw (a_ i_ (a_ pQ f_)))) Bb (Aa Pt F) (oX qR))))))
def vH(Pt:Nat):Nat->o5
 |0=>λ_ _=>.bad
 |k+1=>Cp (uN 9 8 Pt (zt Pt (vH Pt k)))
def SN:sW ["held", "wanted", "many", "hardest", "found", "rest", "term", "left", "<tab>"] ["held", "wanted", "many"] (qr (top 44)):=by walk_at "z"
theorem TY{c Pt:ab}(T:Txt K mg)(hT:vp K mg "covers" (top 44) c)(L:tT mg base c Pt):∀k,nv P w K mg base "covers" (4+k) 3 Pt (vH Pt k)
 |0=>nv.bad (F:=uN 9 8 Pt Ac) (N9 (k:=3) (i:=8) (z := "<tab>") hT SN rfl (yc 'k') '5' λf A outer s H E hr=>RM)
 | k+1=>nv.frz (N9 (k:=4+k) (i:=8) (z := "<tab>") hT SN rfl (yc 'k') '5' λf A outer s H E hr=>
  have c_self:=TY T hT L k
  (have x0:Nx ["one"]:=⟨⟩;have x1:Nx ["cover"]:=⟨⟩;(by unfold zt;walk_at "ss")))
def EA(Pt:Nat):o5:=vH Pt 20
def zde{c Pt:ab}(T:Txt K mg)(a:vp K mg "covers" (top 44) c)(L:tT mg base c Pt):nv P w K mg base "covers" 24 3 Pt (EA Pt):=TY T a L 20
def LC:DS:=(oM (qc (ud (qS (qk (s_ "tuple" oZ))) (qS (qk (oO uM (a_ (pB Jh 1 (pA oZ) (.one 2) [] [] (k_ 1 C7 qY)) f_))))) s9 qe) (oX (h_ (pj rl) (oO CL pv) (CJ Jh (a_ i_ f_)))))
def LD:o5:=(pP 2 LC)
instance:CI LD "is_order" 2 2:=⟨λT=>
 Callee.self (pX 1 ["n", "thing"] 2 T.wJ λhr=>
  (have x0:Nx ["switch"]:=⟨⟩;(pF '1' (pH '1'))))⟩
def RZ:DS:=(oX (AS (yn (o8 (h_ (pj rl) oZ qw)) (o8 (h_ (pj qW) i_ DG))) (k_ 1 T6 (a_ i_ f_)) i_))
def Es:o5:=(pP 2 RZ)
instance:CI Es "turned" 2 2:=⟨λT=>
 Callee.self (pX 1 ["sign", "turn"] 2 T.wP λhr=>
  ((pH (by delta RZ;walk_at "s"))))⟩
abbrev AY:=h_ (fI DR) (dC (.int 10)) (dC (.int 18))
abbrev xE:=dC (.bl Jg)
def z8C:DS:=(oM (pN 2 (k_ 2 IC (a_ i_ pv))) (oM (qc (o8 (h_ Ce pO AY)) (oX (ym (a_ (h_ (fI u9) pO AY) (a_ xE f_)))) qe) (oX (ym (a_ (h_ (fI sU) pO Gr) (a_ (dC (.bl Jh)) f_))))))
def L5:o5:=(pP 3 z8C)
instance:CI L5 "_law_state" 2 2:=⟨λT=>
 Callee.self (pX 1 ["_law_script", "_law_k", "_law_cell"] 2 T.wS λhr=>
  ((pF '1' (pF '1' (pH '1')))))⟩
abbrev A4:=a_ (pG 7) f_
abbrev GI:=a_ (dC (.int 3)) f_
def L_:DS:=(oM (pN 3 (h_ pY (uK (a_ vA (a_ (dC (.int 4)) (a_ (dC (.int 6)) f_)))) (k_ 2 sh (a_ i_ GI)))) (oM (pN 4 (h_ (fI sT) (k_ 2 sh (a_ i_ GI)) (oO y0 qY))) (oM (pN 5 (ym f_)) (oM (yg (vf (a_ (h_ (fI A3) qw oZ) f_)) (.one 6) (oM (pN 7 (oO y0 (a_ (h_ vV (k_ 2 sh (a_ i_ (a_ (dC (.int 8)) f_))) pQ) f_))) (oM (qc (o8 (h_ vV (k_ 2 sh (a_ i_ (a_ (dC (.int 5)) f_))) qR)) (pN 7 (dC .non)) qe) (rg (yW vc A4))))) (oX (oO ui (a_ vc f_)))))))
def Me:o5:=Cp (pP 8 L_)
instance:CI Me "_law_function" 2 3:=⟨λT=>
 Callee.frz (pX 1 ["_law_state_here", "_law_n", "_law_free", "_law_often", "_law_rest", "_law_found", "_law_point", "_law_answer"] 3 T.wU λhr=>
  ((pF '1' (pF '1' (pF '1' (pF '1' (pH '1')))))))⟩
abbrev yS:DS:=rg (yW pQ (a_ (CN pO (a_ (k_ 2 sh (a_ i_ (a_ (oO p8 qY) f_))) f_)) f_))
abbrev JN:DS:=rg (yW pQ (a_ (CN pO (a_ (k_ 2 sh (a_ i_ (a_ (oO p8 qY) f_))) f_)) f_))
abbrev zc:DT:=o8 (h_ (pj qW) pO (uK f_))
def Ib:DS:=(oM (pN 2 (CJ Jg pv)) (oM (pN 3 (ym f_)) (oM (G8 5 zc JN) (oX (oO ui (a_ pQ f_))))))
def Ic:o5:=Cp (pP 4 Ib)
instance:CI Ic "_law_order" 2 2:=⟨λT=>
 Callee.frz (pX 1 ["_law_state_here", "_law_n", "_law_left", "_law_found"] 2 T.wV λhr=>
  ((pF '1' (pF '1' (pF '1' (pH '1'))))))⟩
def Uv:DS:=(qc (qS (qk (k_ 3 C9 (a_ i_ (a_ oZ qY))))) Ac qe)
def Uw:o5:=(pP 3 Uv)
instance:CI Uw "need_whole_within" 3 3:=⟨λT=>
 Callee.self (pX 2 ["thing", "least", "most"] 3 T.w2 λhr=>
  ((pH (by delta Uv;walk_at "s"))))⟩
def Uc:DS:=(oX (NP (h_ DU i_ (dC .non)) (k_ 3 C9 (a_ i_ (a_ qy (a_ qw f_))))))
def Ig:o5:=(pP 1 Uc)
instance:CI Ig "is_answer" 3 1:=⟨λT=>
 Callee.self (pX 2 ["thing"] 1 T.w5 λhr=>
  ((pH (by delta Uc;walk_at "s"))))⟩
def Ma:DS:=(oX (pB Jh 1 (pA i_) (.one 2) [(o8 (h_ uJ oZ (k_ 1 xK qY)))] [] pO))
def Md:o5:=(pP 2 Ma)
instance:CI Md "terms_holding" 3 2:=⟨λT=>
 Callee.self (pX 2 ["terms", "point"] 2 T.wj λhr=>
  (have x0:Nx ["term"]:=⟨⟩;(pH (by delta Ma;walk_at "s"))))⟩
def Us:DS:=(oX (oO uM (a_ (pB Jh 1 (pA (k_ 1 xK pv)) (.one 2) [] [] (h_ (pj qW) (h_ pY i_ pO) qy)) f_)))
def zw:o5:=(pP 2 Us)
instance:CI zw "holds_no_nought" 3 2:=⟨λT=>
 Callee.self (pX 2 ["function", "term"] 2 T.wk λhr=>
  (have x0:Nx ["point"]:=⟨⟩;(pH (by delta Us;walk_at "s"))))⟩
def Uk:DS:=(oX (oO Cs (a_ (pB Jh 1 (pA (k_ 1 xK pv)) (.one 2) [] [] (h_ (pj rl) (h_ pY i_ pO) qw)) f_)))
def Iu:o5:=(pP 2 Uk)
instance:CI Iu "holds_a_one" 3 2:=⟨λT=>
 Callee.self (pX 2 ["function", "term"] 2 T.wl λhr=>
  (have x0:Nx ["point"]:=⟨⟩;(pH (by delta Uk;walk_at "s"))))⟩
abbrev cW:DT:=qS (qk pQ)
abbrev bW(Pt:Nat):DS:=oM (Gx 2 qw) (pN 3 (qZ Pt 5 3 (EA Pt) (a_ i_ (a_ oZ qY))))
def Uo(Pt:Nat):DS:=(oM (pN 2 qy) (oM (pN 3 (qZ Pt 5 3 (EA Pt) (a_ i_ (a_ oZ qY)))) (oM (G8 20 cW (bW Pt)) (oM (pN 4 (oO D0 (a_ (pB Jh 1 (pA pQ) (.one 6) [] [] (k_ 1 xM vB)) f_))) (oX (oO D1 (a_ (pB Jh 1 (pA pQ) (.one 6) [(o8 (h_ (pj rl) (k_ 1 xM vB) qR))] [] (oO ui (a_ (oO yh vB) f_))) f_)))))))
def EX(Pt:Nat):o5:=(uN 6 5 Pt (Uo Pt))
def z5p:sW ["held", "wanted", "many", "found", "fewest", "<tab>"] ["held", "wanted"] (qr (top 45)):=by walk_at "z"
def z64{c Pt:ab}(T:Txt K mg)(hT:vp K mg "covers" (top 44) c)(L:tT mg base c Pt):nv P w K mg base "least_covers" 25 2 Pt (EX Pt):=
 nv.self (Cd (k:=24) (i:=5) (z := "<tab>") T.wu z5p rfl (yc 'k') '5' λf ph A outer s H E hr=>
  (have x0:Nx ["cover"]:=⟨⟩;(pF '1' (pF '1' (pF '1' (pF '1' (pH '1')))))))
def Tf:DS:=(oM (pN 2 (k_ 1 xK (a_ i_ f_))) (oX (pB Jh 2 (pA oZ) (.two 3 4) [(yn (o8 (h_ uJ pQ pO)) (o8 (h_ uJ qR pO)))] [] (uc (a_ pQ (a_ qR f_))))))
def Bq:o5:=(pP 3 Tf)
instance:CI Bq "kept_by" 3 2:=⟨λT=>
 Callee.self (pX 2 ["term", "pairs", "points"] 2 T.wA λhr=>
  (have x0:Nx ["point", "other"]:=⟨⟩;(pF '1' (pH '1'))))⟩
def LH:DS:=(oM (qc (ud (qS (qk (s_ "tuple" oZ))) (o8 (h_ (pj qW) (oO p8 pv) i_))) s9 qe) (oX (oO uM (a_ (pB Jh 1 (pA oZ) (.one 2) [] [] (k_ 3 C9 (a_ pO (a_ qy (a_ qw f_))))) f_))))
def LR:o5:=(pP 2 LH)
instance:CI LR "is_turns" 3 2:=⟨λT=>
 Callee.self (pX 2 ["n", "thing"] 2 T.wK λhr=>
  (have x0:Nx ["turn"]:=⟨⟩;(pF '1' (pH '1'))))⟩
def ES:DS:=(oX (uc (a_ (k_ 2 Ic (a_ i_ pv)) (a_ (oO ui (a_ (pB Jh 1 (vf pv) (.one 2) [] [] (k_ 2 sh (a_ i_ (a_ vA f_)))) f_)) (a_ (k_ 2 sh (a_ i_ (a_ vA f_))) f_)))))
def Mb:o5:=Cp (pP 2 ES)
instance:CI Mb "_law_change" 3 2:=⟨λT=>
 Callee.frz (pX 2 ["_law_state_here", "_law_n"] 2 T.wW λhr=>
  (have x0:Nx ["_law_k"]:=⟨⟩;(pH (by delta ES;walk_at "s"))))⟩
def Uq:DS:=(rg (k_ 3 Uw (a_ i_ (a_ qw (a_ (dC (.int 4)) f_)))))
def L9:o5:=(pP 1 Uq)
instance:CI L9 "need_switches" 4 1:=⟨λT=>
 Callee.self (pX 3 ["n"] 1 T.w3 λhr=>
  ((pH (by delta Uq;walk_at "s"))))⟩
def z7n:DS:=(oM (qc (ud (qS (qk (s_ "tuple" i_))) (o8 (zo Jg vI (oO p8 (a_ i_ f_))))) s9 qe) (oX (oO uM (a_ (pB Jh 1 (pA i_) (.one 1) [] [] (k_ 1 Ig pv)) f_))))
def IA:o5:=(pP 1 z7n)
instance:CI IA "is_function" 4 1:=⟨λT=>
 Callee.self (pX 3 ["thing"] 1 T.w6 λhr=>
  (have x0:Nx ["answer"]:=⟨⟩;(pF '1' (pH '1'))))⟩
def Ip:DS:=(oX (xD (h_ (pj qW) (h_ pY oZ pO) DG) (k_ 2 zw (a_ i_ (a_ (k_ 3 Ih (a_ oZ (a_ pO (a_ DG f_)))) f_)))))
def Iq:o5:=(pP 3 Ip)
instance:CI Iq "can_widen_at" 4 3:=⟨λT=>
 Callee.self (pX 3 ["function", "term", "switch"] 3 T.wn λhr=>
  ((pH (by delta Ip;walk_at "s"))))⟩
def Mj:DS:=(oM (qc (ud (qS (qk (s_ "tuple" oZ))) (o8 (h_ (pj qW) (oO p8 pv) (dC (.int 3))))) s9 qe) (oM (D3 2 3 4 oZ) (oX (xD (k_ 2 LD (a_ i_ qY)) (xD (k_ 2 LR (a_ i_ (a_ pQ f_))) (k_ 3 C9 (a_ qR (a_ qy (a_ qw f_)))))))))
def Mi:o5:=(pP 5 Mj)
instance:CI Mi "has_change_parts" 4 2:=⟨λT=>
 Callee.self (pX 3 ["n", "thing", "order", "turns", "answer"] 2 T.wL λhr=>
  ((pF '1' (pF '1' (pH '1')))))⟩
def Uj:DS:=(qc (qS (qk (k_ 1 IA (a_ i_ f_)))) Ac qe)
def yA:o5:=(pP 1 Uj)
instance:CI yA "need_function" 5 1:=⟨λT=>
 Callee.self (pX 4 ["thing"] 1 T.w7 λhr=>
  ((pH (by delta Uj;walk_at "s"))))⟩
def Ii:DS:=(oX (DJ (oO Cs (a_ (pB Jh 1 (vf (a_ (oO p8 pv) f_)) (.one 2) [] [] (k_ 3 Iq (a_ i_ (a_ oZ qY)))) f_))))
def Io:o5:=(pP 2 Ii)
instance:CI Io "is_widest" 5 2:=⟨λT=>
 Callee.self (pX 4 ["function", "term"] 2 T.wo λhr=>
  (have x0:Nx ["switch"]:=⟨⟩;(pH (by delta Ii;walk_at "s"))))⟩
def Ir:DS:=(qc (qS (qk (k_ 2 Mi (a_ i_ pv)))) Ac qe)
def ET:o5:=(pP 2 Ir)
instance:CI ET "need_change" 5 2:=⟨λT=>
 Callee.self (pX 4 ["n", "thing"] 2 T.wM λhr=>
  ((pH (by delta Ir;walk_at "s"))))⟩
def z89:DS:=(oM (rg (k_ 1 yA (a_ i_ f_))) (oX (pB Jh 1 (pA (k_ 1 AA (a_ (k_ 1 C8 (a_ i_ f_)) f_))) (.one 1) [(qk (k_ 2 zw (a_ i_ pv)))] [] oZ)))
def HZ:o5:=(pP 1 z89)
instance:CI HZ "good_terms" 6 1:=⟨λT=>
 Callee.self (pX 5 ["function"] 1 T.wm λhr=>
  (have x0:Nx ["term"]:=⟨⟩;(pF '1' (pH '1'))))⟩
def Lu:DS:=(oM (rg (k_ 1 yA (a_ i_ f_))) (oM (qc (qS (qk (k_ 2 IE (a_ (k_ 1 C8 (a_ i_ f_)) pv)))) s9 qe) (oM (qc (qS (qk (oO uM (a_ (pB Jh 1 (pA oZ) (.one 2) [] [] (k_ 2 zw (a_ i_ qY))) f_)))) s9 qe) (oX (oO uM (a_ (pB Jh 1 (pA (k_ 2 Ay (a_ i_ (a_ qw f_)))) (.one 2) [] [] (h_ (pj qW) (k_ 2 Md (a_ oZ qY)) (uK f_))) f_))))))
def EH:o5:=(pP 2 Lu)
instance:CI EH "is_form" 6 2:=⟨λT=>
 Callee.self (pX 5 ["function", "thing"] 2 T.wq λhr=>
  (have x0:Nx ["term"]:=⟨⟩;have x1:Nx ["point"]:=⟨⟩;(pF '1' (pF '1' (pF '1' (pH '1'))))))⟩
abbrev tP:DT:=yn (o8 (h_ vV pO pQ)) (o8 (h_ uJ (h_ (fI JK) pO pQ) (dC (.tup (oo.map .int)))))
def QH:DS:=(oM (rg (k_ 1 yA (a_ i_ f_))) (oM (pN 1 (k_ 2 Ay (a_ i_ (a_ qw f_)))) (oX (pB Jh 2 (pA oZ) (.one 2) [] (⟨(pA oZ),(.one 3),[tP]⟩::[]) (uc (a_ pO (a_ pQ f_)))))))
def Bp:o5:=(pP 2 QH)
instance:CI Bp "steps" 6 1:=⟨λT=>
 Callee.self (pX 5 ["function", "points"] 1 T.wz λhr=>
  (have x0:Nx ["point", "other"]:=⟨⟩;(pF '1' (pF '1' (pH '1')))))⟩
def LG:DS:=(oM (rg (k_ 1 yA (a_ i_ f_))) (oX (oO ui (a_ (pB Jh 1 (pA i_) (.one 1) [] [] (k_ 1 ID pv)) f_))))
def C6:o5:=(pP 1 LG)
instance:CI C6 "opposite" 6 1:=⟨λT=>
 Callee.self (pX 5 ["function"] 1 T.wI λhr=>
  (have x0:Nx ["answer"]:=⟨⟩;(pF '1' (pH '1'))))⟩
def L8:DS:=(oM (rg (k_ 1 L9 (a_ i_ f_))) (oM (rg (k_ 2 L3 (a_ i_ pv))) (oM (rg (k_ 2 ET (a_ i_ qY))) (oM (D3 3 4 5 pO) (oX (GU (dC (.str [])) (a_ (pB Jh 2 (Be (a_ pQ (a_ qR f_))) (.two 6 7) [] [] (k_ 2 Es (a_ (h_ pY oZ (pG 6)) A4))) f_)))))))
def EY:o5:=(pP 6 L8)
instance:CI EY "changed_term" 6 3:=⟨λT=>
 Callee.self (pX 5 ["n", "term", "change", "order", "turns", "answer"] 3 T.wQ λhr=>
  (have x0:Nx ["switch", "turn"]:=⟨⟩;(pF '1' (pF '1' (pF '1' (pF '1' (pH '1')))))))⟩
def HQ:DS:=(oX (pB Jh 1 (pA (k_ 1 HZ (a_ i_ f_))) (.one 1) [(yn (qk (k_ 2 Iu (a_ i_ pv))) (qk (k_ 2 Io (a_ i_ pv))))] [] oZ))
def Av:o5:=(pP 1 HQ)
instance:CI Av "greatest" 7 1:=⟨λT=>
 Callee.self (pX 6 ["function"] 1 T.wp λhr=>
  (have x0:Nx ["term"]:=⟨⟩;(pH (by delta HQ;walk_at "s"))))⟩
def C5:DS:=(qc (qS (qk (k_ 2 EH (a_ i_ pv)))) Ac qe)
def ER:o5:=(pP 2 C5)
instance:CI ER "need_form" 7 2:=⟨λT=>
 Callee.self (pX 6 ["function", "thing"] 2 T.wy λhr=>
  ((pH (by delta C5;walk_at "s"))))⟩
def LV:DS:=(oM (pN 2 (k_ 1 Bp (a_ i_ f_))) (oM (pN 3 (pB Jh 2 (pA oZ) (.one 4) [] (⟨(pA (k_ 2 Bq (a_ qR qY))),(.one 5),[]⟩::[]) vc)) (oX (pB Jh 1 (pA pO) (.one 4) [(o8 (h_ vt qR pQ))] [] qR))))
def EU:o5:=(pP 4 LV)
instance:CI EU "open_steps" 7 2:=⟨λT=>
 Callee.self (pX 6 ["function", "form", "wanted", "kept"] 2 T.wB λhr=>
  (have x0:Nx ["term", "step"]:=⟨⟩;have x1:Nx ["step"]:=⟨⟩;(pF '1' (pF '1' (pH '1')))))⟩
def Lj:DS:=(oM (rg (k_ 1 yA (a_ i_ f_))) (oM (pN 2 (k_ 1 C8 (a_ i_ f_))) (oM (rg (k_ 2 ET (a_ pO pv))) (oM (pN 3 (oO ui (a_ (pB Jh 1 (pA (k_ 2 zx (a_ pO pv))) (.one 4) [] [] (h_ pY i_ qR)) f_))) (oX (AS (o8 (h_ (pj rl) (h_ pY oZ vA) qw)) (k_ 1 C6 (a_ pQ f_)) pQ))))))
def Ll:o5:=(pP 4 Lj)
instance:CI Ll "changed" 7 2:=⟨λT=>
 Callee.self (pX 6 ["function", "change", "n", "told"] 2 T.wO λhr=>
  (have x0:Nx ["old"]:=⟨⟩;(pF '1' (pF '1' (pF '1' (pF '1' (pH '1')))))))⟩
def Iz:DS:=(oX (xl 1 (pA (k_ 1 Av (a_ i_ f_))) (.one 1) [] [] oZ (k_ 1 xK pv)))
def Mc:o5:=(pP 1 Iz)
instance:CI Mc "held_points" 8 1:=⟨λT=>
 Callee.self (pX 7 ["function"] 1 T.wv λhr=>
  (have x0:Nx ["term"]:=⟨⟩;(pH (by delta Iz;walk_at "s"))))⟩
def Ki:DS:=(oM (rg (k_ 2 ER (a_ i_ pv))) (oX (k_ 2 EU (a_ i_ pv))))
def D7:o5:=(pP 2 Ki)
instance:CI D7 "gaps" 8 2:=⟨λT=>
 Callee.self (pX 7 ["function", "form"] 2 T.wC λhr=>
  ((pF '1' (pH '1'))))⟩
def Ij:DS:=(oX (xD (k_ 2 EH (a_ i_ pv)) (h_ (pj rl) (k_ 2 EU (a_ i_ pv)) (uK f_))))
def Ax:o5:=(pP 2 Ij)
instance:CI Ax "is_smooth" 8 2:=⟨λT=>
 Callee.self (pX 7 ["function", "thing"] 2 T.wD λhr=>
  ((pH (by delta Ij;walk_at "s"))))⟩
def Ui(Pt:Nat):DS:=(oM (pN 2 (xl 1 (pA (k_ 1 Av (a_ i_ f_))) (.one 4) [] [] qR (k_ 2 Bq (a_ qR pv)))) (oX (h_ pY (qZ Pt 3 2 (EX Pt) (a_ pO pv)) qy)))
def EZ(Pt:Nat):o5:=(uN 4 3 Pt (Ui Pt))
def z4P:sW ["function", "pairs", "held", "<tab>"] ["function", "pairs"] (qr (top 57)):=by walk_at "z"
def z4S{c Pt:ab}(T:Txt K mg)(hT:vp K mg "covers" (top 44) c)(L:tT mg base c Pt):nv P w K mg base "least_keepers" 26 2 Pt (EZ Pt):=
 nv.self (Cd (k:=25) (i:=3) (z := "<tab>") T.wE z4P rfl (yc 'k') '5' λf ph A outer s H E hr=>
  (have x0:Nx ["term"]:=⟨⟩;(pF '1' (pH '1'))))
def Iw(Pt:Nat):DS:=(oX (qZ Pt 1 2 (EX Pt) (a_ (k_ 1 Mc (a_ i_ f_)) (a_ (k_ 2 Ay (a_ i_ (a_ qw f_))) f_))))
def Iy(Pt:Nat):o5:=(uN 2 1 Pt (Iw Pt))
def z6f:sW ["function", "<tab>"] ["function"] (qr (top 47)):=by walk_at "z"
def z6l{c Pt:ab}(T:Txt K mg)(hT:vp K mg "covers" (top 44) c)(L:tT mg base c Pt):nv P w K mg base "least_forms" 26 1 Pt (Iy Pt):=
 nv.self (Cd (k:=25) (i:=1) (z := "<tab>") T.ww z6f rfl (yc 'k') '5' λf ph A outer s H E hr=>
  ((pH (by delta Iw;walk_at "s"))))
def L7(Pt:Nat):DS:=(oM (rg (k_ 1 yA (a_ i_ f_))) (oM (pN 1 (pB Jh 1 (pA (k_ 2 Ay (a_ i_ (a_ qw f_)))) (.one 3) [] [] (uc (a_ pQ (a_ pQ f_))))) (oX (qZ Pt 2 2 (EZ Pt) (a_ i_ (a_ (h_ rS oZ (k_ 1 Bp (a_ i_ f_))) f_))))))
def C_(Pt:Nat):o5:=(uN 3 2 Pt (L7 Pt))
def z5N:sW ["function", "own_pairs", "<tab>"] ["function"] (qr (top 58)):=by walk_at "z"
def z5v{c Pt:ab}(T:Txt K mg)(hT:vp K mg "covers" (top 44) c)(L:tT mg base c Pt):nv P w K mg base "least_smooth" 27 1 Pt (C_ Pt):=
 nv.self (Cd (k:=26) (i:=2) (z := "<tab>") T.wF z5N rfl (yc 'k') '5' λf ph A outer s H E hr=>
  (have x0:Nx ["point"]:=⟨⟩;(pF '1' (pF '1' (pH '1')))))
def Su(Pt:Nat):DS:=(oM (rg (k_ 2 ER (a_ i_ pv))) (oX (qZ Pt 2 2 (EZ Pt) (a_ i_ (a_ (k_ 2 EU (a_ i_ pv)) f_)))))
def Hy(Pt:Nat):o5:=(uN 3 2 Pt (Su Pt))
def zdw:sW ["function", "form", "<tab>"] ["function", "form"] (qr (top 59)):=by walk_at "z"
def zbV{c Pt:ab}(T:Txt K mg)(hT:vp K mg "covers" (top 44) c)(L:tT mg base c Pt):nv P w K mg base "mended" 27 2 Pt (Hy Pt):=
 nv.self (Cd (k:=26) (i:=2) (z := "<tab>") T.wG zdw rfl (yc 'k') '5' λf ph A outer s H E hr=>
  ((pF '1' (pH '1'))))
def H_(Pt:Nat):DS:=(oX (h_ pY (qZ Pt 1 1 (Iy Pt) (a_ i_ f_)) qy))
def H9(Pt:Nat):o5:=(uN 2 1 Pt (H_ Pt))
def z7y:sW ["function", "<tab>"] ["function"] (qr (top 48)):=by walk_at "z"
def z6V{c Pt:ab}(T:Txt K mg)(hT:vp K mg "covers" (top 44) c)(L:tT mg base c Pt):nv P w K mg base "least_form" 27 1 Pt (H9 Pt):=
 nv.self (Cd (k:=26) (i:=1) (z := "<tab>") T.wx z7y rfl (yc 'k') '5' λf ph A outer s H E hr=>
  ((pH (by delta H_;walk_at "s"))))
def L4(Pt:Nat):DS:=(oM (DM 1 2 (a_ (qZ Pt 5 1 (H9 Pt) (a_ i_ f_)) (a_ (qZ Pt 5 1 (C_ Pt) (a_ i_ f_)) f_))) (oM (qc (ud (o8 (h_ zl (k_ 2 Ax (a_ i_ (a_ (oO ui (a_ (k_ 1 Av (a_ i_ f_)) f_)) f_))) xE)) (o8 (h_ zl (k_ 2 Ax (a_ i_ qY)) xE))) s9 qe) (oM (qc (ud (o8 (h_ yQ (oO p8 qY) (oO p8 pv))) (o8 (h_ (pj qW) (k_ 2 Ax (a_ i_ pv)) (h_ (pj rl) (k_ 2 D7 (a_ i_ pv)) (uK f_))))) s9 qe) (oM (qc (yn (qk (k_ 2 Ax (a_ i_ pv))) (o8 (h_ (pj qW) (oO p8 qY) (oO p8 pv)))) s9 qe) (oM (pN 3 (qZ Pt 5 2 (Hy Pt) (a_ i_ pv))) (oM (pN 4 (oO ui (a_ (oO yh (a_ (h_ vC oZ pQ) f_)) f_))) (oM (qc (ud (o8 (h_ zl (k_ 2 Ax (a_ i_ (a_ qR f_))) xE)) (o8 (h_ yQ (oO p8 (a_ qR f_)) (oO p8 qY)))) s9 qe) (oX (h_ (pj rl) (pB Jh 1 (pA (k_ 2 D7 (a_ i_ pv))) (.one 6) [(o8 (h_ vt (pG 6) (k_ 1 Bp (a_ i_ f_))))] [] (pG 6)) (uK f_))))))))))
def Ia(Pt:Nat):o5:=(uN 6 5 Pt (L4 Pt))
def z6Y:sW ["_law_function_here", "_law_form", "_law_found", "_law_more", "_law_whole", "<tab>"] ["_law_function_here"] (qr (top 79)):=by walk_at "z"
def z7k{c Pt:ab}(T:Txt K mg)(hT:vp K mg "covers" (top 44) c)(L:tT mg base c Pt):nv P w K mg base "_law_right" 28 1 Pt (Ia Pt):=
 nv.self (Cd (k:=27) (i:=5) (z := "<tab>") T.wX z6Y rfl (yc 'k') '5' λf ph A outer s H E hr=>
  (have x0:Nx ["_law_step"]:=⟨⟩;(pF '1' (pF '1' (pF '1' (pF '1' (pF '1' (pF '1' (pF '1' (pH '1'))))))))))
abbrev D4(Pt:Nat):DS:=oM (pN 2 (k_ 2 L5 (a_ i_ pv))) (oM (pN 3 (h_ vC qw (k_ 2 sh (a_ pO (a_ (dC (.int 4)) f_))))) (oM (Gs (.two 4 5) (uc (a_ (k_ 3 Me (a_ pO (a_ pQ (a_ xE f_)))) (a_ (h_ vC (yU (k_ 2 Mb (a_ pO (a_ pQ f_))) xH (yo vA)) (uc (a_ qy f_))) f_)))) (oM (qc (qS (qk (qZ Pt 10 1 (Ia Pt) (a_ qR f_)))) s9 qe) (oM (DM 6 7 (a_ (k_ 2 Ll (a_ qR (a_ vc f_))) (a_ (qZ Pt 10 1 (C_ Pt) (a_ qR f_)) f_))) (oM (pN 8 (oO ui (a_ (oO CH (a_ (pB Jh 1 (pA (pG 7)) (.one 11) [] [] (k_ 3 EY (a_ pQ (a_ (pG 11) (a_ vc f_))))) f_)) f_))) (oM (qc (o8 (h_ zl (k_ 2 Ax (a_ (pG 6) (a_ (pG 8) f_))) xE)) s9 qe) (oM (pN 9 (qZ Pt 10 1 (C_ Pt) vB)) (qc (o8 (h_ (pj qW) (uc (a_ (oO p8 (a_ (pG 9) f_)) (a_ (k_ 1 xM (a_ (pG 9) f_)) f_))) (uc (a_ (oO p8 A4) (a_ (k_ 1 xM A4) f_))))) s9 qe))))))))
def WD(Pt:Nat):DS:=(oM (yg (vf (a_ (oO Bi (a_ qw (a_ (oO A_ (a_ (oO p8 (a_ i_ f_)) GI)) f_))) f_)) (.one 1) (D4 Pt)) (oX xE))
def F_law(Pt:Nat):o5:=uN 11 10 Pt (WD Pt)
def Xp:sW ["_law_script", "_law_k", "_law_state_here", "_law_n", "_law_function_here", "_law_change_here", "_law_other", "_law_found", "_law_terms", "_law_due", "<tab>"] ["_law_script"] (qr (top 80)):=by walk_at "z"
def Xa{f c Pt:ab}{fd:d0}(hF:L2.Fun K "law" "law" (top 80) f fd)(T:Txt K mg)(hT:vp K mg "covers" (top 44) c)(L:tT mg base c Pt):nK P w K mg base xA 29 f fd ["_law_script"] (yV K zW 1 Pt (F_law Pt)):=
 VY (k:=28) (i:=10) (z := "<tab>") hF Xp rfl (yc 'k') λph A outer s H E hr=>
  (have x0:Nx ["_law_term"]:=⟨⟩;(pF '1' (pH '1')))
def YG{f c Pt:ab}{a:d0}(b:L2.Fun K "law" "law" (top 80) f a)(d:vp K mg "covers" (top 44) c)(T:Txt K mg)(L:tT mg base c Pt):nK P w K mg base xA 29 f a ["_law_script"] (yV K zW 1 Pt (F_law Pt)):=
 Xa b T d L
end
def fa_mk{K:ah}{h:aV}{c:az->Option ae}(X:K.In h)(G:h.Ns bB c){n:az}{b:dW}{f:ab}{e g:Option ab}{i:Array (Option ae)}{j m o p r d:ae}(a:fv K bB n=Jd (Jd (.ref f)))
  (l:K.lookup f=Jd ⟨j,e,.func (bV n n (xo b) (tY b) (qr b) .none m o p g d r),i⟩) (q:eB K d n=Jg) (k:cJ K (.ref f)=Jg):pD K c n b:=⟨f,_,fE X G a,J7 l q k⟩
def gs_mk{K:ah}{h:aV}{a:az->Option ae}(X:K.In h)(G:h.Ns bB a){n:az}{cs:g_}{t:Tok}(s:fv K bB n=Jd (Jd (.str ⟨cs.toArray⟩ t))):JL a n cs:=⟨_,fE X G s⟩
def gu_mk{K:ah}{h:aV}{a:az->Option ae}(X:K.In h)(G:h.Ns bB a){n:az}{b:List Int}{e:ab}{o:Obj}(d:fv K bB n=Jd (Jd (.ref e)))(u:K.lookup e=Jd o)(v:Jz o b=Jg):JG K a n b:=⟨_,_,fE X G d,u,v⟩
def gi_mk{K:ah}{h:aV}{a:az->Option ae}(X:K.In h)(G:h.Ns bB a){n:az}{i:Int}{t:Tok}(s:fv K bB n=Jd (Jd (.int i t))):JD a n i:=⟨_,fE X G s⟩
def gt_mk{K:ah}{h:aV}{a:az->Option ae}(X:K.In h)(G:h.Ns bB a){n:az}{b:List (Int×Int)}{e:ab}{o:Obj}(d:fv K bB n=Jd (Jd (.ref e)))(u:K.lookup e=Jd o)(v:GB o b=Jg)(y:(e==sysModules)=Jh):A1 K a n b:=⟨_,_,fE X G d,u,v,y⟩
def all_mk{P:aQ}{w:a8}{K:ah}{h:aV}{d:az->Option ae}{C:ab}(X:K.In h)(G:h.Ns bB d)(o:d "law" = Jd (.ref C))(T:Txt K d)
  {f:ab} {O D:Option ab} {Q:Array (Option ae)} {R E F H I:ae} {p:ae} (a:fv K bB "law" = Jd (Jd (.ref f)))
  (l:K.lookup f=Jd ⟨R,O,.func (bV "law" "law" (xo (top 80)) (tY (top 80)) (qr (top 80)) .none E F H D p I),Q⟩) (q:eB K p "law" = Jg) (k:cJ K (.ref f)=Jg)
  {n:ab} {r t:Option ab} {S:Array (Option ae)} {v x y z A:ae} {g:ab} (J:fv K bB "covers" = Jd (Jd (.ref n)))
  (M:K.lookup n=Jd ⟨v,r,.func (bV "covers" "covers" (xo (top 44)) (tY (top 44)) (qr (top 44)) .none x y z t (.ref g) A),S⟩) (U:eB K (.ref g) "covers" = Jg) (V:cJ K (.ref n)=Jg)
  {Pt:ab} {i:ae} {j:Option ab} {m:Array (Option ae)} {b:Array ae} (W:K.lookup g=Jd ⟨i,j,.fields b,m⟩) (Y:b[11]?=Jd (.ref Pt)) (B:iP K=Jg)
  : iP K=Jg/\∃(c Pt:ab),jf K "covers" = Jd (c,Pt)/\∃N:d0,(∀(s:ag)(u:ae),j8 s N ⟨[u],[]⟩ [("_law_script",u)])/\∀base:aV,K.In base->base.Ns bB d->tT d base c Pt->nK P w K d base xA 29 C N ["_law_script"] (yV K zW 1 Pt (F_law Pt)):=by have Z:L2.Fun K "law" "law" (top 80) f (bV "law" "law" (xo (top 80)) (tY (top 80)) (qr (top 80)) .none E F H D p I):=J7 l q k;have e:=o.symm.trans (fE X G a);cases e;have hT:vp K d "covers" (top 44) g:=⟨n,_,fE X G J,J7 M U V,rfl⟩;exact⟨B,g,Pt,Xe J M W Y,_,λs u=>.of_eq rfl,λbase kb nb L=>YG Z hT T L⟩
end K89
-- VN 29
namespace K89
open PySem DL
noncomputable def J5:D->Bool
 |.own _=>Jh
 |.lst _=>Jh
 |.tup _=>Jh
 |.map _ _=>Jh
 |_=>Jg
def yi(n:Nat):D->Bool
 |.own k=>decide (k<n)
 |.lst _=>Jh
 |.tup ds=>ds.all J5
 |.map _ _=>Jh
 |_=>Jg
def zZ(O:Ow):Prop:=∀c∈O,∀d∈c,yi O.length d=Jg
def Om{O:Ow}{n f:Nat}{d:D}(h:J5 d=Jg):frz O n f d=Jd d:=by
 cases d with
 |own k=>cases h
 |lst ds=>cases h
 |tup ds=>cases h
 |map ks ds=>cases h
 |_=>cases f<;>rfl
def HI{O:Ow}{n f:Nat}{d:D}(h:yi n d=Jg):frz O n (f+1) d=Jd d:=by
 cases d with
 | own k=>
  have h:k<n:=by simpa [yi] using h
  unfold frz;dsimp only;rw[Ji h]
 |lst ds=>cases h
 | tup ds=>
  show(pe (frz O n f) ds).map D.tup=_;rw[zr λd a=>Om (af.mp h d a)];rfl
 |map ks ds=>cases h
 |_=>rfl
def YP:Nat->m_
 |0=>[[]]
 |n+1=>(YP n).flatMap λt=>[t++[45],t++[48],t++[49]]
noncomputable def Pe:Nat->g_
 |45=>[0,1]
 |49=>[1]
 |_=>[0]
def o4(cs:g_):g_:=cs.foldl (λps c=>ps.flatMap λp=>(Pe c).map (2*p + ·)) [0]
noncomputable def oR(l:g_):List D:=l.map λ(p:Nat)=>D.int (p:Int)
def nH:m_:=YP 1++YP 2++YP 3++YP 4
def zhU(O:Ow):(nH.map λcs=>xK [.str cs] O)=nH.map λcs=>R.ok (.lst (oR (o4 cs))) O:=by kernel_rfl
def Af:Nat->Nat->g_
 |0,_=>[]
 |n+1,p=>Af n (p/2)++[48+p%2]
def oC:List (g_×Nat):=nH.flatMap λcs=>(aM (2 ^ cs.length)).map λp=>(cs,p)
def ou:List (Nat×Nat):=[1,2,3,4].flatMap λn=>(aM (2 ^ n)).map λp=>(n,p)
def Hx{n p:Nat}(b:1<=n)(c:n<=4)(a:p<2 ^ n):(n,p)∈ou:=by
 unfold ou;rw[cf];refine⟨n,?_,av.mpr ⟨p,aU.mpr a,rfl⟩⟩;have:n=1\/n=2\/n=3\/n=4:=by lia
 rcases this with rfl|rfl|rfl|rfl<;>simp
def J9(cs bs:g_):Bool:=(aM cs.length).all λi=>cs.getD i 0==45||cs.getD i 0==bs.getD i 1
noncomputable def sgn(c:Nat):Bool:=c==45||c==48||c==49
def bit(c:Nat):Bool:=c==48||c==49
def zcs:(oC.all λq=>J9 q.1 (Af q.1.length q.2)==(o4 q.1).contains q.2&&(Af q.1.length q.2).length==q.1.length&&(Af q.1.length q.2).all bit&&q.1.all sgn)=Jg:=by decide +kernel
def zfq{cs:g_}{p:Nat}(h:cs∈nH)(a:p<2 ^ cs.length):(cs,p)∈oC:=by unfold oC;rw[cf];exact⟨cs,h,av.mpr ⟨p,aU.mpr a,rfl⟩⟩
def EW{cs:g_}(h:cs∈nH)(O:Ow):xK [.str cs] O=.ok (.lst (oR (o4 cs))) O:=cF.mp (zhU O) cs h
def z6M(O:Ow):AA [.int 1] O=.ok (.lst ((YP 1).map .str)) O:=by kernel_rfl
def z7g(O:Ow):AA [.int 2] O=.ok (.lst ((YP 2).map .str)) O:=by kernel_rfl
def z79(O:Ow):AA [.int 3] O=.ok (.lst ((YP 3).map .str)) O:=by kernel_rfl
def z7q(O:Ow):AA [.int 4] O=.ok (.lst ((YP 4).map .str)) O:=by kernel_rfl
def zos(O:Ow){c b:Nat}(a:sgn c=Jg)(d:bit b=Jg):vt O (.str [c]) (.tup [.str [45],.str [b]])=.ok (.bl (!(c==45||c==b))) O:=by unfold sgn at a;unfold bit at d;simp only[iA,beq_iff_eq] at a d;rcases a with(rfl|rfl)|rfl<;>rcases d with rfl|rfl<;>kernel_rfl
def u4(d:D):Prop:=d=.int 0\/d=.int 1\/d=.non
def tJ:D->Bool
 |.int i=>i==0
 |_=>Jh
structure Fn(n:Nat)(f:List D):Prop where
 n1:1<=n
 n4:n<=4
 len:f.length=2 ^ n
 ans:∀d∈f,u4 d
def q9(f:List D)(cs:g_):Bool:=(o4 cs).all λp=>!tJ (f.getD p .non)
def ne0(O:Ow){d:D}(h:u4 d):pj qW O d (.int 0)=.ok (.bl (!tJ d)) O:=by rcases h with rfl|rfl|rfl<;>kernel_rfl
def vw{n:Nat}(a:1<=n)(b:n<=4):n=1\/n=2\/n=3\/n=4:=by lia
def uk{n:Nat}(a:1<=n)(b:n<=4){cs:g_}(h:cs∈YP n):cs∈nH:=by unfold nH;rcases vw a b with rfl|rfl|rfl|rfl<;>simp[h]
def z6S:([1,2,3,4].all λn=>(YP n).all λcs=>cs.length==n)=Jg:=by decide +kernel
def sJ{n:Nat}(a:1<=n)(b:n<=4){cs:g_}(h:cs∈YP n):cs.length=n:=by have:=af.mp z6S n (by rcases vw a b with rfl|rfl|rfl|rfl<;>simp);simpa using af.mp this cs h
def zbA:(nH.all λcs=>(o4 cs).all λp=>decide (p<2 ^ cs.length))=Jg:=by decide +kernel
def Kr{cs:g_}(h:cs∈nH){p:Nat}(a:p∈o4 cs):p<2 ^ cs.length:=by have:=af.mp zbA cs h;simpa using af.mp this p a
def z9z:(nH.all λcs=>decide ((o4 cs).length<=16))=Jg:=by decide +kernel
def Rb{cs:g_}(h:cs∈nH):(o4 cs).length<=16:=by simpa using af.mp z9z cs h
theorem QO:∀l:List Bool,vX (l.map D.bl)=Jd l
 |[]=>rfl
 | b::l=>by
  show(vX (l.map D.bl)).map (b :: ·)=_;rw[QO l];rfl
def RW(O:Ow)(l:List Bool):uM O [.lst (l.map D.bl)]=.ok (.bl (l.all id)) O:=by show(match vX (l.map D.bl) with|some bs=>R.ok (D.bl (bs.all id)) O|none=>R.bad)=_;rw[QO]
def Ak{f:List D}{p:Nat}(h:p<f.length):f.getD p .non=f[p]:=by rw[au,ao h];rfl
def LY{α:Type}(l:List α):l.filter (λ_=>Jg)=l:=by simp
def Lc{n:Nat}{f:List D}(a:Fn n f){cs:g_}(h:cs∈YP n)(O:Ow):zw [.tup f,.str cs] O=.ok (.bl (q9 f cs)) O:=by
 have b:=uk a.n1 a.n4 h;have l:=sJ a.n1 a.n4 h;have c:pA (k_ 1 xK pv) [oQ f,qV cs] O=.ok (.val (oR (o4 cs))) O:=sV ((tW (oP rfl) rfl).trans (EW b O));have j:=Ly (ext:=1) (i:=2) (ts:=[]) (te:=h_ (pj qW) (h_ pY i_ pO) qy) (e:=λd=>.bl (match d with|.int i=>!tJ (f.getD i.toNat .non)|_=>Jh)) c (by unfold oR;have:=Rb b;simp;lia) (λd k=>rfl) (λd k _=>by
  obtain⟨q,m,rfl⟩:=av.mp k;have g:q<f.length:=by rw[a.len,<- l];exact Kr b m
  refine(qD ((qD rfl rfl).trans (KJ g)) rfl).trans ((ne0 O (a.ans _ (cm g))).trans ?_);have:((q:Int)).toNat=q:=by lia
  show _=R.ok (D.bl (!tJ (f.getD ((q:Int)).toNat .non))) O;rw[this,Ak g]) Jh
 have o:(((oR (o4 cs)).filter λ_=>Jg).map λd=>D.bl (match d with|.int i=>!tJ (f.getD i.toNat .non)|_=>Jh))=((o4 cs).map λp=>!tJ (f.getD p .non)).map D.bl:=by
  rw[LY];unfold oR;rw[aZ,aZ];exact dj λq _=>by
   show D.bl (!tJ (f.getD ((q:Int)).toNat .non))=D.bl (!tJ (f.getD q .non));have:((q:Int)).toNat=q:=by lia
   rw[this]
 rw[o] at j;show fin (oX _ [oQ f,qV cs] O)=_;rw[qO ((vG (oP j)).trans (RW O _))];congr 2;rw[lA];rfl
def zd1(O:Ow){d:D}(h:u4 d):Ig [d] O=.ok (.bl Jg) O:=by rcases h with rfl|rfl|rfl<;>kernel_rfl
def Bu{n:Nat}(a:n<=4):2 ^ n<=16:=aG (fi 's' a) 's'
def K2(O:Ow)(f:List D):p8 O [.tup f]=.ok (.int f.length) O:=rfl
def z6e{n:Nat}{f:List D}(a:Fn n f)(O:Ow):IA [.tup f] O=.ok (.bl Jg) O:=by
 have b:=Ly (ext:=1) (i:=1) (ts:=[]) (te:=k_ 1 Ig pv) (it0:=pA i_) (σ:=[oQ f]) rfl (by have:=Bu a.n4;have:=a.len;lia) (λd c=>rfl) (λd c _=>(tW (oP rfl) rfl).trans (zd1 O (a.ans d c))) Jh;have e:(f.filter λ_=>Jg).map (λ_=>D.bl Jg)=(f.map λ_=>Jg).map D.bl:=by rw[LY,aZ];rfl
 rw[e] at b;have g:qc (ud (qS (qk (s_ "tuple" i_))) (o8 (zo Jg vI (oO p8 (a_ i_ f_))))) s9 qe [oQ f] O=.nx [oQ f] O:=by
  have:ud (qS (qk (s_ "tuple" i_))) (o8 (zo Jg vI (oO p8 (a_ i_ f_)))) [oQ f] O=.ok Jh O:=by
   show(o8 (zo Jg vI (oO p8 (a_ i_ f_))) [oQ f] O)=_;refine rK ?_;show R.ok (D.bl (if Jg=Jg then !(tj vI (f.length:Nat)).isSome else _)) O=_;rw[a.len];rcases vw a.n1 a.n4 with rfl|rfl|rfl|rfl<;>rfl
  rw[tU this];rfl
 show fin (oM _ _ [oQ f] O)=_;rw[tX g,qO ((vG (oP b)).trans (RW O _))];show R.ok (D.bl _) O=_;congr 2;rw[lA];exact af.mpr λ_ _=>rfl
def CU{n:Nat}{f:List D}(a:Fn n f)(O:Ow):yA [.tup f] O=.ok .non O:=by show fin (qc _ _ qe [oQ f] O)=_;have b:k_ 1 IA (a_ i_ f_) [oQ f] O=.ok (.bl Jg) O:=(tW (oP rfl) rfl).trans (z6e a O);rw[tU (tD (tF b))];rfl
def LW{n:Nat}{f:List D}(a:Fn n f)(O:Ow):C8 [.tup f] O=.ok (.int n) O:=by
 show fin (oX (DP vI (oO p8 (a_ i_ f_))) [oQ f] O)=_;have:DP vI (oO p8 (a_ i_ f_)) [oQ f] O=.ok (.int n) O:=by
  show(match tj vI (f.length:Nat) with|some v=>R.ok (D.int v) O|none=>R.bad)=_;rw[a.len];rcases vw a.n1 a.n4 with rfl|rfl|rfl|rfl<;>rfl
 rw[qO this];rfl
def SM{n:Nat}(a:1<=n)(b:n<=4):(YP n).length<=81:=by rcases vw a b with rfl|rfl|rfl|rfl<;>decide
def tS(n:Nat)(f:List D):m_:=(YP n).filter (q9 f)
def zh:D->g_
 |.str cs=>cs
 |_=>[]
def zb4(l:m_)(p:g_->Bool):((l.map D.str).filter λd=>p (zh d)).map (λd=>d)=(l.filter p).map D.str:=by rw[jE,List.filter_map];rfl
structure nE(O:Ow)(m:Nat)(s:Int)(b:Bool):Prop where
 at_:O[m]?=Jd [.int s,.bl b]
 nn:0<=s
 lt:b=Jh->s<2147483647
def nE.len{O:Ow}{m:Nat}{s:Int}{b:Bool}(h:nE O m s b):m<O.length:=(al.mp h.at_).1
def HH{O:Ow}{m:Nat}{x y:D}(h:O[m]?=Jd [x,y]):pY O (.own m) (.int 0)=.ok x O:=by show(match O[m]? with|some ds=>(match L2.atI ds 0 with|some d=>R.ok d O|none=>R.bad)|none=>_)=_;rw[h];rfl
def SF{O:Ow}{m:Nat}{x y:D}(h:O[m]?=Jd [x,y]):pY O (.own m) (.int 1)=.ok y O:=by show(match O[m]? with|some ds=>(match L2.atI ds 1 with|some d=>R.ok d O|none=>R.bad)|none=>_)=_;rw[h];rfl
def Qg{te b c:DE}{σ:Sg}{O O1 O2 a:Ow}{y:D}{k:Nat}{i:Int}{ds:List D}{j:Nat}(d:te σ O=.ok y O1)(e:b σ O1=.ok (.own k) O2)(f:c σ O2=.ok (.int i) a)(g:a[k]?=Jd ds)(h:L2.ixN ds.length i=Jd j):
  yT te b c σ O=.nx σ (a.set k (ds.set j y)):=by show((te σ O).bnS _)=_;rw[d];show((b σ O1).bnS _)=_;rw[e];show((c σ O2).bnS _)=_;rw[f];show(match a[k]? with|some ds=>(match L2.ixN ds.length i with|some j=>RS.nx σ (a.set k (ds.set j y))|none=>RS.bad)|none=>RS.bad)=_;rw[g];show(match L2.ixN ds.length i with|some j=>RS.nx σ (a.set k (ds.set j y))|none=>RS.bad)=_;rw[h]
def D9{O:Ow}{i j:Int}(h:0<j):fI sU O (.int i) (.int j)=.ok (.int (i%j)) O:=by show(match sU i j with|some d=>R.ok d O|none=>R.bad)=_;unfold sU;rw[Ji h]
def Pu{O:Ow}{i j:Int}(h:0<j)(a:j<1073741824):fI v_ O (.int i) (.int j)=.ok (.int (i/j)) O:=by show(match v_ i j with|some d=>R.ok d O|none=>R.bad)=_;unfold v_;rw[Ji ⟨h,a⟩]
def CQ{O:Ow}{i j:Int}(h:-1000000000000000<i)(a:i<1000000000000000):fI sT O (.int i) (.int j)=.ok (.int (i*j)) O:=by show(match sT i j with|some d=>R.ok d O|none=>R.bad)=_;unfold sT;rw[Ji (.inl ⟨h,a⟩)]
def Hw{O:Ow}{i j:Int}:rS O (.int i) (.int j)=.ok (.int (i+j)) O:=rfl
def CT{O:Ow}{m:Nat}{s:Int}{b:Bool}(h:nE O m s b){k:Nat}(F:1<=k)(G:k<=1000):
  ∃(r:Nat)(d:Int),r<k/\sh [.own m,.int k] O=.ok (.int r) (O.set m [.int d,.bl b])/\nE (O.set m [.int d,.bl b]) m d b:=by
 have f:(0:Int)<(k:Int):=by lia
 have g:∀d,(O.set m [.int d,.bl b])[m]?=Jd [D.int d,D.bl b]:=λd=>by rw[bq h.len]
 have A:∀x:Int,∃r:Nat,r<k/\x%(k:Int)=(r:Int):=λx=>by
  have H:=jV x (show(k:Int)≠0 by lia);have I:=ja x f;exact⟨(x%(k:Int)).toNat,by lia,by lia⟩
 cases b with
 | true=>
  obtain⟨r,i,l⟩:=A s;refine⟨r,s/k,i,?_,g _,Int.ediv_nonneg h.nn 'o',λz=>by cases z⟩;have n:qk (h_ pY i_ qw) [qm m,n_ k,Jf,Jf] O=.ok Jg O:=tF ((qD rfl rfl).trans (SF h.at_));have o:pN 2 (h_ (fI sU) (h_ pY i_ qy) oZ) [qm m,n_ k,Jf,Jf] O=.nx [qm m,n_ k,n_ r,Jf] O:=by
   rw[CS ((qD ((qD rfl rfl).trans (HH h.at_)) rfl).trans (D9 f)),l];rfl
  have p:yT (h_ (fI v_) (h_ pY i_ qy) oZ) i_ qy [qm m,n_ k,n_ r,Jf] O=.nx [qm m,n_ k,n_ r,Jf] (O.set m [.int (s/k),.bl Jg]):=
   Qg (j:=0) ((qD ((qD rfl rfl).trans (HH h.at_)) rfl).trans (Pu f 'o')) rfl rfl h.at_ rfl
  show fin (oM (qc _ _ _) _ [qm m,n_ k,Jf,Jf] O)=_;have q:qc (qk (h_ pY i_ qw)) (oM (pN 2 (h_ (fI sU) (h_ pY i_ qy) oZ)) (oM (yT (h_ (fI v_) (h_ pY i_ qy) oZ) i_ qy) (oX pO))) qe [qm m,n_ k,Jf,Jf] O=.rt (.int r) (O.set m [.int (s/k),.bl Jg]):=by
   rw[tU n,Ji rfl,tX o,tX p];rfl
  rw[Eo q];rfl
 | false=>
  have J:=h.lt rfl;let a:Int:=(s*48271+29)%2147483647;have t:0<=a:=jV _ 's';have u:a<2147483647:=ja _ 's';let c:=O.set m [.int a,.bl Jh];have B:=g a;let e:Int:=(a*a+39373*a+7)%2147483629;let v:Int:=(e*e+16807*e)%2147483587;have n:qk (h_ pY i_ qw) [qm m,n_ k,Jf,Jf] O=.ok Jh O:=tF ((qD rfl rfl).trans (SF h.at_));have C:qc (qk (h_ pY i_ qw)) (oM (pN 2 (h_ (fI sU) (h_ pY i_ qy) oZ)) (oM (yT (h_ (fI v_) (h_ pY i_ qy) oZ) i_ qy) (oX pO))) qe [qm m,n_ k,Jf,Jf] O=.nx [qm m,n_ k,Jf,Jf] O:=by
   rw[tU n];rfl
  have o:yT (h_ (fI sU) (h_ rS (h_ (fI sT) (h_ pY i_ qy) (dC (.int 48271))) (dC (.int 29))) Gr) i_ qy [qm m,n_ k,Jf,Jf] O=.nx [qm m,n_ k,Jf,Jf] c:=
   Qg (j:=0) ((qD ((qD ((qD ((qD rfl rfl).trans (HH h.at_)) rfl).trans (CQ (by have:=h.nn;lia) 'o')) rfl).trans Hw) rfl).trans (D9 's')) rfl rfl h.at_ rfl
  have y:∀z w,h_ pY i_ qy [qm m,n_ k,z,w] c=.ok (.int a) c:=λz w=>(qD rfl rfl).trans (HH B);have p:pN 3 (h_ (fI sU) (h_ rS (h_ rS (h_ (fI sT) (h_ pY i_ qy) (h_ pY i_ qy)) (h_ (fI sT) (dC (.int 39373)) (h_ pY i_ qy))) (dC (.int 7))) (dC (.int 2147483629))) [qm m,n_ k,Jf,Jf] c=.nx [qm m,n_ k,Jf,n_ e] c:=
   CS ((qD ((qD ((qD ((qD (y Jf Jf) (y Jf Jf)).trans (CQ 'o' 'o')) ((qD rfl (y Jf Jf)).trans (CQ 's' 's'))).trans Hw) rfl).trans Hw) rfl).trans (D9 's'))
  have q:pN 3 (h_ (fI sU) (h_ rS (h_ (fI sT) pQ pQ) (h_ (fI sT) (dC (.int 16807)) pQ)) (dC (.int 2147483587))) [qm m,n_ k,Jf,n_ e] c=.nx [qm m,n_ k,Jf,n_ v] c:=
   CS ((qD ((qD ((qD rfl rfl).trans (CQ 'o' 'o')) ((qD rfl rfl).trans (CQ 's' 's'))).trans Hw) rfl).trans (D9 's'))
  obtain⟨r,i,l⟩:=A (v/8);refine⟨r,a,i,?_,g _,t,λ_=>u⟩;have E:oX (h_ (fI sU) (h_ (fI v_) pQ (dC (.int 8))) oZ) [qm m,n_ k,Jf,n_ v] c=.rt (.int r) c:=by
   rw[qO ((qD ((qD rfl rfl).trans (Pu 's' 's')) rfl).trans (D9 f)),l]
  show fin (oM _ _ [qm m,n_ k,Jf,Jf] O)=_;rw[tX C,tX o,tX p,tX q,E];rfl
def zfx{ns:List Int}{k:Nat}(O:Ow):∃s b,L5 [.lst (ns.map .int),.int k] O=.ok (.own O.length) (O++[[.int s,.bl b]])/\nE (O++[[.int s,.bl b]]) O.length s b:=by
 have f:∀s b,(O++[[D.int s,D.bl b]])[O.length]?=Jd [D.int s,D.bl b]:=λs b=>by simp
 obtain⟨c,l⟩:∃c:Int,IC [.lst (ns.map .int),.int k] O=.ok (.int c) O:=by
  have d:o8 (h_ vV oZ (oO p8 (a_ i_ f_))) [qu (ns.map .int),n_ k] O=.ok (decide ((k:Int)<(ns.map D.int).length)) O:=rK ((qD rfl ((vG (oP rfl)).trans rfl)).trans rfl);by_cases g:(k:Int)<(ns.map D.int).length
  ·have e:k<(ns.map D.int).length:=by lia
   have m:h_ pY i_ oZ [qu (ns.map .int),n_ k] O=.ok (ns.map D.int)[k] O:=(qD rfl rfl).trans (KS e);refine⟨ns[k]'⇑e,?_⟩;show fin (oM _ _ [qu (ns.map .int),n_ k] O)=_;have a:qc (o8 (h_ vV oZ (oO p8 (a_ i_ f_)))) (oX (h_ pY i_ oZ)) qe [qu (ns.map .int),n_ k] O=.rt (.int (ns[k]'⇑e)) O:=by
    rw[tU d,Ji (decide_eq_true g),qO m];simp
   rw[Eo a];rfl
  ·refine⟨0,?_⟩;show fin (oM _ _ [qu (ns.map .int),n_ k] O)=_;have a:qc (o8 (h_ vV oZ (oO p8 (a_ i_ f_)))) (oX (h_ pY i_ oZ)) qe [qu (ns.map .int),n_ k] O=.nx [qu (ns.map .int),n_ k] O:=by
    rw[tU d,Jk ⇑g];rfl
   rw[tX a];rfl
 have h:pN 2 (k_ 2 IC (a_ i_ pv)) [qu (ns.map .int),n_ k,Jf] O=.nx [qu (ns.map .int),n_ k,n_ c] O:=CS ((tW (o_ rfl rfl) rfl).trans l);have n:∀i,h_ (fI DR) (dC (.int 10)) (dC (.int 18)) i O=.ok (.int 1000000000000000000) O:=λi=>by
  refine(qD rfl rfl).trans ?_;kernel_rfl
 have d:o8 (h_ Ce pO AY) [qu (ns.map .int),n_ k,n_ c] O=.ok (decide ((1000000000000000000:Int)<=c)) O:=rK ((qD rfl (n _)).trans rfl);by_cases j:(1000000000000000000:Int)<=c
 ·refine⟨c-1000000000000000000,Jg,?_,f _ _,by lia,λz=>by cases z⟩;have a:qc (o8 (h_ Ce pO AY)) (oX (ym (a_ (h_ (fI u9) pO AY) (a_ xE f_)))) qe [qu (ns.map .int),n_ k,n_ c] O=.rt (.own O.length) (O++[[.int (c-1000000000000000000),.bl Jg]]):=by
   rw[tU d,Ji (decide_eq_true j)];refine qO ?_;show((a_ _ _ _ O).bnd _)=_;rfl
  show fin (oM _ _ [qu (ns.map .int),n_ k,Jf] O)=_;rw[tX h,Eo a];rfl
 ·refine⟨c%2147483647,Jh,?_,f _ _,jV _ 's',λ_=>ja _ 's'⟩;have a:qc (o8 (h_ Ce pO AY)) (oX (ym (a_ (h_ (fI u9) pO AY) (a_ xE f_)))) qe [qu (ns.map .int),n_ k,n_ c] O=.nx [qu (ns.map .int),n_ k,n_ c] O:=by
   rw[tU d,Jk ⇑j];rfl
  show fin (oM _ _ [qu (ns.map .int),n_ k,Jf] O)=_;rw[tX h,tX a];have o:ym (a_ (h_ (fI sU) pO Gr) (a_ (dC (.bl Jh)) f_)) [qu (ns.map .int),n_ k,n_ c] O=.ok (.own O.length) (O++[[.int (c%2147483647),.bl Jh]]):=by
   show((a_ _ _ _ O).bnd _)=_;rfl
  rw[qO o];rfl
def Hv{O:Ow}{m:Nat}{x:List D}(h:O[m]?=Jd x):O.set m x=O:=by obtain⟨a,rfl⟩:=al.mp h;exact List.set_getElem_self a
def K5{O:Ow}(h:zZ O)(m:Nat)(s:Int)(b:Bool):zZ (O.set m [.int s,.bl b]):=by
 intro c e d a;rw[ck];rcases fj e with f|rfl
 ·exact h c f d a
 ·simp at a;rcases a with rfl|rfl<;>rfl
def K8{O':Ow}(a:zZ O')(X:Ow){d d':D}(h:frz (O'++X) O'.length 8 d=Jd d'):v8 O'.length (.ok d (O'++X))=.ok d' O':=by
 unfold v8;dsimp only;rw[h];have:(O'++X).take O'.length=O':=by simp
 rw[this,zr λc b=>zr λd e=>HI (a c b d e)]
def zn4{ext:Nat}{it0:DI}{i:Nat}{te:DE}{σ:Sg}{O:Ow}{ds:List D}{m:Nat}{s:Int}{b:Bool}{P:D->Prop}(n:nE O m s b)(p:it0 σ O=.ok (.val ds) O)(y:ds.length<1900000)
  (q:∀d∈ds,∀c,nE (O.set m [.int c,.bl b]) m c b->∃v f,te ((pf (pf (σ++aH ext Jf) [i]) [i]).set i (Jd d)) (O.set m [.int c,.bl b])=.ok v (O.set m [.int f,.bl b])/\nE (O.set m [.int f,.bl b]) m f b/\P v):
  ∃vs c,pB Jh ext it0 (.one i) [] [] te σ O=.ok (.lst vs) (O.set m [.int c,.bl b])/\nE (O.set m [.int c,.bl b]) m c b/\vs.length=ds.length/\∀v∈vs,P v:=by
 obtain⟨a,g,e,c,rfl,h,k,l⟩:=Ln (ds:=ds) (step:=xh ⟨it0,.one i,[]⟩ [] te (pf (σ++aH ext Jf) (pK [⟨it0,.one i,[]⟩])))
  (λj g a=>∃c,g=O.set m [.int c,.bl b]/\nE g m c b/\a.length=j/\∀v∈a,P v) (λj g a d r o=>by
   obtain⟨c,rfl,h,k,l⟩:=r;have z:=(al.mp o).1;obtain⟨v,f,t,u,x⟩:=q d (aN o) c h;refine⟨a++[v],_,?_,f,rfl,u,by simp[k],λw hw=>?_⟩
   ·show r_ [] te ((pf (pf (σ++aH ext Jf) [i]) [i]).set i (Jd d)) (O.set m [.int c,.bl b]) a=_;unfold r_;rw[t];show(if a.length<4000000 then _ else _)=_;rw[Ji 'o']
   ·rcases aK.mp hw with hw|hw
    ·exact l w hw
    ·have:w=v:=⇑hw
     rw[this];exact x) ds.length 0 O [] ⟨s,(Hv n.at_).symm,n,rfl,by simp⟩ 'o' (bN _)
 refine⟨a,c,?_,h,k,l⟩;unfold pB yw;rw[p];show ua Jh (vM (pR (.val ds) _ ds.length 0 O []))=_;rw[e];rfl
theorem HM:∀(n:Nat)(cs:g_),cs.length=n->(∀c∈cs,sgn c=Jg)->cs∈YP n
 | 0,cs,h,_=>by
  have:=dL.mp h;subst this;simp[YP]
 | n+1,cs,h,hs=>by
  have b:cs≠[]:=by intro e;subst e;simp at h
  obtain⟨t,c,rfl⟩:∃t c,cs=t++[c]:=⟨_,_,(List.dropLast_concat_getLast b).symm⟩;have d:=HM n t ⇑h λc f=>hs c (bA _ f);unfold YP;rw[cf];refine⟨t,d,?_⟩;have a:=hs c 'd';unfold sgn at a;simp at a;rcases a with(z|z)|z<;>rw[z]<;>simp
def zil{σ:Sg}{O O':Ow}{e:DA}:∀(cs:g_),1<=cs.length->cs.length<=4->e σ O=.ok [.lst (cs.map λc=>.str [c])] O'->GU (dC (.str [])) e σ O=.ok (.str cs) O'
 |[],h,_,_=>by simp at h
 |[a],_,_,h=>by show((e σ O).bnd _)=_;rw[h];rfl
 |[a,b],_,_,h=>by show((e σ O).bnd _)=_;rw[h];rfl
 |[a,b,c],_,_,h=>by show((e σ O).bnd _)=_;rw[h];rfl
 |[a,b,c,d],_,_,h=>by show((e σ O).bnd _)=_;rw[h];rfl
 |_::_::_::_::_::_,_,h,_=>by simp at h
def Yx{σ:Sg}{O:Ow}{t:DE}{n:Nat}(a:n<=4)(h:t σ O=.ok (.int n) O):h_ (fI A3) qw t σ O=.ok (.int ((2 ^ n:Nat):Int)) O:=by
 refine(qD rfl h).trans ?_;have:n=0\/n=1\/n=2\/n=3\/n=4:=by lia
 rcases this with rfl|rfl|rfl|rfl|rfl<;>rfl
def QB{O:Ow}{n f:Nat}{ds:List D}(h:∀d∈ds,yi n d=Jg):frz O n (f+2) (.tup ds)=oQ ds:=by show(pe (frz O n (f+1)) ds).map D.tup=_;rw[zr λd a=>HI (h d a)];rfl
def zgG{d:D}(h:u4 d)(n:Nat):yi n d=Jg:=by rcases h with rfl|rfl|rfl<;>rfl
theorem Tu{src:Src}{step:D->Ow->List D->R (List D)}{O:Ow}{g:D->List D}{b:List D}(c:∀i,src.get O i=b[i]?):∀(ds a Ja:List D)(f:Nat),b=a++ds->ds.length<=f->(∀d∈ds,∀Ja:List D,Ja.length<4000000->step d O Ja=.ok (Ja++g d) O)->Ja.length+(ds.flatMap g).length+ds.length<4000000->
  pR src step f a.length O Ja=.ok (Ja++ds.flatMap g) O
 | [],a,Ja,f,ha,_,_,_=>by
  have e:src.get O a.length=Jf:=by rw[c,ha];simp
  cases f<;>(unfold pR;rw[e];simp)
 |d::ds,a,Ja,0,_,h,_,_=>by simp at h
 | d::ds,a,Ja,f+1,ha,h,hs,hl=>by
  unfold pR;have e:src.get O a.length=Jd d:=by rw[c,ha];simp
  rw[e];simp only[cg,aw,bg] at hl;show((step d O Ja).bnd λj k=>pR src step f (a.length+1) k j)=_;rw[hs d am Ja 'o'];show pR src step f (a.length+1) O (Ja++g d)=_;have:=Tu c ds (a++[d]) (Ja++g d) f (by rw[ha];simp) ⇑h (λl m=>hs l (ak _ m)) (by rw[aw];lia);rw[aw,eR] at this;rw[this];simp
def zmr{ext:Nat}{it0:DI}{g:Tg}{ts:List DT}{te:DE}{σ:Sg}{O:Ow}{src:Src}{ds:List D}{p:D->Bool}{e:D->D}{τ:D->Sg}(q:it0 σ O=.ok src O)(r:∀i,src.get O i=ds[i]?)(hsz:src.size O=ds.length)(z:ds.length<1900000)
  (s:∀d∈ds,g.put d (pf (pf (σ++aH ext Jf) (g.slots++[])) (g.slots++[]))=Jd (τ d)) (t:∀d∈ds,r8 ts (τ d) O=.ok (p d) O) (u:∀d∈ds,p d=Jg->te (τ d) O=.ok (e d) O) (o:Bool):
  pB o ext it0 g ts [] te σ O=ua o (.ok ((ds.filter p).map e) O):=by
 unfold pB yw;rw[q];show ua o (vM (pR src _ (src.size O) 0 O []))=_;have c:∀d∈ds,∀a:List D,a.length<4000000->xh ⟨it0,g,ts⟩ [] te (pf (σ++aH ext Jf) (pK [⟨it0,g,ts⟩])) d O a=.ok (a++(if p d=Jg then [e d] else [])) O:=by
  intro d k a v;show(match g.put d (pf (pf (σ++aH ext Jf) (g.slots++[])) (g.slots++[])) with|some qj=>(r8 ts qj O).bnd λb m=>if b=Jg then r_ [] te qj m a else .ok a m|none=>.bad)=_;rw[s d k];show(r8 ts (τ d) O).bnd _=_;rw[t d k];show(if p d=Jg then r_ [] te _ O a else .ok a O)=_;by_cases f:p d=Jg
  ·rw[Ji f,Ji f];unfold r_;rw[u d k f];show(if a.length<4000000 then _ else _)=_;rw[Ji v]
  ·rw[Jk f,Jk f];simp
 have n:∀l:List D,(l.flatMap λd=>if p d=Jg then [e d] else [])=(l.filter p).map e:=by
  intro l
  induction l with
  |nil=>rfl
  | cons x l ih=>
   rw[cg,ih,cZ];by_cases j:p x=Jg
   ·rw[Ji j,Ji j];rfl
   ·rw[Jk j,Jk j];rfl
 have h:((ds.filter p).map e).length<=ds.length:=by rw[aA];exact a7 _ _
 have w:=Tu (O:=O) (g:=λd=>if p d=Jg then [e d] else []) r ds [] [] ds.length rfl (aE _) c (by rw[n];simp at h ⊢;lia);rw[n,dP] at w;have y:pR src (xh ⟨it0,g,ts⟩ [] te (pf (σ++aH ext Jf) (pK [⟨it0,g,ts⟩]))) (src.size O) 0 O []=.ok ((ds.filter p).map e) O:=by rw[hsz];exact w
 rw[y];rfl
def QZ{O:Ow}{x:D}{xs:List D}(h:rk O x=Jd xs):p8 O [x]=.ok (.int xs.length) O:=by show(match rk O x with|some ds=>R.ok (D.int ds.length) O|none=>_)=_;rw[h]
structure Sq(O:Ow)(x:D)(xs:List D)(kd:String):Prop where
 zk:∃src,zY x=Jd src/\(∀i,src.get O i=xs[i]?)/\src.size O=xs.length
 ln:p8 O [x]=.ok (.int xs.length) O
 kind:Bd x=kd
def zmT{σ:Sg}{O O1:Ow}{i k:Nat}{t:DE}{y:D}{ds a:List D}(b:σ[i]?=Jd (qm k))(c:t σ O=.ok y O1)(d:rk O1 y=Jd a)(e:O1[k]?=Jd ds)(f:ds.length+a.length<=4000000):
  rg (Cv (pG i) (a_ t f_)) σ O=.nx σ (O1.set k (ds++a)):=by refine Hz (x:=.non) ?_;unfold Cv pG;rw[b];show((a_ t f_ σ O).bnd _)=_;rw[oP c];show(match [y],O1[k]? with|[y],Jd ds=>(match rk O1 y with|some a=>if ds.length+a.length<=4000000 then R.ok D.non (O1.set k (ds++a)) else R.bad|none=>R.bad)|_,_=>R.bad)=_;rw[e];dsimp only;rw[d];dsimp only;rw[Ji f]
def K7{σ:Sg}{O O1:Ow}{i k:Nat}{t:DE}{y:D}{ds:List D}(a:σ[i]?=Jd (qm k))(b:t σ O=.ok y O1)(c:O1[k]?=Jd ds)(d:ds.length<4000000):
  rg (yW (pG i) (a_ t f_)) σ O=.nx σ (O1.set k (ds++[y])):=by refine Hz (x:=.non) ?_;unfold yW pG;rw[a];show((a_ t f_ σ O).bnd _)=_;rw[oP b];show(match [y],O1[k]? with|[y],Jd ds=>if ds.length<4000000 then R.ok D.non (O1.set k (ds++[y])) else R.bad|_,_=>R.bad)=_;rw[c];dsimp only;rw[Ji d]
def R7{O:Ow}{x y:List D}:(O++[x]).set O.length y=O++[y]:=by rw[gc _ _ (aE _),iE];rfl
def HA{O:Ow}{x:List D}:(O++[x])[O.length]?=Jd x:=by simp
def nE.more{O X:Ow}{m:Nat}{s:Int}{b:Bool}(h:nE O m s b):nE (O++X) m s b:=⟨by rw[aF h.len];exact h.at_,h.nn,h.lt⟩
def R5{c d:DT}{σ:Sg}{O:Ow}{a b:Bool}(e:c σ O=.ok a O)(f:a=Jg->d σ O=.ok b O):yn c d σ O=.ok (a&&b) O:=by
 show((c σ O).bnd _)=_;rw[e];cases a with
 |true=>exact f rfl
 |false=>rfl
noncomputable def allS:List (g_×Nat):=nH.flatMap λcs=>(aM cs.length).map λk=>(cs,k)
def zfF{cs:g_}{k:Nat}(h:cs∈nH)(a:k<cs.length):(cs,k)∈allS:=by unfold allS;rw[cf];exact⟨cs,h,av.mpr ⟨k,aU.mpr a,rfl⟩⟩
def z7t:(nH.all λcs=>cs.all sgn)=Jg:=by decide +kernel
def HG{n:Nat}(a:1<=n)(b:n<=4){cs:g_}(h:cs∈YP n):∀c∈cs,sgn c=Jg:=af.mp (af.mp z7t cs (uk a b h))
def HY{n:Nat}(b:1<=n)(d:n<=4){cs:g_}(h:cs∈YP n){k c:Nat}(e:sgn c=Jg):cs.set k c∈YP n:=by
 refine HM n _ (by rw[ck];exact sJ b d h) λx a=>?_;rcases fj a with a|rfl
 ·exact HG b d h x a
 ·exact e
def zih(O:Ow){c:Nat}(h:sgn c=Jg):pj qW O (.str [c]) (.str [45])=.ok (.bl (c !=45)) O:=by unfold sgn at h;simp at h;rcases h with(rfl|rfl)|rfl<;>kernel_rfl
def K_{cs:g_}{k:Nat}(h:k<cs.length):cs.getD k 0=cs[k]:=by rw[au,ao h];rfl
def zdt:(nH.all λcs=>cs.all λc=>decide (c<1114112))=Jg:=by decide +kernel
def zhQ{n k:Nat}(a:1<=n)(b:n<=4){cs:g_}(h:cs∈YP n):pl k (.str cs)=Jg:=by have:=af.mp zdt cs (uk a b h);cases k<;>exact this
def zf0{n k:Nat}(a:1<=n)(b:n<=4){l:m_}(h:∀cs∈l,cs∈YP n):(l.map D.str).all (pl k)=Jg:=af.mpr λd c=>by
 obtain⟨cs,e,rfl⟩:=av.mp c;exact zhQ a b (h cs e)
def zf4(O:Ow)(k:Nat)(l:g_):vt O (.int (k:Nat)) (.lst (oR l))=.ok (.bl (!l.contains k)) O:=
 (GJ O (l:=oR l) (b:=l.contains k) rfl (Kx 7 l) (.inl rfl) (by
  rw[aW];unfold oR;rw[av];constructor
  ·intro h;exact⟨k,h,rfl⟩
  ·rintro⟨j,h,e⟩;injection e with e;have:j=k:=by lia
   rw[<- this];exact h)).2
def HK{O:Ow}{m:Nat}{s:Int}{b:Bool}(h:nE (O.set m [.int s,.bl b]) m s b)(X:Ow){k:Nat}(e:1<=k)(f:k<=1000):
  ∃(r:Nat)(a:Int),r<k/\sh [.own m,.int k] (O.set m [.int s,.bl b]++X)=.ok (.int r) (O.set m [.int a,.bl b]++X)/\nE (O.set m [.int a,.bl b]) m a b:=by
 obtain⟨r,a,g,d,c⟩:=CT (h.more) e f;rw[kN _ _ h.len,iH] at d c;refine⟨r,a,g,d,?_,c.nn,c.lt⟩;have i:m<(O.set m [.int a,.bl b]).length:=by have:=h.len;rw[ck] at this ⊢;exact this
 have:=c.at_;rwa [aF i] at this
def G_(O:Ow)(i j:Int):vV O (.int i) (.int j)=.ok (.bl (decide (i<j))) O:=rfl
def KG(O:Ow)(q:Bool):y0 O [.bl q]=.ok (.int (if q=Jg then 1 else 0)) O:=by cases q<;>rfl
def zgm(O:Ow){r:Nat}(h:r<3):∃i:Int,pY O (.lst [.int 2,.int 4,.int 6]) (.int r)=.ok (.int i) O:=by
 have:r=0\/r=1\/r=2:=by lia
 rcases this with rfl|rfl|rfl
 ·exact⟨2,rfl⟩
 ·exact⟨4,rfl⟩
 ·exact⟨6,rfl⟩
def z9B{O:Ow}(S:zZ O){m:Nat}{s:Int}{b:Bool}(h:nE O m s b){n:Nat}(T:1<=n)(x:n<=4)(l:Bool):
  ∃f g,Fn n f/\Me [.own m,.int n,.bl l] O=.ok (.tup f) (O.set m [.int g,.bl b])/\nE (O.set m [.int g,.bl b]) m g b:=by
 have hp:=Bu x;obtain⟨r,F,U,V,W⟩:=CT h (k:=3) 's' 's';obtain⟨w,y,w1,G,H⟩:=CT W (k:=3) 's' 's';rw[iH] at G H;obtain⟨i,X⟩:=zgm (O.set m [.int F,.bl b]) U;obtain⟨z,Y⟩:∃z:Int,h_ (fI sT) (k_ 2 sh (a_ i_ GI)) (oO y0 qY) [qm m,n_ n,BD l,n_ i,Jf,Jf,Jf,Jf] (O.set m [.int F,.bl b])=.ok (.int z) (O.set m [.int y,.bl b]):=by
  refine⟨_,qF (oY (o_ rfl rfl) G) (qE (oP rfl) (KG _ l)) (CQ 'o' 'o')⟩
 let A:Option D:=qm m;let k:=O.length;have c:∀g,(O.set m [D.int g,D.bl b]).length=O.length:=λg=>ck;obtain⟨Z,B,l1,e,p,C,E,rfl,rfl,h3,t,u⟩:=PV (i:=6) (it:=vf (a_ (h_ (fI A3) qw oZ) f_)) (body:=(oM (pN 7 (oO y0 (a_ (h_ vV (k_ 2 sh (a_ i_ (a_ (dC (.int 8)) f_))) pQ) f_))) (oM (qc (o8 (h_ vV (k_ 2 sh (a_ i_ (a_ (dC (.int 5)) f_))) qR)) (pN 7 (dC .non)) qe) (rg (yW vc A4)))))
  (Hu (oP (Yx x rfl)) 'o') (λj I B=>∃e g C E,I=[A,n_ n,BD l,n_ i,n_ z,qm O.length,C,E]/\B=O.set m [.int g,.bl b]++[e]/\nE (O.set m [.int g,.bl b]) m g b/\e.length=j/\∀d∈e,u4 d) (λj a I B ha hI=>by
   obtain⟨e,g,C,E,rfl,rfl,hs,t,u⟩:=hI;have hj:j<2 ^ n:=by have:=(al.mp ha).1;simpa using this
   obtain⟨J,t1,_,K,g1⟩:=HK hs [e] (k:=8) 's' 's';obtain⟨q2,o,_,L,M⟩:=HK g1 [e] (k:=5) 's' 's';have N:u4 (.int (if (decide ((J:Int)<i))=Jg then 1 else 0)):=by
    by_cases h:(J:Int)<i
    ·exact .inr (.inl (by simp[h]))
    ·exact .inl (by simp[h])
   have q:∀v,u4 v->rg (yW vc A4) [A,n_ n,BD l,n_ i,n_ z,qm O.length,n_ a,Jd v] (O.set m [.int o,.bl b]++[e])=.nx [A,n_ n,BD l,n_ i,n_ z,qm O.length,n_ a,Jd v] (O.set m [.int o,.bl b]++[e++[v]]):=λv _=>by
    rw[K7 rfl rfl (by rw[<- c o];exact HA) 'o'];congr 1;rw[<- c o];exact R7
   have P:∀v,u4 v->(e++[v]).length=j+1/\∀d∈e++[v],u4 d:=λv hv=>⟨by simp[t],λd hd=>by
    rcases aK.mp hd with hd|hd
    ·exact u d hd
    ·have:d=v:=⇑hd
     rw[this];exact hv⟩
   by_cases Q:(q2:Int)<z
   ·refine⟨_,_,rE (qE (oP (qF (oY (o_ rfl rfl) K) rfl (G_ _ _ _))) (KG _ _)) (yr ?_ (q .non (.inr (.inr rfl)))),e++[.non],o,_,_,rfl,rfl,M,P _ (.inr (.inr rfl))⟩;rw[tU (rK ((qF (oY (o_ rfl rfl) L) rfl (G_ _ _ _)).trans (by rw[decide_eq_true Q])))];rfl
   ·refine⟨_,_,rE (qE (oP (qF (oY (o_ rfl rfl) K) rfl (G_ _ _ _))) (KG _ _)) (uC (rK ((qF (oY (o_ rfl rfl) L) rfl (G_ _ _ _)).trans (by rw[decide_eq_false Q]))) (q _ N)),_,o,_,_,rfl,rfl,M,P _ N⟩) ⟨[],y,_,_,rfl,rfl,H,rfl,by simp⟩
 rw[dN] at t;refine⟨e,p,⟨T,x,t,u⟩,?_,h3⟩;show v8 O.length (fin (L_ [qm m,n_ n,BD l,Jf,Jf,Jf,Jf,Jf] O))=_;have hB:L_ [qm m,n_ n,BD l,Jf,Jf,Jf,Jf,Jf] O=.rt (.tup e) (O.set m [.int p,.bl b]++[e]):=by
  refine rE (qF rfl (oY (o_ rfl rfl) V) X) (rE Y (rE ?_ (yr l1 (qO (qE (oP rfl) ?_)))))
  ·show R.ok (D.own (O.set m [D.int y,D.bl b]).length) _=_;rw[c]
  ·show(match (O.set m [.int p,.bl b]++[e])[O.length]? with|some ds=>R.ok (D.tup ds) _|none=>_)=_;rw[<- c p,HA]
 rw[rh hB];have:=K8 (K5 S m p b) [e] (QB λd hd=>zgG (u d hd) _);rw[c] at this;exact this
def Z8{ext:Nat}{it0:DI}{i:Nat}{te:DE}{σ:Sg}{O O0:Ow}{ds:List D}{m:Nat}{s:Int}{b:Bool}{P:D->Prop}{o:Bool}(n:nE O m s b)(q:it0 σ O0=.ok (.val ds) O)(z:ds.length<1900000)
  (r:∀d∈ds,∀c,nE (O.set m [.int c,.bl b]) m c b->∃v f,te ((pf (pf (σ++aH ext Jf) [i]) [i]).set i (Jd d)) (O.set m [.int c,.bl b])=.ok v (O.set m [.int f,.bl b])/\nE (O.set m [.int f,.bl b]) m f b/\P v):
  ∃vs c,pB o ext it0 (.one i) [] [] te σ O0=ua o (.ok vs (O.set m [.int c,.bl b]))/\nE (O.set m [.int c,.bl b]) m c b/\vs.length=ds.length/\∀v∈vs,P v:=by
 obtain⟨a,g,e,c,rfl,h,k,l⟩:=Ln (ds:=ds) (step:=xh ⟨it0,.one i,[]⟩ [] te (pf (σ++aH ext Jf) (pK [⟨it0,.one i,[]⟩])))
  (λj g a=>∃c,g=O.set m [.int c,.bl b]/\nE g m c b/\a.length=j/\∀v∈a,P v) (λj g a d t p=>by
   obtain⟨c,rfl,h,k,l⟩:=t;have A:=(al.mp p).1;obtain⟨v,f,u,x,y⟩:=r d (aN p) c h;refine⟨a++[v],_,?_,f,rfl,x,by simp[k],λw hw=>?_⟩
   ·show r_ [] te ((pf (pf (σ++aH ext Jf) [i]) [i]).set i (Jd d)) (O.set m [.int c,.bl b]) a=_;unfold r_;rw[u];show(if a.length<4000000 then _ else _)=_;rw[Ji 'o']
   ·rcases aK.mp hw with hw|hw
    ·exact l w hw
    ·have:w=v:=⇑hw
     rw[this];exact y) ds.length 0 O [] ⟨s,(Hv n.at_).symm,n,rfl,by simp⟩ 'o' (bN _)
 refine⟨a,c,?_,h,k,l⟩;unfold pB yw;rw[q];show ua o (vM (pR (.val ds) _ ds.length 0 O []))=_;rw[e];rfl
def zgt{ns:List Int}(e:ns.length<=63)(σ:Sg)(c:Nat)(g:c<1000)(a:pG 0 σ []=.ok (.lst (ns.map .int)) []):∃m:Nat,m<100000/\oO Bi (a_ qw (a_ (oO A_ (a_ (oO p8 (a_ i_ f_)) (a_ (dC (.int (c:Nat))) f_))) f_)) σ []=.ok (.int (m:Nat)) []:=by
 have b:oO A_ (a_ (oO p8 (a_ i_ f_)) (a_ (dC (.int (c:Nat))) f_)) σ []=.ok (.int (if (c:Int)<((ns.map D.int).length:Nat) then (c:Int) else ((ns.map D.int).length:Nat))) []:=(vG (o_ ((vG (oP a)).trans rfl) rfl)).trans rfl;have d:=(vG (f:=Bi) (o_ (t:=dC (.int 1)) rfl b));refine⟨(if (if (c:Int)<((ns.map D.int).length:Nat) then (c:Int) else ((ns.map D.int).length:Nat))>1 then (if (c:Int)<((ns.map D.int).length:Nat) then (c:Int) else ((ns.map D.int).length:Nat)) else 1).toNat,?_,d.trans ?_⟩
 ·rw[aA];split<;>split<;>lia
 ·show R.ok (D.int (if (if (c:Int)<((ns.map D.int).length:Nat) then (c:Int) else ((ns.map D.int).length:Nat))>1 then (if (c:Int)<((ns.map D.int).length:Nat) then (c:Int) else ((ns.map D.int).length:Nat)) else 1)) []=_;congr 2;rw[aA];split<;>split<;>lia
noncomputable def q0(n:Nat)(a b:g_):Bool:=(aM n).all λi=>b.getD i 0==45||b.getD i 0==a.getD i 0
def Q2{n:Nat}(a:1<=n)(b:n<=4){cs:g_}(h:cs∈YP n){p:Nat}(d:p<2 ^ n):p∈o4 cs↔J9 cs (Af n p)=Jg:=by have c:=sJ a b h;have:=af.mp zcs _ (zfq (uk a b h) (by rw[c];exact d));simp at this;rw[c] at this;rw[this.1.1.1];simp
def yv{n:Nat}(a:1<=n)(b:n<=4){cs:g_}(h:cs∈YP n){p:Nat}(c:p∈o4 cs):p<2 ^ n:=by have:=Kr (uk a b h) c;rw[sJ a b h] at this;exact this
def HC{n:Nat}(c:1<=n)(d:n<=4){a b:g_}(e:a∈YP n)(f:b∈YP n)(h:q0 n a b=Jg){p:Nat}(g:p∈o4 a):p∈o4 b:=by
 have j:=yv c d e g;have m:=(Q2 c d e j).mp g;refine(Q2 c d f j).mpr ?_;unfold J9 at m ⊢;unfold q0 at h;rw[sJ c d e] at m;rw[sJ c d f];rw[af] at h m ⊢;intro i k;have e1:=h i k;have e2:=m i k;simp at e1 e2 ⊢;rcases e1 with e1|e1
 ·exact .inl e1
 ·rcases e2 with e2|e2
  ·exact .inl (e1.trans e2)
  ·exact .inr (e1.trans e2)
def SW(n:Nat)(a:g_):q0 n a a=Jg:=by unfold q0;rw[af];intro i _;simp
def Um{α:Type}{n i:Nat}(f:Nat->α):((aM n).map f)[i]?=if i<n then Jd (f i) else Jf:=by
 rw[bd];by_cases h:i<n
 ·rw[er h,Ji h];rfl
 ·rw[aY.mpr ⇑h,Jk h];rfl
def zca{α β:Type}(l:List α)(e:α->β):(l.filter λ_=>Jg).map e=l.map e:=by rw[iJ.mpr (λ_ _=>rfl)]
def Ht{n:Nat}{a b:g_}(h:q0 n a b=Jg){k:Nat}(c:k<n):b.getD k 0=45\/b.getD k 0=a.getD k 0:=by have:=af.mp h k (aU.mpr c);simpa using this
def Kz{n:Nat}{a b:g_}(h:∀k,k<n->b.getD k 0=45\/b.getD k 0=a.getD k 0):q0 n a b=Jg:=by unfold q0;rw[af];intro k c;have:=h k (aU.mp c);simpa using this
def zfz{n:Nat}{a b:g_}(e:a.length=n)(f:b.length=n)(h:∀k,k<n->a.getD k 0=b.getD k 0):a=b:=by refine il 'o' λi c d=>?_;have:=h i 'o';rw[K_ c,K_ d] at this;exact this
def XU(O:Ow)(ds:List D)(σ:Sg)(c:ds.length<4000000)(b:pG 0 σ O=.ok (.tup ds) O):yU i_ (yo qw) xH σ O=.ok (.tup (ds.drop 1)) O:=by
 show((pG 0 σ O).bnd _)=_;rw[b];show(if HT.sIx ds.length 0 (Jd 1)=0/\HT.sIx ds.length ds.length Jf=ds.length then R.ok (D.tup ds) O else R.ok (D.tup (yX ds (Jd 1) Jf)) O)=_;have a:HT.sIx ds.length 0 (Jd 1)=min 1 ds.length:=HT.sIx_nat ds.length 0 1;cases ds with
 |nil=>rfl
 | cons d r=>
  have:¬ (HT.sIx (d::r).length 0 (Jd 1)=0/\HT.sIx (d::r).length (d::r).length Jf=(d::r).length):=by
   rw[a];simp
  unfold yX;rw[a,HT.sIx_none];simp
def Zw(O:Ow){n:Nat}(a:1<=n)(b:n<=4){l:m_}(h:∀cs∈l,cs∈YP n):pj qW O (.lst (l.map D.str)) (.lst [])=.ok (.bl (!l.isEmpty)) O:=
 (G2 O (zf0 a b h) rfl (by cases l<;>simp)).2
def HP{α:Type}{l:List α}{p:α->Bool}:(l.filter p).isEmpty=l.all λx=>!p x:=by rw[dq,fx,fU,af];exact forall_congr' λa=>forall_congr' λ_=>by simp
noncomputable def BM:D->Bool
 |.int i=>i==1
 |_=>Jh
def eq1(O:Ow){d:D}(h:u4 d):pj rl O d (.int 1)=.ok (.bl (BM d)) O:=by rcases h with rfl|rfl|rfl<;>kernel_rfl
def pV(f:List D):g_:=(aM f.length).filter λp=>BM (f.getD p .non)
def nO{f:List D}{p:Nat}:p∈pV f↔p<f.length/\BM (f.getD p .non)=Jg:=by unfold pV;rw[aB,aU]
def yu(f:List D)(t:g_):Bool:=!((pV f).filter λp=>(o4 t).contains p).isEmpty
def Cy(n:Nat)(f:List D)(t:g_):Bool:=((tS n f).filter λo=>decide (o≠t)&&q0 n t o).isEmpty&&yu f t
def gr(n:Nat)(f:List D):m_:=(tS n f).filter (Cy n f)
def Az{n:Nat}{f:List D}{t:g_}(h:t∈tS n f):t∈YP n:=(aB.mp h).1
def zc1{n:Nat}{f:List D}(a:Fn n f):(tS n f).length<=81:=aG (a7 _ _) (SM a.n1 a.n4)
def Br{n:Nat}{f:List D}(a:Fn n f):(pV f).length<=16:=by have b:=a7 (λp=>BM (f.getD p .non)) (aM f.length);rw[dN] at b;have c:=Bu a.n4;have d:=a.len;unfold pV;lia
def um{n:Nat}{f:List D}{t:g_}(h:t∈gr n f):t∈YP n:=Az (aB.mp h).1
def zgn{q:g_->Bool}(h:∀t∈YP 4,∀o∈YP 4,q t=Jg->q o=Jg->q0 4 t o=Jg->t=o):((YP 4).filter q).length<=54:=by
 have e:YP 4=(YP 3).flatMap λt=>[t++[45],t++[48],t++[49]]:=rfl;have f:∀l:m_,(∀x∈l,x∈YP 3)->((l.flatMap λt=>[t++[45],t++[48],t++[49]]).filter q).length<=l.length*2:=λl=>by
  induction l with
  |nil=>intro _;simp
  | cons x r ih=>
   intro g;rw[cg,lN,aw,bg,lJ];have w:=ih λy p=>g y (ak _ p);have i:=g x am;have b:=sJ 's' 's' i;have j:∀c,c=45\/c=48\/c=49->x++[c]∈YP 4:=λc d=>by
    rw[e,cf];refine⟨x,i,?_⟩;rcases d with rfl|rfl|rfl<;>simp
   have s:∀c,q0 4 (x++[c]) (x++[45])=Jg:=λc=>Kz λk z=>by
    by_cases u:k<3
    ·right;rw[au,au,aF 'o',aF 'o']
    ·have:k=3:=by lia
     subst this;left;rw[au,bb 'o',b];rfl
   have m:∀c,c=48\/c=49->q (x++[45])=Jg->q (x++[c])=Jh:=λc d a=>by
    cases v:q (x++[c]) with
    |false=>rfl
    | true=>
     have:=h _ (j c (by rcases d with rfl|rfl<;>simp)) _ (j 45 'd') v a (s c);have n:=List.append_cancel_left this;rcases d with rfl|rfl<;>cases n
   have n:([x++[45],x++[48],x++[49]].filter q).length<=2:=by
    cases a:q (x++[45]) with
    |true=>rw[cZ,a,cZ,m 48 'd' a,cZ,m 49 'd' a];simp
    | false=>
     rw[cZ,a,Jk 's'];exact a7 _ _
   lia
 exact aG (f (YP 3) λ_ h=>h) 's'
def Dk(f:List D)(l:m_):Bool:=(pV f).all λp=>l.any λt=>(o4 t).contains p
theorem zgy{α:Type}{l:List α}{inj:α->D}{i:Nat}{body:DS}{τ:Option D->Sg}{O:Ow}{q:α->Bool}{d:D}(g:∀y x,(τ y).set i x=τ x)(h:∀a∈l,body (τ (Jd (inj a))) O=if q a=Jg then .nx (τ (Jd (inj a))) O else .rt d O):
  ∀(f k:Nat)(y:Option D),k<=l.length->l.length<=k+f->∃b,uf (.val (l.map inj)) (λd σ O=>match Tg.put (.one i) d σ with|some σ'=>body σ' O|none=>.bad) f k (τ y) O=if (l.drop k).all q=Jg then .nx (τ b) O else .rt d O
 | 0,k,y,h1,h2=>by
  have:k=l.length:=by lia
  subst this;refine⟨y,?_⟩;have e:(Src.val (l.map inj)).get O l.length=Jf:=by simp[Src.get]
  unfold uf;rw[e];simp
 | f+1,k,y,h1,h2=>by
  by_cases j:k=l.length
  ·subst j;refine⟨y,?_⟩;have e:(Src.val (l.map inj)).get O l.length=Jf:=by simp[Src.get]
   unfold uf;rw[e];simp
  ·have c:k<l.length:=by lia
   have e:(Src.val (l.map inj)).get O k=Jd (inj l[k]):=by
    show(l.map inj)[k]?=_;rw[bd,ao c];rfl
   obtain⟨b,m⟩:=zgy g h f (k+1) (Jd (inj l[k])) 'o' 'o';refine⟨b,?_⟩;unfold uf;rw[e];dsimp only;have n:Tg.put (.one i) (inj l[k]) (τ y)=Jd (τ (Jd (inj l[k]))):=congrArg Jd (g y _);rw[n];dsimp only;rw[h _ (cm c),cO c,eV];cases o:q l[k] with
   |true=>rw[Ji rfl,kU];exact m
   |false=>simp
def znx{σ:Sg}{O O1:Ow}{t:DA}{x:D}{l:m_}(h:t σ O=.ok [x] O1)(a:rk O1 x=Jd (l.map .str)\/x=.tup (l.map .str))(b:l.length<1000):OR Jh t σ O=.ok (.lst ((pM l).map .str)) O1:=by
 unfold OR;rw[h];show(match (match rk O1 x with|some ds=>Jd ds|none=>zy x) with|some ds=>Oi Jh (.ok ds O1)|none=>.bad)=_;have e:(match rk O1 x with|some ds=>Jd ds|none=>zy x)=Jd (l.map .str):=by
  rcases a with a|rfl
  ·rw[a]
  ·rfl
 rw[e];show(match tO (l.map D.str) with|some ss=>if ss.length<1000 then (if Jh=Jg then R.ok (D.own _) _ else R.ok (D.lst ((pM ss).map .str)) O1) else .bad|none=>.bad)=_;rw[DL.strL_map];show(if l.length<1000 then _ else _)=_;rw[Ji b];rfl
def DV{A:Ow}{x y:List D}{k:Nat}(h:A.length=k):(A++[x,y])[k]?=Jd x:=by subst h;simp
def J6{A:Ow}{x y:List D}{k:Nat}(h:A.length=k):(A++[x,y])[k+1]?=Jd y:=by subst h;rw[bb 'o',cI];rfl
def Ot{A:Ow}{x y z:List D}{k:Nat}(h:A.length=k):(A++[x,y]).set k z=A++[z,y]:=by subst h;rw[gc _ _ (aE _),iE];rfl
def OD{A:Ow}{x y z:List D}{k:Nat}(h:A.length=k):(A++[x,y]).set (k+1) z=A++[x,z]:=by subst h;rw[gc _ _ 'o',cI];rfl
theorem Ls{α β:Type}(f:α->β):∀(l:List α)(i:Nat),(l.map f).eraseIdx i=(l.eraseIdx i).map f
 |[],_=>by simp
 |x::l,0=>rfl
 | x::l,i+1=>by
  rw[br,jM,jM,br,Ls f l i]
theorem LL{α:Type}:∀(l:List α)(i:Nat)(h:i<l.length),(l[i]::l.eraseIdx i).Perm l
 |[],_,h=>by simp at h
 |x::l,0,_=>d8 _
 | x::l,i+1,h=>by
  exact(mS _ _ _).trans ((LL l i ⇑h).cons x)
def A7:g_:=[48,49,45,50]
def zfu(O:Ow):(A7.map λc=>uJ O (.str [c]) (.str [45,48,49]))=A7.map λc=>R.ok (.bl (sgn c)) O:=by kernel_rfl
def neI(O:Ow)(a b:Int):pj qW O (.int a) (.int b)=.ok (.bl (a !=b)) O:=rfl
def eqI(O:Ow)(a b:Int):pj rl O (.int a) (.int b)=.ok (.bl (a==b)) O:=rfl
def zck{n:Nat}{cs:g_}(f:∀c∈cs,c∈A7)(k:cs.length<=10)(O:Ow):Bx [.int (n:Nat),.str cs] O=.ok (.bl (cs.length==n&&cs.all sgn)) O:=by
 have a:oO p8 pv [n_ (n:Nat),qV cs] O=.ok (.int (cs.length:Nat)) O:=(vG (oP rfl)).trans (R1 'o');have b:ud (qS (qk (s_ "str" oZ))) (o8 (h_ (pj qW) (oO p8 pv) i_)) [n_ (n:Nat),qV cs] O=.ok (((cs.length:Nat):Int) !=(n:Nat)) O:=by
  have:o8 (h_ (pj qW) (oO p8 pv) i_) [n_ (n:Nat),qV cs] O=.ok (((cs.length:Nat):Int) !=(n:Nat)) O:=rK ((qD a rfl).trans (neI O _ _));exact this
 have g:(((cs.length:Nat):Int) !=(n:Nat)) = !(cs.length==n):=by
  rw[dq];simp;lia
 rw[g] at b;have j:=vd (o:=Jh) (ext:=1) (i:=2) (it0:=pA oZ) (σ:=[n_ (n:Nat),qV cs]) (te:=h_ uJ pO (dC (.str [45,48,49]))) rfl 'o' (λ_=>rfl) (λc h=>(qD rfl rfl).trans (cF.mp (zfu O) c (f c h)));show fin (oM (qc _ s9 qe) (oX _) [n_ (n:Nat),qV cs] O)=_;cases e:(cs.length==n) with
 | false=>
  rw[e] at b;have d:qc (ud (qS (qk (s_ "str" oZ))) (o8 (h_ (pj qW) (oO p8 pv) i_))) s9 qe [n_ (n:Nat),qV cs] O=.rt (.bl Jh) O:=by rw[tU b];rfl
  rw[Eo d];rfl
 | true=>
  rw[e] at b;have d:qc (ud (qS (qk (s_ "str" oZ))) (o8 (h_ (pj qW) (oO p8 pv) i_))) s9 qe [n_ (n:Nat),qV cs] O=.nx [n_ (n:Nat),qV cs] O:=by rw[tU b];rfl
  rw[tX d,qO ((vG (oP j)).trans (C2 O _ _))];rfl
def Jt(d:D):Prop:=(∃w:g_,d=.str w/\(∀c∈w,c∈A7)/\w.length<=10)\/(∃xs,d=.tup xs)\/d=.non\/d=.int 0\/d=.bl Jg
def DH(n:Nat):D->Bool
 |.str w=>w.length==n&&w.all sgn
 |_=>Jh
def z8G(n:Nat){d:D}(h:Jt d)(O:Ow):Bx [.int (n:Nat),d] O=.ok (.bl (DH n d)) O:=by
 rcases h with⟨w,rfl,a,b⟩|⟨c,rfl⟩|rfl|rfl|rfl
 ·exact zck a b O
 all_goals rfl
def Gu(l:m_):Bool:=(aM (l.length-1)).all λk=>decide (l.getD k []<l.getD (k+1) [])
def zcH{l:m_}(c:l.length<10000)(O:Ow):LZ [.tup (l.map D.str)] O=.ok (.bl (Gu l)) O:=by
 have a:Be (a_ i_ (a_ (yU i_ (yo qw) xH) f_)) [oQ (l.map D.str)] O=.ok (.zip (.val (l.map D.str)) (.val ((l.map D.str).drop 1))) O:=by
  show((a_ i_ (a_ (yU i_ (yo qw) xH) f_) _ O).bnd _)=_;rw[o_ rfl (XU O (l.map D.str) [oQ (l.map D.str)] (by simp;lia) rfl)];rfl
 have b:=Bt (o:=Jh) (ext:=2) (g:=.two 1 2) (ts:=[]) (te:=h_ yQ oZ pO) (inj:=λk=>D.tup [.str (l.getD k []),.str (l.getD (k+1) [])])
  a (λi=>by
   rw[Um];show(match (l.map D.str)[i]?,((l.map D.str).drop 1)[i]? with|some x,Jd y=>Jd (D.tup [x,y])|_,_=>Jf)=_;rw[lD,bd,bd];by_cases a:i<l.length-1
   ·rw[Ji a,ao 'o',show 1+i=i+1 from by lia,ao 'o'];rw[au,au,ao 'o',ao 'o'];rfl
   ·rw[Jk a,show l[1+i]?=Jf from aY.mpr 'o'];cases l[i]?<;>rfl) (by
   show min (l.map D.str).length ((l.map D.str).drop 1).length=_;simp) (by rw[dN];lia) (λk _=>rfl) (λk _=>rfl) (λk d _=>rfl)
 rw[zca] at b;show fin (oX _ [oQ (l.map D.str)] O)=_;rw[qO ((vG (oP b)).trans (C2 O _ _))];rfl
def oE{l:m_}:Gu l=Jg↔l.Pairwise (· < ·):=by
 constructor
 ·intro h;have a:∀k,k+1<l.length->l.getD k []<l.getD (k+1) []:=λk c=>by
   have:=af.mp h k (aU.mpr 'o');simpa using this
  have e:∀d i,i+d+1<l.length->l.getD i []<l.getD (i+d+1) []:=by
   intro d
   induction d with
   |zero=>intro i b;exact a i b
   |succ d ih=>intro i b;exact ie (ih i 'o') (a (i+d+1) 'o')
  refine dr.mpr λi j b f m=>?_;have:=e (j-i-1) i 'o';rw[show i+(j-i-1)+1=j by lia,au,au,ao b,ao f] at this;exact this
 ·intro g;unfold Gu;rw[af];intro k c;have c:=aU.mp c;have:=dr.mp g k (k+1) 'o' 'o' 'o';rw[au,au,ao 'o',ao 'o'];exact decide_eq_true this
def Mz(n:Nat)(ds:List D):Bool:=ds.all (DH n)&&Gu (ds.map zh)
def zct{n:Nat}{ds:List D}(h:ds.all (DH n)=Jg):ds=(ds.map zh).map D.str/\∀cs∈ds.map zh,cs∈YP n:=by
 have a:∀d∈ds,d=.str (zh d)/\zh d∈YP n:=λd b=>by
  have:=af.mp h d b;cases d with
  | str w=>
   have this:(w.length==n&&w.all sgn)=Jg:=this;rw[aT] at this;exact⟨rfl,HM n w ⇑this.1 (af.mp this.2)⟩
  |_=>cases this
 constructor
 ·rw[aZ]
  conv=>lhs;rw[<- i0 ds]
  exact dj λd b=>(a d b).1
 ·intro cs c;obtain⟨d,b,rfl⟩:=av.mp c;exact(a d b).2
section
variable{n:Nat}(h1:1<=n)(h4:n<=4){ds:List D}(hd:∀d∈ds,Jt d)(hl:ds.length<100)(O:Ow)
include hd hl
theorem Ug:IE [.int (n:Nat),.tup ds] O=.ok (.bl (Mz n ds)) O:=by show fin (Ur [n_ (n:Nat),oQ ds] O)=_;refine rh (uC (O1:=O) (tD (tF (b:=Jg) rfl)) (qO (Eg (qE (oP ((vd (l:=ds) (by rw[jE];exact Am rfl) 'o' (λ_=>rfl) (λd h=>oY (o_ rfl rfl) (z8G n (hd d h) O))).trans rfl)) (C2 O ds (DH n))) λa=>oY (oP rfl) ?_)));have e:=(zct a).1;have r:=zcH (l:=ds.map zh) (by rw[aA];lia) O;rw[<- e] at r;exact r
include h1 h4
end
def zec{n:Nat}{f:List D}(a:Fn n f)(O:Ow):Ay [.tup f,.int 1] O=.ok (.lst (((aM (2 ^ n)).filter λp=>BM (f.getD p .non)).map λ(p:Nat)=>D.int (p:Int))) O:=by
 have e:=Bu a.n4;have b:He (a_ i_ f_) [oQ f,n_ 1] O=.ok (.val (yj f)) O:=rfl;have h:=Bt (o:=Jh) (ext:=2) (g:=.two 2 3) (ts:=[(o8 (h_ (pj rl) pQ oZ))]) (te:=pG 2) (inj:=λ(p:Nat)=>D.tup [.int (p:Int),f.getD p .non])
  b (λi=>by
   rw[Um];show(yj f)[i]?=_;rw[S9];by_cases b:i<2 ^ n
   ·have d:i<f.length:=by rw[a.len];exact b
    rw[Ji b,ao d];show Jd (D.tup [.int (i:Nat),f[i]])=_;rw[Ak d]
   ·rw[Jk b,aY.mpr (by rw[a.len];lia)];rfl) (by
   show(yj f).length=_;unfold yj;simp[a.len]) (by rw[dN];lia) (λk _=>rfl) (λp c=>Et (by
   have c:=aU.mp c;have j:u4 (f.getD p .non):=by
    rw[Ak (by rw[a.len];exact c)];exact a.ans _ (cm _)
   exact rK ((qD rfl rfl).trans (eq1 O j)))) (λp _ _=>rfl)
 show fin (oX _ [oQ f,n_ 1] O)=_;rw[qO (h.trans rfl)];rfl
def Ik{n:Nat}{f:List D}(a:Fn n f)(O:Ow):Ay [.tup f,.int 1] O=.ok (.lst (oR (pV f))) O:=by rw[zec a O];unfold pV oR;rw[a.len]
def Hj(O:Ow)(k:Nat)(l:g_):uJ O (.int (k:Nat)) (.lst (oR l))=.ok (.bl (l.contains k)) O:=
 (GJ O (l:=oR l) rfl (Kx 7 l) (.inl rfl) (by
  rw[aW];unfold oR;rw[av];constructor
  ·intro h;exact⟨k,h,rfl⟩
  ·rintro⟨j,h,e⟩;injection e with e;have:j=k:=by lia
   rw[<- this];exact h)).1
section
variable{n:Nat}{f:List D}(hf:Fn n f){l:m_}(ht:∀t∈l,t∈YP n)(hlen:l.length<100)(O:Ow)
include hf ht hlen
theorem zb0(p:Nat):Md [.tup (l.map .str),.int (p:Nat)] O=.ok (.lst ((l.filter λt=>(o4 t).contains p).map .str)) O:=by show fin (Ma [oQ (l.map .str),n_ (p:Nat)] O)=_;exact zm ((CD (Am rfl) 'o' (λ_=>rfl) (λt h=>rK (qF rfl (oY (oP rfl) (EW (uk hf.n1 hf.n4 (ht t h)) O)) (Hj O p _))) (λ_ _ _=>rfl)).trans rfl)
def FA(f:List D)(l:m_):Bool:=l.all (q9 f)&&Dk f l
theorem Tw(c:IE [.int (n:Nat),.tup (l.map .str)] O=.ok (.bl Jg) O):EH [.tup f,.tup (l.map .str)] O=.ok (.bl (FA f l)) O:=by
 have d:=Br hf;have a:=qE (oP ((vd (o:=Jh) (ext:=1) (i:=2) (σ:=[oQ f,oQ (l.map .str)]) (it0:=pA oZ) (te:=k_ 2 zw (a_ i_ qY)) (Am rfl) 'o' (λ_=>rfl) (λt h=>oY (o_ rfl rfl) (Lc hf (ht t h) O))).trans rfl)) (C2 O l (q9 f));show fin (Lu [oQ f,oQ (l.map .str)] O)=_;unfold Lu FA;refine rh (xJ (oY (oP rfl) (CU hf O)) (uC (tD (tF (oY (o_ (oY (oP rfl) (LW hf O)) rfl) c))) ?_));cases b:l.all (q9 f) with
 | false=>
  rw[b] at a;exact yp (tD (tF a)) rfl
 | true=>
  rw[b] at a;refine uC (tD (tF a)) (qO (qE (oP ((vd (sV (oY (o_ rfl rfl) (Ik hf O))) 'o' (λ_=>rfl) (λp e=>?_)).trans rfl)) (C2 O (pV f) λp=>l.any λt=>(o4 t).contains p)));refine(qF (oY (o_ rfl rfl) (zb0 hf ht hlen O p)) rfl (Zw O hf.n1 hf.n4 λt h=>ht t (aB.mp h).1)).trans ?_;rw[HP,List.all_eq_not_any_not];simp
end
def z8r{n:Nat}(a:1<=n)(b:n<=4)(O:Ow):AA [.int n] O=.ok (.lst ((YP n).map .str)) O:=by
 rcases vw a b with rfl|rfl|rfl|rfl
 ·exact z6M O
 ·exact z7g O
 ·exact z79 O
 ·exact z7q O
def z7j{n:Nat}{f:List D}(a:Fn n f)(O:Ow):HZ [.tup f] O=.ok (.lst ((tS n f).map .str)) O:=by
 have c:pA (k_ 1 AA (a_ (k_ 1 C8 (a_ i_ f_)) f_)) [oQ f] O=.ok (.val ((YP n).map .str)) O:=
  sV ((tW (oP ((tW (oP rfl) rfl).trans (LW a O))) rfl).trans (z8r a.n1 a.n4 O))
 have e:=Ly (ext:=1) (i:=1) (ts:=[(qk (k_ 2 zw (a_ i_ pv)))]) (te:=pG 1) (p:=λd=>q9 f (zh d)) c (by have:=SM a.n1 a.n4;simp;lia) (λd g=>by
  obtain⟨b,h,rfl⟩:=av.mp g;have j:qk (k_ 2 zw (a_ i_ pv)) [oQ f,qV b] O=.ok (q9 f b) O:=tF ((tW (o_ rfl rfl) rfl).trans (Lc a h O));show((qk (k_ 2 zw (a_ i_ pv)) [oQ f,qV b] O).bnd _)=R.ok (q9 f b) O;rw[j];cases q9 f b<;>rfl) (λd g _=>rfl) Jh
 rw[zb4] at e;show fin (oM (rg (k_ 1 yA (a_ i_ f_))) _ [oQ f] O)=_;have k:k_ 1 yA (a_ i_ f_) [oQ f] O=.ok .non O:=(tW (oP rfl) rfl).trans (CU a O);rw[tX (Hz k),qO e];rfl
def zb3{n:Nat}{a b c:g_}(e:q0 n a b=Jg)(f:q0 n b c=Jg):q0 n a c=Jg:=Kz λk d=>by
 rcases Ht f d with z|z
 ·exact .inl z
 ·rcases Ht e d with y|y
  ·exact .inl (z.trans y)
  ·exact .inr (z.trans y)
def Co(n:Nat)(l:m_):m_:=l.filter λt=>!(l.any λo=>decide (t≠o)&&q0 n t o)
def nZ{n:Nat}{l:m_}{t:g_}:t∈Co n l↔t∈l/\∀o∈l,q0 n t o=Jg->t=o:=by
 unfold Co;rw[aB];refine and_congr_right λ_=>?_;rw[ei,gY];constructor
 ·intro h o a c;have:=h o a;simp only[aT,decide_eq_true_eq,not_and] at this;exact b9 λd=>this d c
 ·intro h o a b;simp at b;exact b.1 (h o a b.2)
def GD(n:Nat)(a:g_):Nat:=(aM n).countP λk=>a.getD k 0==45
theorem Tc{α:Type}{p q:α->Bool}:∀(l:List α),(∀x∈l,p x=Jg->q x=Jg)->(∃x∈l,q x=Jg/\p x=Jh)->l.countP p<l.countP q
 |[],_,h=>by obtain⟨_,h,_⟩:=h;cases h
 | x::l,h,he=>by
  have e:=kA λy hy=>h y (ak _ hy);rw[my,my];obtain⟨y,hy,b,c⟩:=he;rcases ar.mp hy with rfl|hy
  ·rw[b,c];simp;lia
  ·have f:=Tc l (λy hy=>h y (ak _ hy)) ⟨y,hy,b,c⟩;have d:=h x am;by_cases a:p x=Jg
   ·rw[Ji a,Ji (d a)];lia
   ·rw[Jk a];lia
def QM{n:Nat}{a b:g_}(f:a.length=n)(g:b.length=n)(h:q0 n a b=Jg)(i:a≠b):GD n a<GD n b:=by
 refine Tc _ (λk c d=>?_) ?_
 ·have d:a.getD k 0=45:=⇑d
  rcases Ht h (aU.mp c) with z|z
  ·simpa using z
  ·rw[z,d];rfl
 ·refine b9 λj=>i (zfz f g λk c=>?_);rcases Ht h c with z|z
  ·refine b9 λe=>j ⟨k,aU.mpr c,by simpa using z,?_⟩;rw[z] at e;simpa using e
  ·exact z.symm
def ZS(n:Nat)(a:g_):GD n a<=n:=by have:=List.countP_le_length (p:=λk=>a.getD k 0==45) (l:=aM n);rw[dN] at this;exact this
theorem R0{n:Nat}{l:m_}(b:∀t∈l,t.length=n):∀(f:Nat)(s:g_),s∈l->n<=GD n s+f->∃t∈Co n l,q0 n s t=Jg
 | 0,s,hs,hd=>⟨s,nZ.mpr ⟨hs,λo a h=>b9 λc=>by
   have:=QM (b s hs) (b o a) h c;have:=ZS n o;lia⟩,SW n s⟩
 | f+1,s,hs,hd=>by
  by_cases d:s∈Co n l
  ·exact⟨s,d,SW n s⟩
  ·rw[nZ] at d;have:∃o∈l,q0 n s o=Jg/\s≠o:=b9 λe=>d ⟨hs,λo a h=>b9 λc=>e ⟨o,a,h,c⟩⟩;obtain⟨o,a,h,c⟩:=this;have j:=QM (b s hs) (b o a) h c;obtain⟨t,g,i⟩:=R0 b f o a 'o';exact⟨t,g,zb3 h i⟩
def NZ{n:Nat}{l:m_}(a:∀t∈l,t.length=n){s:g_}(b:s∈l):∃t∈Co n l,q0 n s t=Jg:=R0 a n s b 'o'
def zdc:(ou.all λq=>decide (o4 (Af q.1 q.2)=[q.2])&&decide (Af q.1 q.2∈YP q.1))=Jg:=by decide +kernel
def Qp{n:Nat}{f:List D}{t:g_}(b:t∈Co n (tS n f))(c:yu f t=Jg):t∈gr n f:=by obtain⟨d,e⟩:=nZ.mp b;refine aB.mpr ⟨d,?_⟩;unfold Cy;rw[c,gj,fx,fU];intro o g a;simp at a;exact a.1 (e o g a.2).symm
def Rq{n:Nat}{f:List D}(h:Fn n f):Dk f (gr n f)=Jg:=by
 have b:=h.n1;have c:=h.n4;unfold Dk;rw[af];intro p i;obtain⟨d,g⟩:=nO.mp i;have j:=d;rw[h.len] at d;have a:=af.mp zdc (n,p) (Hx b c d);simp at a;have o:tJ (f.getD p .non)=Jh:=by
  rw[Ak j] at g ⊢;rcases h.ans _ (cm j) with e|e|e<;>rw[e] at g ⊢ <;> first|rfl|cases g
 have q:Af n p∈tS n f:=aB.mpr ⟨a.2,by
  unfold q9;rw[a.1];simp only[eV,jF,gj,o];rfl⟩
 obtain⟨w,k,r⟩:=NZ (λt s=>sJ b c (Az s)) q;have l:=HC b c a.2 (Az (nZ.mp k).1) r (p:=p) (by rw[a.1];simp);rw[bL];refine⟨w,Qp k ?_,by simpa using l⟩;unfold yu;have m:p∈(pV f).filter λp=>(o4 w).contains p:=aB.mpr ⟨i,by simpa using l⟩;cases e:(pV f).filter λp=>(o4 w).contains p with
 |nil=>rw[e] at m;cases m
 |cons _ _=>rfl
def Cm(f:List D)(cs:g_):Bool:=(o4 cs).any λp=>BM (f.getD p .non)
def z6j{n:Nat}{f:List D}(a:Fn n f){cs:g_}(h:cs∈YP n)(O:Ow):Iu [.tup f,.str cs] O=.ok (.bl (Cm f cs)) O:=by
 have b:=uk a.n1 a.n4 h;have g:=sJ a.n1 a.n4 h;have c:pA (k_ 1 xK pv) [oQ f,qV cs] O=.ok (.val (oR (o4 cs))) O:=sV ((tW (oP rfl) rfl).trans (EW b O));have j:=vd (o:=Jh) (ext:=1) (i:=2) (te:=h_ (pj rl) (h_ pY i_ pO) qw) (e:=λp=>D.bl (BM (f.getD p .non))) c (by have:=Rb b;lia) (λ_=>rfl) (λq k=>by
  have d:q<f.length:=by rw[a.len,<- g];exact Kr b k
  refine(qD ((qD rfl rfl).trans (KJ d)) rfl).trans ((eq1 O (a.ans _ (cm d))).trans ?_);rw[Ak d])
 show fin (oX _ [oQ f,qV cs] O)=_;rw[qO ((vG (oP j)).trans (RQ O _ _))];rfl
def zfi(O:Ow):(allS.map λq=>Ih [.str q.1,.int (q.2:Nat),.str [45]] O)=allS.map λq=>R.ok (.str (q.1.set q.2 45)) O:=by kernel_rfl
def ZV{cs:g_}{k:Nat}(h:cs∈nH)(a:k<cs.length)(O:Ow):Ih [.str cs,.int (k:Nat),.str [45]] O=.ok (.str (cs.set k 45)) O:=cF.mp (zfi O) _ (zfF h a)
def Ae(f:List D)(cs:g_)(k:Nat):Bool:=cs.getD k 0 !=45&&q9 f (cs.set k 45)
def CV(f:List D)(cs:g_):Bool:=!(aM cs.length).any (Ae f cs)
def XF{n:Nat}{f:List D}(a:Fn n f){cs:g_}(h:cs∈YP n){k:Nat}(b:k<cs.length)(O:Ow):Iq [.tup f,.str cs,.int (k:Nat)] O=.ok (.bl (Ae f cs k)) O:=by
 have d:=uk a.n1 a.n4 h;have g:cs.length<=4:=by rw[sJ a.n1 a.n4 h];exact a.n4
 have e:=HG a.n1 a.n4 h _ (cm b);show fin (Ip [oQ f,qV cs,n_ (k:Nat)] O)=_;unfold Ip Ae;rw[K_ b];simp only[oM,pN,qc,oX,rg,qe,pG,dC,a_,f_,k_,oO,h_,o8,qk,qS,DN,R.bnd,R.bnS,fin,fz,fA,fP,gM,bg,fK,f9,jl,im,jG,if_true,if_false,fF,iV,cy,ite_true,ite_false,xD];rw[show pY O (D.str cs) (D.int (k:Nat))=.ok (.str [cs[k]]) O from Qn 'o' b];simp only[oM,pN,qc,oX,rg,qe,pG,dC,a_,f_,k_,oO,h_,o8,qk,qS,DN,R.bnd,R.bnS,fin,fz,fA,fP,gM,bg,fK,f9,jl,im,jG,if_true,if_false,fF,iV,cy,ite_true,ite_false,zih O e];cases i:(cs[k] !=45) with
 | true=>
  simp only[oM,pN,qc,oX,rg,qe,pG,dC,a_,f_,k_,oO,h_,o8,qk,qS,DN,R.bnd,R.bnS,fin,fz,fA,fP,gM,bg,fK,f9,jl,im,jG,if_true,if_false,fF,iV,cy,ite_true,ite_false,ZV d b O,Lc a (HY a.n1 a.n4 h (c:=45) rfl) O,kU]
 |false=>simp only[oM,pN,qc,oX,rg,qe,pG,dC,a_,f_,k_,oO,h_,o8,qk,qS,DN,R.bnd,R.bnS,fin,fz,fA,fP,gM,bg,fK,f9,jl,im,jG,if_true,if_false,fF,iV,cy,ite_true,ite_false,j6]
def zdm{n:Nat}{f:List D}(a:Fn n f){cs:g_}(h:cs∈YP n)(O:Ow):Io [.tup f,.str cs] O=.ok (.bl (CV f cs)) O:=by
 have e:cs.length<=4:=by rw[sJ a.n1 a.n4 h];exact a.n4
 have b:vf (a_ (oO p8 pv) f_) [oQ f,qV cs] O=.ok (.val ((aM cs.length).map λ(i:Nat)=>D.int (i:Int))) O:=Hu (oP ((vG (oP rfl)).trans (R1 'o'))) 'o';have c:=vd (o:=Jh) (ext:=1) (i:=2) (te:=k_ 3 Iq (a_ i_ (a_ oZ qY))) b (by rw[dN];lia) (λ_=>rfl) (λk d=>by
  exact(tW (Ar rfl (o_ rfl rfl)) rfl).trans (XF a h (aU.mp d) O))
 show fin (Ii [oQ f,qV cs] O)=_;unfold Ii CV;have:=(vG (oP c)).trans (RQ O _ _);unfold oX DJ;rw[this];rfl
def NB(f:List D)(cs:g_):Bool:=Cm f cs&&CV f cs
def Hf(n:Nat)(f:List D):m_:=(tS n f).filter (NB f)
def zfg{n:Nat}{f:List D}{cs:g_}(h:cs∈tS n f):cs∈YP n/\q9 f cs=Jg:=aB.mp h
def Lq{n:Nat}{f:List D}(a:Fn n f)(O:Ow):Av [.tup f] O=.ok (.lst ((Hf n f).map .str)) O:=by
 have c:pA (k_ 1 HZ (a_ i_ f_)) [oQ f] O=.ok (.val ((tS n f).map .str)) O:=sV ((tW (oP rfl) rfl).trans (z7j a O));have d:=CD (o:=Jh) (ext:=1) (i:=1) (t:=yn (qk (k_ 2 Iu (a_ i_ pv))) (qk (k_ 2 Io (a_ i_ pv)))) (te:=pG 1) c (by have:=zc1 a;lia) (λ_=>rfl) (λe g=>by
  obtain⟨b,h⟩:=zfg g;exact R5 (tF ((tW (o_ rfl rfl) rfl).trans (z6j a b O))) λ_=>tF ((tW (o_ rfl rfl) rfl).trans (zdm a b O))) (λe _ _=>rfl)
 show fin (HQ [oQ f] O)=_;unfold HQ;rw[qO (d.trans rfl)];rfl
theorem OA{α:Type}{src:Src}{step:D->Ow->List D->R (List D)}{O:Ow}{inj:α->D}{g:α->D}{c:List α}(j:∀i,src.get O i=(c.map inj)[i]?)(k:∀b a r,c=b++a::r->step (inj a) O (b.map g)=.ok (b.map g++[g a]) O):∀(ds b:List α)(f:Nat),c=b++ds->ds.length<=f->pR src step f b.length O (b.map g)=.ok (c.map g) O
 | [],b,f,ha,_=>by
  have e:src.get O b.length=Jf:=by rw[j,ha];simp
  have l:c=b:=by rw[ha];simp
  cases f<;>(unfold pR;rw[e,l])
 |d::ds,b,0,_,h=>by simp at h
 | d::ds,b,f+1,ha,h=>by
  unfold pR;have e:src.get O b.length=Jd (inj d):=by rw[j,ha];simp
  rw[e];show((step (inj d) O (b.map g)).bnd λm n=>pR src step f (b.length+1) n m)=_;rw[k b d ds ha];have:=OA j k ds (b++[d]) f (by rw[ha];simp) ⇑h;rw[aw,eR,cA] at this;exact this
def RI{α:Type}{ext i:Nat}{it0:DI}{tk tv:DE}{σ:Sg}{O O0:Ow}{l:List α}{inj key val:α->D}{kk:α->DK}{τ:α->Sg}(m:it0 σ O0=.ok (.val (l.map inj)) O)(v:l.length<1000)(h:(l.map kk).Nodup)
  (n:∀a,(pf (pf (σ++aH ext Jf) [i]) [i]).set i (Jd (inj a))=τ a) (o:∀a∈l,tk (τ a) O=.ok (key a) O) (p:∀a∈l,vq (key a)=Jd (kk a)) (q:∀a∈l,tv (τ a) O=.ok (val a) O):
  xl ext it0 (.one i) [] [] tk tv σ O0=.ok (.map (l.map kk) (l.map val)) O:=by
 unfold xl Ao;rw[m];show((vM (pR (.val (l.map inj)) _ ((l.map inj).length) 0 O [])).bnd _)=_;have w:=OA (src:=.val (l.map inj)) (step:=tR ⟨it0,.one i,[]⟩ [] (AR tk tv) (pf (σ++aH ext Jf) (pK [⟨it0,.one i,[]⟩]))) (λ_=>rfl) (λc a r f=>by
  have g:a∈l:=by rw[f];simp
  show(match (Jd ((pf (pf (σ++aH ext Jf) [i]) [i]).set i (Jd (inj a))):Option Sg) with|some qj=>(r8 [] qj O).bnd λb j=>if b=Jg then ug [] (AR tk tv) qj j (c.map λa=>rT (kk a,val a)) else .ok (c.map λa=>rT (kk a,val a)) j|none=>.bad)=_;rw[n a];show((tk (τ a) O).bnd _)=_;rw[o a g];show(match vq (key a) with|some k=>_|none=>_)=_;rw[p a g];rw[q a g];have d:(c.map λa=>rT (kk a,val a)).length<1000:=by
   rw[aA];have:=congrArg jX f;simp at this;lia
  have s:(c.map λa=>rT (kk a,val a)).any (Cw (kk a))=Jh:=by
   rw[gY];intro x t;obtain⟨b,u,rfl⟩:=av.mp t;have:kk b≠kk a:=by
    rw[f,cA,br,e8] at h;exact h.2.2 _ (av.mpr ⟨b,u,rfl⟩) _ am
   show ¬ decide (kk b=kk a)=Jg;rw[decide_eq_true_eq];exact this
  show(if _/\_ then R.ok _ O else R.bad)=_;rw[Ji ⟨d,s⟩];rfl) l [] ((l.map inj).length) rfl 'd'
 rw[show pR (.val (l.map inj)) _ ((l.map inj).length) 0 O []=_ from w];show R.ok (D.map (Dh (l.map λa=>rT (kk a,val a))) (Di (l.map λa=>rT (kk a,val a)))) O=_;have e:(l.map λa=>rT (kk a,val a))=(l.map λa=>(kk a,val a)).map rT:=by rw[aZ];rfl
 rw[e,KL,KD,aZ,aZ];rfl
theorem Ts{α:Type}{kk:α->DK}{val:α->D}{a:α}:∀{l:List α},a∈l->(l.map kk).Nodup->vD (kk a) (l.map kk) (l.map val)=Jd (val a)
 |[],h,_=>by cases h
 | b::l,h,hn=>by
  rw[br,bo] at hn;show(if kk b=kk a then Jd (val b) else vD (kk a) (l.map kk) (l.map val))=_;rcases ar.mp h with rfl|h
  ·rw[Ji rfl]
  ·rw[Jk (λe=>hn.1 (by rw[e];exact av.mpr ⟨a,h,rfl⟩))];exact Ts h hn.2
def Qw{c a:DE}{σ:Sg}{O:Ow}{b:List DK}{ds:List D}{y d:D}{k:DK}(e:c σ O=.ok (.map b ds) O)(f:a σ O=.ok y O)(g:vq y=Jd k)(h:vD k b ds=Jd d):CG c a σ O=.ok d O:=by unfold CG;rw[e];show((a σ O).bnd _)=_;rw[f];show(match vq y with|some k=>_|none=>_)=_;rw[g];show(match vD k b ds with|some d=>R.ok d O|none=>R.bad)=_;rw[h]
def Sl{n:Nat}(a:1<=n)(b:n<=4):(YP n).Pairwise (· < ·):=by rcases vw a b with rfl|rfl|rfl|rfl<;>decide +kernel
theorem SI(x:g_):∀l:m_,(uO x l).length<=l.length+1
 |[]=>by simp[uO]
 | y::r=>by
  unfold uO;split
  ·simp
  ·split
   ·simp
   ·have:=SI x r;simp;lia
def HJ(c:m_):(pM c).length<=c.length:=by
 have:∀(l b:m_),(l.foldl (λl x=>uO x l) b).length<=b.length+l.length:=λl=>by
  induction l with
  |nil=>intro b;simp
  | cons a l ih=>
   intro b;rw[dQ];have d:=ih (uO a b);have e:=SI a b;rw[bg];lia
 have h:=this c [];simpa [pM] using h
def Pc{n:Nat}{f:List D}(a:Fn n f):(gr n f).Pairwise (· < ·):=((Sl a.n1 a.n4).filter _).filter _
def zgL{n:Nat}{f:List D}{t o:g_}(b:t∈gr n f)(c:o∈gr n f)(d:q0 n t o=Jg):t=o:=by
 have a:=(aB.mp b).2;unfold Cy at a;rw[aT,HP] at a;have:=af.mp a.1 o (aB.mp c).1;rw[d] at this;by_cases e:o=t
 ·exact e.symm
 ·simp[e] at this
def XQ{n:Nat}{f:List D}(b:Fn n f):(gr n f).length<=54:=by
 have k:=b.n1;have l:=b.n4;by_cases m:n<=3
 ·have a:(YP n).length<=54:=by
   have:n=1\/n=2\/n=3:=by lia
   rcases this with rfl|rfl|rfl<;>decide
  exact aG (aG (a7 _ _) (a7 _ _)) a
 ·have:n=4:=by lia
  subst this;have e:gr 4 f=(YP 4).filter λt=>Cy 4 f t&&q9 f t:=by
   unfold gr tS;rw[lO]
  rw[e];refine zgn λt c o d g h a=>?_;have i:t∈gr 4 f:=by rw[e];exact aB.mpr ⟨c,g⟩
  have j:o∈gr 4 f:=by rw[e];exact aB.mpr ⟨d,h⟩
  exact zgL i j a
def XC{c:Nat}(h:sgn c=Jg):c∈A7:=by unfold sgn at h;simp at h;rcases h with(rfl|rfl)|rfl<;>decide
def zfH{n:Nat}(a:1<=n)(b:n<=4){cs:g_}(h:cs∈YP n):Jt (.str cs):=.inl ⟨cs,rfl,λc d=>XC (HG a b h c d),by rw[sJ a b h];lia⟩
def Tr{n:Nat}(a:1<=n)(b:n<=4){l:m_}(h:∀t∈l,t∈YP n):∀d∈l.map D.str,Jt d:=λd c=>by
 obtain⟨e,f,rfl⟩:=av.mp c;exact zfH a b (h e f)
def zeo{n:Nat}(a:1<=n)(b:n<=4){cs:g_}(h:cs∈YP n):DH n (.str cs)=Jg:=by show(cs.length==n&&cs.all sgn)=Jg;rw[sJ a b h,af.mpr (HG a b h)];simp
def Qo{n:Nat}(b:1<=n)(c:n<=4){l:m_}(h:∀t∈l,t∈YP n)(f:l.Pairwise (· < ·)):Mz n (l.map D.str)=Jg:=by
 unfold Mz;have e:(l.map D.str).map zh=l:=by
  rw[aZ];exact(dj λa _=>rfl).trans (i0 l)
 rw[e,oE.mpr f,gj,af];intro d g;obtain⟨i,j,rfl⟩:=av.mp g;exact zeo b c (h i j)
section
variable{n m:Nat}{g:List D}(hg:Fn n g){O:Ow}{b:Bool}
def OO(O:Ow)(m:Nat)(b:Bool)(s:Int)(L Fd:m_):Ow:=O.set m [.int s,.bl b]++[L.map .str,Fd.map .str]
def E7(O:Ow)(m:Nat)(g:List D)(mo:Bool):Sg:=[qm m,oQ g,qm O.length,qm (O.length+1),BD mo]
include hg
theorem zon{s:Int}(j:nE (O.set m [.int s,.bl b]) m s b){L Fd:m_}(l:(Fd++L).Perm (gr n g))(o:L≠[]){e:Bool}:
  ∃a r,∃z:r<L.length,JN (E7 O m g e) (OO O m b s L Fd)=.nx (E7 O m g e) (OO O m b a (L.eraseIdx r) (Fd++[L[r]]))/\nE (O.set m [.int a,.bl b]) m a b:=by
 have c:∀a,(O.set m [D.int a,D.bl b]).length=O.length:=λa=>ck;have A:=XQ hg;have p:=l.length_eq;rw[aw] at p;have B:=k7.mpr o;obtain⟨r,a,f,q,t⟩:=HK j [L.map .str,Fd.map .str] (k:=L.length) 'o' 'o';refine⟨a,r,f,?_,t⟩;unfold JN;have u:(((r:Nat):Int)).toNat=r:=by lia
 have v:CN pO (a_ (k_ 2 sh (a_ i_ (a_ (oO p8 qY) f_))) f_) (E7 O m g e) (OO O m b s L Fd)=.ok (.str L[r]) (OO O m b a (L.eraseIdx r) Fd):=by
  have w:a_ (k_ 2 sh (a_ i_ (a_ (oO p8 qY) f_))) f_ (E7 O m g e) (OO O m b s L Fd)=.ok [.int (r:Nat)] (OO O m b a L Fd):=
   oP (oY (o_ rfl (qE (oP rfl) ((QZ (O:=OO O m b s L Fd) (x:=.own O.length) (DV (c s))).trans (by rw[aA];rfl)))) q)
  show(((a_ _ _ (E7 O m g e) (OO O m b s L Fd)).bnd λy h=>match y,h[O.length]? with|[.int i],Jd ds=>if 0<=i/\i<4000000 then (match ds[i.toNat]? with|some d=>R.ok d (h.set O.length (ds.eraseIdx i.toNat))|none=>R.bad) else R.bad|_,_=>R.bad))=_;rw[w];show(match [D.int (r:Nat)],(OO O m b a L Fd)[O.length]? with|[.int i],Jd ds=>if 0<=i/\i<4000000 then (match ds[i.toNat]? with|some d=>R.ok d ((OO O m b a L Fd).set O.length (ds.eraseIdx i.toNat))|none=>R.bad) else R.bad|_,_=>R.bad)=_;rw[show(OO O m b a L Fd)[O.length]?=Jd (L.map .str) from DV (c a)];dsimp only;rw[Ji 'o',u,bd,ao f];dsimp;congr 1;rw[Ls];exact Ot (c a)
 rw[K7 rfl v (J6 (c a)) (by rw[aA];lia)];congr 1;unfold OO;rw[OD (c a),cA];rfl
end
def Bn{a:DA}{σ:Sg}{O O1:Ow}{ds:List D}(h:a σ O=.ok ds O1)(b:ds.length<=4000000):uc a σ O=.ok (.tup ds) O1:=by show((a σ O).bnd _)=_;rw[h];show(if ds.length<=4000000 then _ else _)=_;rw[Ji b]
structure Sub(ds l:List D)(lo hi:Option Int):Prop where
 mem:∀d∈l,d∈ds
 len:l.length<=ds.length
 cut:l.length<=HT.sIx ds.length ds.length hi-HT.sIx ds.length 0 lo
def Wj(O:Ow){xs a:List D}(b:xs.length+a.length<=4000000):vC O (.tup xs) (.tup a)=.ok (.tup (xs++a)) O:=by
 cases xs with
 |nil=>rfl
 | cons x xs=>
  show(if x::xs≠[]/\(x::xs).length+a.length<=4000000 then R.ok (D.tup (x::xs++a)) O else R.bad)=_;rw[Ji ⟨by simp,b⟩]
section
variable{n:Nat}(h1:1<=n)(h4:n<=4){l:m_}(pW:∀t∈l,t∈YP n)(hlen:l.length<=54)
include h1 h4 pW hlen
end
theorem Lw{α:Type}{src:Src}{step:D->Ow->List D->R (List D)}{O:Ow}{inj:α->D}{g:α->List D}{l:List α}{Ja:List D}(b:∀i,src.get O i=(l.map inj)[i]?)(c:∀(i:Nat)a,l[i]?=Jd a->step (inj a) O (Ja++(l.take i).flatMap g)=.ok (Ja++(l.take (i+1)).flatMap g) O):
  ∀(f i:Nat),i<=l.length->l.length<=i+f->pR src step f i O (Ja++(l.take i).flatMap g)=.ok (Ja++l.flatMap g) O
 | 0,i,h1,h2=>by
  have:i=l.length:=by lia
  subst this;have e:src.get O l.length=Jf:=by rw[b];simp
  unfold pR;rw[e,jB]
 | f+1,i,h1,h2=>by
  by_cases h:i=l.length
  ·subst h;have e:src.get O l.length=Jf:=by rw[b];simp
   unfold pR;rw[e,jB]
  ·have d:i<l.length:=by lia
   have e:src.get O i=Jd (inj l[i]):=by rw[b,bd,ao d];rfl
   unfold pR;rw[e];show((step (inj l[i]) O (Ja++(l.take i).flatMap g)).bnd _)=_;rw[c i l[i] (ao d)];exact Lw b c f (i+1) 'o' 'o'
def Lx{α β:Type}{g:α->List β}{l:List α}{i:Nat}{a:α}(h:l[i]?=Jd a):(l.take (i+1)).flatMap g=(l.take i).flatMap g++g a:=by rw[km,h,k8];simp
def z84{α β:Type}{g:α->List β}(l:List α)(i:Nat):((l.take i).flatMap g).length<=(l.flatMap g).length:=by
 conv=>rhs;rw[<- bO i l]
 rw[k8,aw];lia
def PR{α β:Type}{ext:Nat}{it0 c:DI}{i j:Nat}{ts:List DT}{te:DE}{σ:Sg}{O O0:Ow}{src:Src}{l:List α}{inj:α->D}{m:α->List β}{inj2:β->D}{p:α->β->Bool}{e:α->β->D}{τ:α->Sg}{h:α->β->Sg}{o:Bool}
  (A:it0 σ O0=.ok src O) (B:∀i,src.get O i=(l.map inj)[i]?) (hsz:src.size O=l.length) (u:(l.flatMap m).length<1900000)
  (C:∀a,(pf (pf (σ++aH ext Jf) [i,j]) [i,j]).set i (Jd (inj a))=τ a) (E:∀a b,(pf (τ a) [j]).set j (Jd (inj2 b))=h a b)
  (F:∀a∈l,c (τ a) O=.ok (.val ((m a).map inj2)) O) (G:∀a∈l,∀b∈m a,r8 ts (h a b) O=.ok (p a b) O) (H:∀a∈l,∀b∈m a,te (h a b) O=.ok (e a b) O):
  pB o ext it0 (.one i) [] [⟨c,.one j,ts⟩] te σ O0=ua o (.ok (l.flatMap λa=>((m a).filter (p a)).map (e a)) O):=by
 unfold pB yw;rw[A];show ua o (vM (pR src _ (src.size O) 0 O []))=_;have I:∀(a:α)(k:List β),(k.flatMap λb=>if p a b=Jg then [e a b] else []).length<=k.length:=λa k=>by
  rw[EO,aA];exact a7 _ _
 have J:∀k:List α,(k.flatMap λa=>((m a).filter (p a)).map (e a)).length<=(k.flatMap m).length:=λk=>by
  induction k with
  |nil=>simp
  | cons x k ih=>
   rw[cg,cg,aw,aw,aA];have:=a7 (p x) (m x);lia
 have w:=Lw (step:=xh ⟨it0,.one i,[]⟩ [⟨c,.one j,ts⟩] te (pf (σ++aH ext Jf) (pK [⟨it0,.one i,[]⟩,⟨c,.one j,ts⟩]))) B (λk a r=>by
  have s:=aN r;show r_ [⟨c,.one j,ts⟩] te ((pf (pf (σ++aH ext Jf) [i,j]) [i,j]).set i (Jd (inj a))) O _=_;rw[C];show((c (τ a) O).bnd _)=_;rw[F a s];have t:=z84 (g:=m) l (k+1);rw[Lx r,aw] at t;have M:=J (l.take k);rw[Lx r];have v:=Lw (src:=.val ((m a).map inj2)) (step:=λd K Ja=>match Tg.put (.one j) d (pf (τ a) (pK [⟨c,.one j,ts⟩])) with|some qj=>(r8 ts qj K).bnd λb f=>if b=Jg then r_ [] te qj f Ja else .ok Ja f|none=>.bad) (g:=λb=>if p a b=Jg then [e a b] else []) (Ja:=[]++(l.take k).flatMap λa=>((m a).filter (p a)).map (e a)) (λ_=>rfl) (λq b y=>by
   have z:=aN y;show((r8 ts ((pf (τ a) [j]).set j (Jd (inj2 b))) O).bnd λL f=>if L=Jg then r_ [] te ((pf (τ a) [j]).set j (Jd (inj2 b))) f _ else .ok _ f)=_;rw[E,G a s b z,Lx y];show(if p a b=Jg then r_ [] te (h a b) O _ else .ok _ O)=_;have N:=I a ((m a).take q);have P:=List.length_take_le' q (m a);by_cases n:p a b=Jg
   ·rw[Ji n,Ji n];unfold r_;rw[H a s b z];show(if _<4000000 then _ else _)=_;rw[Ji (by rw[dP,aw];lia)];simp
   ·rw[Jk n,Jk n,bF]) ((m a).map inj2).length 0 (bN _) 'd'
  rw[mT,mz,bF,EO] at v;refine Eq.trans (v) ?_;rw[dP];rfl) l.length 0 (bN _) 'd'
 rw[mT,mz,bF,dP] at w;rw[hsz,w];rfl
theorem LJ{α β:Type}{f g:α->List β}:∀{l:List α},(∀a∈l,f a=g a)->l.flatMap f=l.flatMap g
 |[],_=>rfl
 |x::l,h=>by rw[cg,cg,h x am,LJ λa b=>h a (ak _ b)]
def t9(p q:Nat):Bool:=decide (p<q)&&[1,2,4,8].contains (p^^^q)
def oD:List (Nat×Nat):=(aM 16).flatMap λp=>(aM 16).map λq=>(p,q)
def zfW{p q:Nat}(a:p<16)(b:q<16):(p,q)∈oD:=cf.mpr ⟨p,aU.mpr a,av.mpr ⟨q,aU.mpr b,rfl⟩⟩
def Y8(O:Ow)(a b:Option D):(oD.map λq=>tP [a,b,n_ (q.1:Nat),n_ (q.2:Nat)] O)=oD.map λq=>R.ok (t9 q.1 q.2) O:=by kernel_rfl
def pr(q:Nat×Nat):D:=.tup [.int (q.1:Nat),.int (q.2:Nat)]
def GQ(f:List D)(p:Nat):List (Nat×Nat):=((pV f).filter (t9 p)).map λq=>(p,q)
def tG(f:List D):List (Nat×Nat):=(pV f).flatMap (GQ f)
def Q6{n:Nat}{f:List D}(a:Fn n f){p:Nat}(h:p∈pV f):p<16:=by have b:=(nO.mp h).1;have c:=Bu a.n4;have d:=a.len;lia
theorem CZ{α β:Type}{g:α->List β}{k:Nat}:∀l:List α,(∀a∈l,(g a).length<=k)->(l.flatMap g).length<=l.length*k
 |[],_=>by simp
 | x::l,h=>by
  rw[cg,aw,bg,lJ];have:=h x am;have:=CZ l λa b=>h a (ak _ b);lia
def zg4{n:Nat}{f:List D}(a:Fn n f)(p:Nat):(GQ f p).length<=16:=by unfold GQ;rw[aA];exact aG (a7 _ _) (Br a)
def Ho{n:Nat}{f:List D}(b:Fn n f):(tG f).length<=256:=by have c:=CZ (pV f) λa _=>zg4 b a;have d:=Br b;unfold tG;lia
def K3{n:Nat}{f:List D}(c:Fn n f)(O:Ow):Bp [.tup f] O=.ok (.lst ((tG f).map pr)) O:=by
 have h:=Br c;let A:Option D:=oQ f;let S:Option D:=qu (oR (pV f));show fin (QH [A,Jf] O)=_;refine rh (xJ (oY (oP rfl) (CU c O)) (rE (oY (o_ rfl rfl) (Ik c O)) (qO ?_)));refine(PR (p:=t9) (e:=λp q=>pr (p,q)) (sV rfl) (λ_=>rfl) ?_ ?_ (λ_=>rfl) (λ_ _=>rfl) (λa d=>sV rfl) (λa d b g=>Et ?_) (λa d b g=>?_)).trans ?_
 ·show(oR (pV f)).length=_;unfold oR;rw[aA]
 ·have:=CZ (pV f) λa _=>h;lia
 ·exact cF.mp (Y8 O A S) (a,b) (zfW (Q6 c d) (Q6 c g))
 ·exact Bn (o_ rfl rfl) (by show 2<=4000000;decide)
 ·show R.ok (D.lst _) O=_;congr 2;unfold tG GQ;rw[mB];refine LJ λa _=>?_;rw[aZ];rfl
def hold(t:g_)(q:Nat×Nat):Bool:=(o4 t).contains q.1&&(o4 t).contains q.2
def t7(f:List D)(l:m_):List (Nat×Nat):=(tG f).filter λq=>(l.filter λt=>hold t q).isEmpty
def OV(q:Nat×Nat):pl 7 (pr q)=Jg:=rfl
def Kc(l:List (Nat×Nat)):(l.map pr).all (pl 7)=Jg:=af.mpr λd a=>by
 obtain⟨q,_,rfl⟩:=av.mp a;rfl
def PH{a b:Nat×Nat}(h:pr a=pr b):a=b:=by injection h with h;injection h with h1 h2;injection h2 with h2 _;injection h1 with h1;injection h2 with h2;exact kC 'o' 'o'
def Ro{n:Nat}(a:1<=n)(b:n<=4){t:g_}(c:t∈YP n){O:Ow}{l:List (Nat×Nat)}(d:l.length<1000):Bq [.str t,.lst (l.map pr)] O=.ok (.lst ((l.filter (hold t)).map pr)) O:=by show fin (Tf [qV t,qu (l.map pr),Jf] O)=_;refine rh (rE (oY (oP rfl) (EW (uk a b c) O)) (qO ?_));exact(Bt (sV rfl) (λ_=>rfl) (by show(l.map pr).length=_;simp) 'o' (λ_ _=>rfl) (λq _=>Et (R5 (rK (qF rfl rfl (Hj O _ _))) λ_=>rK (qF rfl rfl (Hj O _ _)))) (λq _ _=>Bn (o_ rfl rfl) (by show 2<=4000000;decide))).trans rfl
def Ku{n:Nat}{f:List D}(d:Fn n f){l:m_}(s:∀t∈l,t∈YP n)(c:l.length<=100)(O:Ow):EU [.tup f,.tup (l.map .str)] O=.ok (.lst ((t7 f l).map pr)) O:=by
 have u:=Ho d;let A:Option D:=oQ f;let L:Option D:=oQ (l.map .str);let W:Option D:=qu ((tG f).map pr);let K:List (Nat×Nat):=l.flatMap λt=>(tG f).filter (hold t);have B:K.length<=100*256:=by
  have:=CZ (g:=λt=>(tG f).filter (hold t)) (k:=256) l λt _=>aG (a7 _ _) u;have i:l.length*256<=100*256:=Nat.mul_le_mul_right _ c;exact aG this i
 have v:pB Jh 2 (pA oZ) (.one 4) [] [⟨(pA (k_ 2 Bq (a_ qR qY))),(.one 5),[]⟩] vc [A,L,W,Jf] O=.ok (.lst (K.map pr)) O:=by
  refine(PR (o:=Jh) (O:=O) (l:=l) (inj:=D.str) (inj2:=pr) (p:=λ_ _=>Jg) (e:=λ_ q=>pr q) (Am rfl) (λ_=>rfl) (by show(l.map D.str).length=_;simp) (by show K.length<_;lia) (λ_=>rfl) (λ_ _=>rfl) (λt h=>sV (oY (o_ rfl rfl) (Ro d.n1 d.n4 (s t h) 'o'))) (λ_ _ _ _=>rfl) (λ_ _ _ _=>rfl)).trans ?_;show R.ok (D.lst _) O=_;congr 2;rw[mB];refine LJ λa _=>?_;rw[LY]
 show fin (LV [A,L,Jf,Jf] O)=_;unfold LV;refine rh (rE (O1:=O) (oY (oP rfl) (K3 d O)) (rE (x:=.lst (K.map pr)) (O1:=O) v (qO ?_)));refine(Bt (o:=Jh) (O:=O) (l:=tG f) (inj:=pr) (e:=pr) (sV rfl) (λ_=>rfl) (by show((tG f).map pr).length=_;simp) 'o' (λ_ _=>rfl) (λq _=>Et (rK (qF rfl rfl (GJ O (l:=K.map pr) (b:=K.contains q) (OV q) (Kc K) (.inl rfl) ?_).2))) (λq _ _=>rfl)).trans ?_
 ·rw[aW,av];constructor
  ·intro h;exact⟨q,h,rfl⟩
  ·rintro⟨r,h,e⟩;rw[<- PH e];exact h
 ·show R.ok (D.lst _) O=_;congr 3;refine jp λq w=>?_;rw[HP,dq,ei,af];constructor
  ·intro h t j;cases y:hold t q with
   |false=>rfl
   | true=>
    have:q∈K:=cf.mpr ⟨t,j,aB.mpr ⟨w,y⟩⟩;rw[<- aW,h] at this;cases this
  ·intro h;cases m:K.contains q with
   |false=>rfl
   | true=>
    rw[aW] at m;obtain⟨t,z,i⟩:=cf.mp m;have:=h t z;rw[(aB.mp i).2] at this;cases this
def z8Q{n:Nat}{f:List D}(d:Fn n f){cs:g_}(h:cs∈YP n):Cm f cs=yu f cs:=by
 have:yu f cs=Jg↔Cm f cs=Jg:=by
  unfold yu Cm;simp only[ei,bL];constructor
  ·intro e;cases b:(pV f).filter λp=>(o4 cs).contains p with
   |nil=>rw[b] at e;cases e
   | cons p l=>
    have g:p∈(pV f).filter λp=>(o4 cs).contains p:=by rw[b];exact am
    obtain⟨a,c⟩:=aB.mp g;exact⟨p,by simpa using c,(nO.mp a).2⟩
  ·rintro⟨p,a,c⟩;cases b:(pV f).filter λp=>(o4 cs).contains p with
   | nil=>
    have:p∈(pV f).filter λp=>(o4 cs).contains p:=aB.mpr ⟨nO.mpr ⟨by rw[d.len];exact yv d.n1 d.n4 h a,c⟩,by simpa using a⟩;rw[b] at this;cases this
   |cons p l=>rfl
 cases a:Cm f cs<;>cases c:yu f cs<;>simp_all
def ziH:(nH.all λa=>nH.all λb=>!(a.length==b.length&&q0 a.length a b&&decide (a≠b))||(aM a.length).any λk=>a.getD k 0 !=45&&q0 a.length (a.set k 45) b)=Jg:=by decide +kernel
def zgs{n k:Nat}{a:g_}(b:a.length=n):q0 n a (a.set k 45)=Jg:=Kz λj c=>by
 by_cases e:k=j
 ·subst e;left;rw[au,bq 'o'];rfl
 ·right;rw[au,bj e,<- au]
def zcX{n:Nat}{f:List D}(c:Fn n f){a b:g_}(d:a∈YP n)(e:b∈YP n)(h:q0 n a b=Jg)(g:q9 f b=Jg):q9 f a=Jg:=by unfold q9 at *;rw[af] at *;exact λp i=>g p (HC c.n1 c.n4 d e h i)
def HD{n:Nat}{f:List D}(a:Fn n f):Hf n f=gr n f:=by
 refine jp λt u=>?_;have i:=Az u;have b:=sJ a.n1 a.n4 i;unfold NB Cy;rw[z8Q a i,Bool.and_comm];congr 1;unfold CV;rw[HP];have j:(aM t.length).any (Ae f t)=Jg ↔ ∃o∈tS n f,o≠t/\q0 n t o=Jg:=by
  rw[bL];constructor
  ·rintro⟨k,l,d⟩;have l:=aU.mp l;unfold Ae at d;rw[aT] at d;have v:=HY a.n1 a.n4 i (k:=k) (c:=45) rfl;refine⟨t.set k 45,aB.mpr ⟨v,d.2⟩,λe=>?_,zgs b⟩;have w:t.getD k 0≠45:=⇑d.1
   have:(t.set k 45).getD k 0=45:=by rw[au,bq l];rfl
   rw[e] at this;exact w this
  ·rintro⟨o,g,m,p⟩;have q:=Az g;have h:=af.mp (af.mp ziH t (uk a.n1 a.n4 i)) o (uk a.n1 a.n4 q);rw[b,sJ a.n1 a.n4 q,p,decide_eq_true (bI m)] at h;simp only[beq_self_eq_true,mZ,fF,h9] at h;rw[bL] at h;obtain⟨k,l,r⟩:=h;rw[aT] at r;refine⟨k,by rw[b];exact l,?_⟩;unfold Ae;rw[aT];exact⟨r.1,zcX a (HY a.n1 a.n4 i rfl) q r.2 (aB.mp g).2⟩
 cases d:(aM t.length).any (Ae f t) with
 | true=>
  obtain⟨o,g,m,p⟩:=j.mp d;symm;show(tS n f).all _=Jh;rw[List.all_eq_false];exact⟨o,g,by simp[m,p]⟩
 | false=>
  symm;show(tS n f).all _=Jg;rw[af];intro o g;cases s:(decide (o≠t)&&q0 n t o) with
  |false=>rfl
  | true=>
   rw[aT] at s;have:=j.mpr ⟨o,g,of_decide_eq_true s.1,s.2⟩;rw[d] at this;cases this
def xw(g:Nat->Bool)(t:g_):Bool:=(o4 t).all g
def By(g:Nat->Bool)(t:g_):Bool:=xw g t && !(aM t.length).any λk=>t.getD k 0 !=45&&xw g (t.set k 45)
def ZC:∀a b c d e f g h:Bool,((YP 3).filter (By λp=>[a,b,c,d,e,f,g,h].getD p Jh)).length<=6:=by decide +kernel
def P9{g k:Nat->Bool}(h:∀p,p<8->g p=k p){t:g_}(b:t∈YP 3):xw g t=xw k t:=by
 unfold xw;rw[dq,af,af];constructor
 ·intro q p a;rw[<- h p (yv 's' 's' b a)];exact q p a
 ·intro q p a;rw[h p (yv 's' 's' b a)];exact q p a
def X_{g k:Nat->Bool}(h:∀p,p<8->g p=k p){t:g_}(a:t∈YP 3):By g t=By k t:=by unfold By;rw[P9 h a];congr 3;funext i;rw[P9 h (HY 's' 's' a rfl)]
def six(g:Nat->Bool):((YP 3).filter (By g)).length<=6:=by
 have:=ZC (g 0) (g 1) (g 2) (g 3) (g 4) (g 5) (g 6) (g 7);rwa [jp λt a=>X_ (λp b=>by
  have:p=0\/p=1\/p=2\/p=3\/p=4\/p=5\/p=6\/p=7:=by lia
  rcases this with rfl|rfl|rfl|rfl|rfl|rfl|rfl|rfl<;>rfl) a] at this
def qG(f:List D)(t:g_):Bool:=q9 f t&&CV f t
def ZX{α:Type}{p q:α->Bool}{l:List α}(h:∀x∈l,p x=Jg->q x=Jg):(l.filter p).length<=(l.filter q).length:=by rw[<- iX,<- iX];exact kA h
def zfR(n:Nat)(f:List D):(Hf n f).length<=((YP n).filter (qG f)).length:=by unfold Hf tS;rw[lO];refine ZX λt _ h=>?_;unfold NB at h;unfold qG;simp at h ⊢;exact⟨h.2,h.1.2⟩
theorem OM{q a b c:g_->Bool}:∀(l:m_),(∀t∈l,(q (t++[45])=Jg->a t=Jg)/\(q (t++[48])=Jg->b t=Jg)/\(q (t++[49])=Jg->c t=Jg))->((l.flatMap λt=>[t++[45],t++[48],t++[49]]).filter q).length<=(l.filter a).length+(l.filter b).length+(l.filter c).length
 |[],_=>by simp
 | t::l,h=>by
  have g:=OM l λs f=>h s (ak _ f);rw[cg,lN,aw];have e:([t++[45],t++[48],t++[49]].filter q).length<=(if a t=Jg then 1 else 0)+(if b t=Jg then 1 else 0)+(if c t=Jg then 1 else 0):=by
   cases i:q (t++[45])<;>cases j:q (t++[48])<;>cases k:q (t++[49])<;>simp_all<;>(repeat' split)<;>lia
  have d:∀p:g_->Bool,((t::l).filter p).length=(if p t=Jg then 1 else 0)+(l.filter p).length:=λp=>by
   rw[cZ];split<;>simp<;>lia
  rw[d a,d b,d c];lia
def KI(t:g_)(c:Nat):o4 (t++[c])=(o4 t).flatMap λp=>(Pe c).map (2*p + ·):=by unfold o4;rw[List.foldl_append];rfl
def JY{f:List D}{c:Nat}{g:Nat->Bool}(a:∀s,q9 f (s++[c])=xw g s){t:g_}(h:qG f (t++[c])=Jg):By g t=Jg:=by unfold qG CV at h;simp only[aT,ei,gY] at h;unfold By;simp only[aT,ei,gY];refine⟨by rw[<- a];exact h.1,λk d=>?_⟩;have b:=aU.mp d;have:=h.2 k (aU.mpr (by rw[aw];lia));unfold Ae at this;rw[kN _ _ b,a,au,aF b,<- au,aT] at this;exact this
def XN(f:List D)(s:g_):q9 f (s++[45])=xw (λp=>!tJ (f.getD (2*p) .non) && !tJ (f.getD (2*p+1) .non)) s:=by unfold q9 xw;rw[KI,jH];congr 1;funext p;show([2*p+0,2*p+1].all _)=_;simp
def XH(f:List D)(s:g_):q9 f (s++[48])=xw (λp=>!tJ (f.getD (2*p) .non)) s:=by unfold q9 xw;rw[KI,jH];congr 1;funext p;show([2*p+0].all _)=_;simp
def Ys(f:List D)(s:g_):q9 f (s++[49])=xw (λp=>!tJ (f.getD (2*p+1) .non)) s:=by unfold q9 xw;rw[KI,jH];congr 1;funext p;show([2*p+1].all _)=_;simp
def Bf{n:Nat}{f:List D}(d:Fn n f):(gr n f).length<=18:=by
 rw[<- HD d];refine aG (zfR n f) ?_;rcases vw d.n1 d.n4 with rfl|rfl|rfl|rfl
 ·exact aG (a7 _ _) 's'
 ·exact aG (a7 _ _) 's'
 ·have:=six λp=>!tJ (f.getD p .non);exact aG (aG (gH rfl) this) 's'
 ·have h:=OM (YP 3) λt _=>⟨JY (XN f),JY (XH f),JY (Ys f)⟩;have a:=six λp=>!tJ (f.getD (2*p) .non) && !tJ (f.getD (2*p+1) .non);have b:=six λp=>!tJ (f.getD (2*p) .non);have c:=six λp=>!tJ (f.getD (2*p+1) .non);have e:YP 4=(YP 3).flatMap λt=>[t++[45],t++[48],t++[49]]:=rfl;rw[e];lia
def AW:D->Bool
 |.non=>Jg
 |.bl _=>Jg
 |.int _=>Jg
 |.str _=>Jg
 |_=>Jh
def BG:D->Bool
 |.tup ds=>ds.all AW
 |d=>AW d
def Pl(O:Ow):Prop:=∀c∈O,∀d∈c,BG d=Jg
def At(O:Ow):Prop:=∀c∈O,∀d∈c,AW d=Jg
def zfb{n:Nat}:∀{d:D},AW d=Jg->yi n d=Jg
 |.non,_=>rfl
 |.bl _,_=>rfl
 |.int _,_=>rfl
 |.str _,_=>rfl
def Yt:∀{d:D},AW d=Jg->nm d=Jg
 |.non,_=>rfl
 |.bl _,_=>rfl
 |.int _,_=>rfl
 |.str _,_=>rfl
def W_:∀{d:D},AW d=Jg->BG d=Jg
 |.non,_=>rfl
 |.bl _,_=>rfl
 |.int _,_=>rfl
 |.str _,_=>rfl
def At.flat{O:Ow}(h:At O):zZ O:=λc a d b=>zfb (h c a d b)
def At.pl{O:Ow}(h:At O):Pl O:=λc a d b=>W_ (h c a d b)
theorem Ko:∀{ds:List D},(∀d∈ds,nm d=Jg)->nms ds=Jg
 |[],_=>rfl
 | d::ds,h=>by
  unfold nms;rw[h d am,Ko λx a=>h x (ak _ a)];rfl
def YA:∀{d:D},BG d=Jg->nm d=Jg
 | .tup ds,h=>by
  exact Ko λd a=>Yt (af.mp h d a)
 |.non,_=>rfl
 |.bl _,_=>rfl
 |.int _,_=>rfl
 |.str _,_=>rfl
def Pl.nms{O:Ow}(h:Pl O):O.all nms=Jg:=af.mpr λc a=>Ko λd b=>YA (h c a d b)
def Wx:∀{d:D},AW d=Jg->J5 d=Jg
 |.non,_=>rfl
 |.bl _,_=>rfl
 |.int _,_=>rfl
 |.str _,_=>rfl
def Rm{O:Ow}{n f:Nat}:∀{d:D},BG d=Jg->frz O n (f+1) d=Jd d
 | .tup ds,h=>by
  show(pe (frz O n f) ds).map D.tup=_;rw[zr λd a=>Om (Wx (af.mp h d a))];rfl
 |.non,_=>rfl
 |.bl _,_=>rfl
 |.int _,_=>rfl
 |.str _,_=>rfl
def Hs{O':Ow}(a:Pl O')(X:Ow){d d':D}(h:frz (O'++X) O'.length 8 d=Jd d'):v8 O'.length (.ok d (O'++X))=.ok d' O':=by
 unfold v8;dsimp only;rw[h];have:(O'++X).take O'.length=O':=by simp
 rw[this,zr λc b=>zr λd e=>Rm (a c b d e)]
def Pl.one{O:Ow}(h:Pl O){c:List D}(a:∀d∈c,BG d=Jg):Pl (O++[c]):=λx hx=>by
 rcases aK.mp hx with hx|hx
 ·exact h x hx
 ·have:x=c:=⇑hx
  subst this;exact a
def toT(c:m_):D:=.tup (c.map .str)
def YM(c:m_):BG (toT c)=Jg:=by show(c.map D.str).all AW=Jg;rw[af];intro d a;obtain⟨x,_,rfl⟩:=av.mp a;rfl
def KC(l:List m_):∀d∈l.map toT,BG d=Jg:=λd a=>by
 obtain⟨x,_,rfl⟩:=av.mp a;exact YM x
section
variable{α:Type}[DecidableEq α]
noncomputable def rW(inj:α->D)(h:DLC.Held α):D:=.map ((DLC.keys h).map cN) (h.map λkv=>.lst (kv.2.map inj))
structure Inj(inj:α->D):Prop where
 in_:∀(O:Ow)(x:α)(l:List α),uJ O (inj x) (.lst (l.map inj))=.ok (.bl (l.contains x)) O
 nin:∀(O:Ow)(x:α)(l:List α),vt O (inj x) (.lst (l.map inj))=.ok (.bl (!l.contains x)) O
variable{inj:α->D}(J:Inj inj)
def Pr{h:DLC.Held α}(n:(DLC.keys h).Nodup){kv:g_×List α}(m:kv∈h):vD (.inr kv.1) ((DLC.keys h).map cN) (h.map λkv=>D.lst (kv.2.map inj))=qu (kv.2.map inj):=by
 have e:(DLC.keys h).map cN=h.map λkv=>(cN kv.1:DK):=by unfold DLC.keys;rw[aZ];rfl
 rw[e];refine Ts (kk:=λkv:g_×List α=>(cN kv.1:DK)) m ?_;rw[<- e];exact dM.mpr (List.Pairwise.imp (λa e=>a (g8 e)) n)
def zhR{h:DLC.Held α}(n:(DLC.keys h).Nodup){t:g_}(m:t∈DLC.keys h):vD (.inr t) ((DLC.keys h).map cN) (h.map λkv=>D.lst (kv.2.map inj))=qu ((DLC.at_ h t).map inj):=by obtain⟨kv,a,rfl⟩:=av.mp m;rw[Pr n a,DLC.at_mem n a]
include J in
theorem Tz{h:DLC.Held α}(n:(DLC.keys h).Nodup)(b:h.length<=100)(x:α)(O:Ow):Bw [rW inj h,inj x] O=.ok (.lst ((DLC.hold h x).map .str)) O:=by
 show fin (LU [Jd (rW inj h),Jd (inj x)] O)=_;have c:Gq i_ [Jd (rW inj h),Jd (inj x)] O=.ok (.val (h.map λa=>D.str a.1)) O:=by
  show R.ok (Src.val (((DLC.keys h).map cN).map AB)) O=_;unfold DLC.keys;rw[aZ,aZ];rfl
 refine zm ((CD c 'o' (λ_=>rfl) (λa d=>rK (qF rfl (Qw rfl rfl rfl (Pr n d)) (J.in_ O x a.2))) (λ_ _ _=>rfl)).trans ?_);unfold DLC.hold;rw[aZ];rfl
theorem Lb{c:DE}{σ:Sg}{O:Ow}{f:α->Nat}:∀(w:List α)(b:α),(∀y∈w,c (σ++[Jd (inj y)]) O=.ok (.int (f y:Nat)) O)->DL.minGo c σ (w.map inj) (inj b) (f b:Nat) O=.ok (inj (DLC.minGo f w b)) O
 |[],b,_=>rfl
 | x::w,b,h=>by
  rw[br];unfold DL.minGo DLC.minGo;rw[h x am];dsimp only;by_cases d:f x<f b
  ·rw[Ji (show((f x:Nat):Int)<(f b:Nat) by lia),Ji d];exact Lb w x λy a=>h y (ak _ a)
  ·rw[Jk (show ¬ ((f x:Nat):Int)<(f b:Nat) by lia),Jk d];exact Lb w b λy a=>h y (ak _ a)
def stC(inj:α->D)(h:DLC.Held α)(w:List α)(m:Int)(y:Option D)(k:Nat)(a b c:Option D)(Pt:Nat):Sg:=[Jd (rW inj h),qu (w.map inj),n_ m,y,qm k,a,b,c,Jd (.tab Pt)]
include J in
theorem ziN{h:DLC.Held α}(n:(DLC.keys h).Nodup){w:List α}(d:w.length<=300){t:g_}(b:t∈DLC.keys h){m:Int}{y:Option D}{k Pt:Nat}{a c:Option D}(O:Ow):Bb (stC inj h w m y k a (qV t) c Pt) O=.ok (.lst ((DLC.left h w t).map inj)) O:=
 (CD (sV rfl) 'o' (λ_=>rfl) (λx e=>rK (qF rfl (Qw rfl rfl rfl (zhR n b)) (J.nin O x _))) (λ_ _ _=>rfl)).trans rfl
def vF{Pt a n:Nat}{F:o5}{t:DA}{σ:Sg}{O O1:Ow}{ds:List D}{z:R D}(b:σ[a]?=Jd (Jd (.tab Pt)))(c:t σ O=.ok ds O1)(d:F ds O1=z)(e:ds.length=n:=by rfl):qZ Pt a n F t σ O=z:=by unfold qZ;rw[b];dsimp only;rw[Ji rfl];exact oY c d e
def XZ{h r:DLC.Held α}{w l:List α}{t:g_}{m:Nat}{y:Option D}{Pt:Nat}{F:o5}{O:Ow}{Ja cs:List m_}(b:F [rW inj r,.lst (l.map inj),.int (m:Nat)] (O++[Ja.map toT])=.ok (.lst (cs.map toT)) (O++[Ja.map toT]))(k:Ja.length+cs.length<=1700000)(a:∀c∈cs,c.length<=1000):
  Aa Pt F (stC inj h w ((m+1:Nat):Int) y O.length (Jd (rW inj r)) (qV t) (qu (l.map inj)) Pt) (O++[Ja.map toT])=.ok .non (O++[(Ja++cs.map (t :: ·)).map toT]):=by
 have d:((m+1:Nat):Int)-1=(m:Nat):=by lia
 have f:qZ Pt 8 3 F (a_ vc (a_ (pG 7) (a_ (h_ (fI u9) pO qw) f_))) (stC inj h w ((m+1:Nat):Int) y O.length (Jd (rW inj r)) (qV t) (qu (l.map inj)) Pt) (O++[Ja.map toT])=.ok (.lst (cs.map toT)) (O++[Ja.map toT]):=by
  refine vF rfl ?_ b;show R.ok [rW inj r,.lst (l.map inj),.int (((m+1:Nat):Int)-1)] _=_;rw[d]
 have g:=vd (o:=Jh) (ext:=1) (i:=9) (te:=h_ rS (uc vB) (pG 9)) (e:=λc=>toT (t::c)) (sV f) 'o' (λ_=>rfl) (λc j=>by
  refine qF rfl rfl ?_;show(if [D.str t]≠[]/\[D.str t].length+(c.map D.str).length<=4000000 then R.ok (D.tup ([D.str t]++c.map D.str)) (O++[Ja.map toT]) else .bad)=_;rw[Ji ⟨by simp,by rw[aA];have:=a c j;simp;lia⟩];rfl)
 unfold Aa Cv;show((a_ _ f_ _ (O++[Ja.map toT])).bnd _)=_;rw[oP (g.trans (rfl))];show(match [D.lst (cs.map λc=>toT (t::c))],(O++[Ja.map toT])[O.length]? with|[y],Jd ds=>(match rk (O++[Ja.map toT]) y with|some es=>if ds.length+es.length<=4000000 then R.ok D.non ((O++[Ja.map toT]).set O.length (ds++es)) else R.bad|none=>R.bad)|_,_=>R.bad)=_;rw[HA];dsimp only[rk];rw[Ji (by simp;lia),R7,cA,aZ];rfl
def JE(inj:α->D)(Pt k m:Nat):Prop:=∀(h:DLC.Held α)(w:List α)(O:Ow),Pl O->(DLC.keys h).Nodup->h.length<=20->w.length<=300->vH Pt k [rW inj h,.lst (w.map inj),.int (m:Nat)] O=.ok (.lst ((DLC.cov m h w).map toT)) O
def RT(h:DLC.Held α)(t:g_):(DLC.drop h t).length<=h.length:=a7 _ _
def zcP(r:DLC.Held α)(t:g_):uh (.inr t) ((DLC.keys r).map cN)=(DLC.keys (DLC.drop r t)).map cN:=by
 unfold uh DLC.keys DLC.drop
 induction r with
 |nil=>rfl
 | cons kv r ih=>
  simp only[br];by_cases e:kv.1=t
  ·rw[cX (by simp[e]),cX (by simp[e])];exact ih
  ·rw[cY ⇑e,cY ⇑e];simp only[br];rw[ih]
def zdk(r:DLC.Held α)(t:g_):xI (.inr t) ((DLC.keys r).map cN) (r.map λkv=>D.lst (kv.2.map inj))=(DLC.drop r t).map λkv=>D.lst (kv.2.map inj):=by
 unfold DLC.keys DLC.drop
 induction r with
 |nil=>rfl
 | cons kv r ih=>
  simp only[br];unfold xI;by_cases e:kv.1=t
  ·rw[Ji (by rw[e]),cX (by simp[e])];exact ih
  ·rw[Jk (λz=>e (g8 z)),cY ⇑e,br,ih]
def Yu{r:DLC.Held α}{t:g_}(h:t∈DLC.keys r):Dj (.inr t) ((DLC.keys r).map cN)=Jg:=by unfold Dj;rw[bL];exact⟨.inr t,av.mpr ⟨t,h,rfl⟩,by simp⟩
include J in
theorem Qi{Pt k m:Nat}(x:JE inj Pt k m)(z:m<=100){h:DLC.Held α}{w:List α}(n:(DLC.keys h).Nodup)(i:h.length<=20)(j:w.length<=300){O:Ow}(l:Pl O){y:Option D}:
  ∀(ts:m_)(r:DLC.Held α)(Ja:List m_)(b c:Option D),(∀t∈ts,t∈DLC.keys r)->ts.Nodup->(∀kv∈r,kv∈h)->(DLC.keys r).Nodup->r.length<=20->Ja.length+2 ^ r.length<=1700000->(∀t∈ts,t∈DLC.keys h)->
   ∃o p,zj 5 6 7 Bb (Aa Pt (vH Pt k)) (ts.map D.str) ((DLC.keys r).map cN) (r.map λkv=>D.lst (kv.2.map inj)) (stC inj h w ((m+1:Nat):Int) y O.length Jf b c Pt) (O++[Ja.map toT])=.nx (stC inj h w ((m+1:Nat):Int) y O.length Jf o p Pt) (O++[(Ja++DLC.covL (DLC.cov m) h w ts r).map toT])
 |[],r,Ja,b,c,_,_,_,_,_,_,_=>⟨b,c,by unfold DLC.covL;rw[bF];rfl⟩
 | t::ts,r,Ja,b,c,d,nt,hr,nr,fr,hl,Ve=>by
  have q:∀kv∈DLC.drop r t,kv∈h:=λkv d=>hr kv (DLC.mem_drop.mp d).1;have I:=DLC.cov_pow m (DLC.drop r t) (DLC.left h w t) (DLC.nd_drop nr);have A:=DLC.drop_lt (d t am);have B:2 ^ ((DLC.drop r t).length+1)<=2 ^ r.length:=fi 'o' A;rw[Nat.pow_succ] at B;have C:=ziN J n j (Ve t am) (m:=((m+1:Nat):Int)) (y:=y) (k:=O.length) (Pt:=Pt) (a:=Jf) (c:=c) (O++[Ja.map toT]);have E:=x (DLC.drop r t) (DLC.left h w t) (O++[Ja.map toT]) (l.one (KC Ja)) (DLC.nd_drop nr) (aG (RT r t) fr) (aG (a7 _ _) j);have f:Ja.length+(DLC.cov m (DLC.drop r t) (DLC.left h w t)).length<=1700000:=by lia
  have F:=XZ (h:=h) (w:=w) (t:=t) (y:=y) (Pt:=Pt) E f λc G=>by have:=(DLC.cov_sound m (DLC.nd_drop nr) G).1;lia
  obtain⟨o,p,H⟩:=Qi x z n i j l ts (DLC.drop r t) (Ja++(DLC.cov m (DLC.drop r t) (DLC.left h w t)).map (t :: ·)) (qV t) (qu ((DLC.left h w t).map inj))
   (λs g=>DLC.keys_drop.mpr ⟨d s (ak _ g),λe=>(bo.mp nt).1 (e▸g)⟩) (bo.mp nt).2 q (DLC.nd_drop nr) (aG (RT r t) fr) (by rw[aw,aA];lia) (λs g=>Ve s (ak _ g))
  refine⟨o,p,?_⟩;rw[br];unfold zj;dsimp only[vq];rw[Ji (Yu (d t am))];have u:Bb ((stC inj h w ((m+1:Nat):Int) y O.length Jf b c Pt).set 6 (qV t)) (O++[Ja.map toT])=.ok (.lst ((DLC.left h w t).map inj)) (O++[Ja.map toT]):=C;rw[u];dsimp only;rw[zcP,zdk];have v:Aa Pt (vH Pt k) ((((stC inj h w ((m+1:Nat):Int) y O.length Jf b c Pt).set 6 (qV t)).set 7 (qu ((DLC.left h w t).map inj))).set 5 (Jd (.map ((DLC.keys (DLC.drop r t)).map cN) ((DLC.drop r t).map λkv=>D.lst (kv.2.map inj))))) (O++[Ja.map toT])=_:=F;rw[v];dsimp only;rw[Ji (l.one (KC _)).nms];refine Eq.trans H ?_;show _=RS.nx _ (O++[(Ja++((DLC.cov m (DLC.drop r t) (DLC.left h w t)).map (t :: ·)++DLC.covL (DLC.cov m) h w ts (DLC.drop r t))).map toT]);rw[ba]
include J in
theorem SR{Pt:Nat}:∀(m k:Nat),m<k->m<=100->JE inj Pt k m
 |m,0,hk,_=>by lia
 | 0,k+1,_,_=>by
  intro h w O f n a q;show v8 O.length (fin (zt Pt (vH Pt k) [Jd (rW inj h),qu (w.map inj),n_ 0,Jf,Jf,Jf,Jf,Jf,Jd (.tab Pt)] O))=_;unfold zt;cases w with
  | nil=>
   rw[rh (yp (O1:=O) (x:=.lst [.tup []]) (tD (b:=Jh) rfl) rfl)];have:=Hs f [] (d:=.lst [.tup []]) (d':=.lst [.tup []]) rfl;rw[bF] at this;exact this
  | cons x w=>
   rw[rh (uC (O1:=O) (tD (b:=Jg) rfl) (yp (O1:=O) (x:=.lst []) (rK (b:=Jg) rfl) rfl))];have:=Hs f [] (d:=.lst []) (d':=.lst []) rfl;rw[bF] at this;exact this
 | m+1,k+1,hk,hm=>by
  intro h w O f n a q;cases w with
  | nil=>
   show v8 O.length (fin (zt Pt (vH Pt k) [Jd (rW inj h),Jd (.lst []),n_ ((m+1:Nat):Int),Jf,Jf,Jf,Jf,Jf,Jd (.tab Pt)] O))=_;unfold zt;rw[rh (yp (O1:=O) (x:=.lst [.tup []]) (tD (b:=Jh) rfl) rfl)];have:=Hs f [] (d:=.lst [.tup []]) (d':=.lst [.tup []]) rfl;rw[bF] at this;exact this
  | cons x w=>
   have u:JE inj Pt k m:=SR m k 'o' 'o';let c:Sg:=[Jd (rW inj h),qu ((x::w).map inj),n_ ((m+1:Nat):Int),Jf,Jf,Jf,Jf,Jf,Jd (.tab Pt)];have r:∀y,A0 (c++[Jd (inj y)]) O=.ok (.int ((DLC.hold h y).length:Nat)) O:=λy=>qE (oP (oY (o_ rfl rfl) (Tz J n 'o' y O))) (by show R.ok (D.int (((DLC.hold h y).map D.str).length:Nat)) O=_;rw[aA]);generalize g:DLC.minGo (λy=>(DLC.hold h y).length) w x=y;have v:y∈x::w:=by
    rcases DLC.minGo_mem (λy=>(DLC.hold h y).length) w x with e|e
    ·rw[<- g,e];exact am
    ·rw[<- g];exact ak _ e
   have z:CF Pt 8 oZ A0 c O=.ok (inj y) O:=by
    show(if Pt=Pt then (R.bnd (R.ok (D.lst ((x::w).map inj)) O) λx O1=>match x with|.lst ds=>Ct A0 c O1 ds|_=>.bad) else .bad)=_;rw[Ji rfl];show Ct A0 c O (inj x::w.map inj)=_;show(match A0 (c++[Jd (inj x)]) O with|.ok (.int j) O1=>DL.minGo A0 c (w.map inj) (inj x) j O1|_=>.bad)=_;rw[r x];dsimp only;rw[<- g];exact Lb w x λy _=>r y
   have s:2 ^ h.length<=1700000:=by
    have:=fi (n:=2) 's' a;lia
   obtain⟨I,K,A⟩:=Qi J u 'o' n a q f (y:=Jd (inj y)) (DLC.hold h y) h [] Jf Jf (λt i=>((DLC.mem_hold n).mp i).1) (DLC.hold_nd n y) (λ_ h=>h) n a (by simp only[fK];lia) (λt i=>((DLC.mem_hold n).mp i).1);have B:((m+1:Nat):Int)≠0:=by lia
   have C:o8 (h_ (pj rl) pO qy) c O=.ok Jh O:=rK (qF rfl rfl (show pj rl O (.int ((m+1:Nat):Int)) (.int 0)=_ from by
    show R.ok (D.bl (((m+1:Nat):Int)==0)) O=_;rw[beq_eq_false_iff_ne.mpr B]))
   have l:pA (k_ 2 Bw (a_ i_ (a_ pQ f_))) (stC inj h (x::w) ((m+1:Nat):Int) (Jd (inj y)) O.length Jf Jf Jf Pt) (O++[[]])=.ok (.val ((DLC.hold h y).map D.str)) (O++[[]]):=sV (oY (o_ rfl rfl) (Tz J n 'o' y (O++[[]])));have E:DX 5 6 7 i_ (pA (k_ 2 Bw (a_ i_ (a_ pQ f_)))) Bb (Aa Pt (vH Pt k)) (oX qR) (stC inj h (x::w) ((m+1:Nat):Int) (Jd (inj y)) O.length Jf Jf Jf Pt) (O++[[]])=.rt (.own O.length) (O++[((DLC.covL (DLC.cov m) h (x::w) (DLC.hold h y) h)).map toT]):=by
    unfold DX;show(R.bnS (R.ok (rW inj h) (O++[[]])) _)=_;show(R.bnS (pA (k_ 2 Bw (a_ i_ (a_ pQ f_))) (stC inj h (x::w) ((m+1:Nat):Int) (Jd (inj y)) O.length Jf Jf Jf Pt) (O++[[]])) _)=_;rw[l];show(match zj 5 6 7 Bb (Aa Pt (vH Pt k)) ((DLC.hold h y).map D.str) ((DLC.keys h).map cN) (h.map λo=>D.lst (o.2.map inj)) (stC inj h (x::w) ((m+1:Nat):Int) (Jd (inj y)) O.length Jf Jf Jf Pt) (O++[[]]) with|.nx σ' O'=>oX qR σ' O'|_=>.bad)=_;have F:zj 5 6 7 Bb (Aa Pt (vH Pt k)) ((DLC.hold h y).map D.str) ((DLC.keys h).map cN) (h.map λo=>D.lst (o.2.map inj)) (stC inj h (x::w) ((m+1:Nat):Int) (Jd (inj y)) O.length Jf Jf Jf Pt) (O++[[]])=_:=A;rw[F];rw[dP];rfl
   have p:zt Pt (vH Pt k) c O=.rt (.own O.length) (O++[((DLC.covL (DLC.cov m) h (x::w) (DLC.hold h y) h)).map toT]):=by
    unfold zt;exact uC (O1:=O) (tD (b:=Jg) rfl) (uC C (rE (x:=inj y) z (rE (x:=.own O.length) (O1:=O++[[]]) rfl E)))
   show v8 O.length (fin (zt Pt (vH Pt k) c O))=_;rw[rh p];have G:=Hs f [(DLC.covL (DLC.cov m) h (x::w) (DLC.hold h y) h).map toT] (d:=.own O.length) (d':=.lst ((DLC.covL (DLC.cov m) h (x::w) (DLC.hold h y) h).map toT)) (by
    unfold frz;dsimp only;rw[Jk (cR _),HA];dsimp only;rw[zr λd H=>Rm (KC _ d H)];rfl)
   refine G.trans ?_;show _=R.ok (D.lst ((DLC.covL (DLC.cov m) h (x::w) (DLC.hold h (DLC.minGo (λy=>(DLC.hold h y).length) w x)) h).map toT)) O;rw[g]
end
def zgv{t:DE}{σ:Sg}{O O1:Ow}{ds:List D}(h:t σ O=.ok (.lst ds) O1):qk t σ O=.ok (!ds.isEmpty) O1:=by show((t σ O).bnd _)=_;rw[h];rfl
noncomputable def zC(t:g_):Int:=((t.length-t.count 45:Nat):Int)
def zfB(O:Ow):(nH.map λcs=>EN [.str cs] O)=nH.map λcs=>R.ok (D.int (zC cs)) O:=by kernel_rfl
def Zf{cs:g_}(h:cs∈nH)(O:Ow):EN [.str cs] O=.ok (.int (zC cs)) O:=cF.mp (zfB O) cs h
def qH(c:m_):Int:=(c.map zC).sum
theorem Lk:∀l:List Int,yk (l.map D.int)=Jd l
 |[]=>rfl
 | x::l=>by
  show(yk (l.map D.int)).map (x :: ·)=_;rw[Lk l];rfl
def KN{c:m_}(a:∀t∈c,t∈nH)(e:c.length<=1000)(O:Ow):xM [toT c] O=.ok (.int (qH c)) O:=by
 have b:=vd (o:=Jh) (ext:=1) (i:=1) (it0:=pA i_) (σ:=[Jd (toT c)]) (te:=k_ 1 EN pv) (Am rfl) 'o' (λ_=>rfl) (λt d=>oY (oP rfl) (Zf (a t d) O));show fin (LM [Jd (toT c)] O)=_;refine zm (qE (oP b) ?_);show(match yk (c.map λt=>D.int (zC t)) with|some ns=>R.ok (D.int ns.sum) O|none=>.bad)=_;have:(c.map λt=>D.int (zC t))=(c.map zC).map D.int:=by rw[aZ];rfl
 rw[this,Lk];rfl
section
variable{α:Type}[DecidableEq α]{inj:α->D}(J:Inj inj)
def sP(inj:α->D)(h:DLC.Held α)(w:List α)(Pt m:Nat)(x:Option D):Sg:=[Jd (rW inj h),qu (w.map inj),n_ (m:Nat),qu ((DLC.cov m h w).map toT),x,Jd (.tab Pt)]
structure Sz(h:DLC.Held α)(w:List α):Prop where
 nd:(DLC.keys h).Nodup
 few:h.length<=18
 wl:w.length<=300
include J in
theorem P8{h:DLC.Held α}{w:List α}(z:Sz h w){Pt m:Nat}(d:m<=18){a b:Option D}{O:Ow}(c:Pl O):qZ Pt 5 3 (EA Pt) (a_ i_ (a_ oZ qY)) [Jd (rW inj h),qu (w.map inj),n_ (m:Nat),a,b,Jd (.tab Pt)] O=.ok (.lst ((DLC.cov m h w).map toT)) O:=
 vF rfl (Ar rfl (o_ rfl rfl)) (SR J m 20 'o' 'o' h w O c z.nd (aG z.few 's') z.wl)
include J in
theorem SU{h:DLC.Held α}{w:List α}(z:Sz h w)(i:DLC.cov 18 h w≠[]):∀(fuel m:Nat),m<=18->18<m+fuel->∃c,m<=c/\c<=18/\DLC.cov c h w≠[]/\(∀j,m<=j->j<c->DLC.cov j h w=[])/\∀(Pt:Nat)(O:Ow),Pl O->tw cW (bW Pt) fuel (sP inj h w Pt m Jf) O=.nx (sP inj h w Pt c Jf) O
 |0,m,h1,h2=>by lia
 | fuel+1,m,h1,h2=>by
  by_cases e:DLC.cov m h w=[]
  ·have x:m≠18:=λq=>i (q▸e);obtain⟨c,y,l,n,o,p⟩:=SU z i fuel (m+1) 'o' 'o';refine⟨c,by lia,l,n,λj s d=>?_,λPt O f=>?_⟩
   ·by_cases q:j=m
    ·rw[q];exact e
    ·exact o j 'o' d
   ·have g:cW (sP inj h w Pt m Jf) O=.ok Jg O:=by
     unfold sP;rw[e];rfl
    have u:bW Pt (sP inj h w Pt m Jf) O=.nx (sP inj h w Pt (m+1) Jf) O:=by
     refine yr (σ':=[Jd (rW inj h),qu (w.map inj),n_ ((m+1:Nat):Int),qu ((DLC.cov m h w).map toT),Jf,Jd (.tab Pt)]) (O1:=O) rfl ?_;rw[CS (P8 J z 'o' f)];rfl
    show((cW (sP inj h w Pt m Jf) O).bnS λk O1=>if k=Jg then (match bW Pt (sP inj h w Pt m Jf) O1 with
     |.nx σ' O'=>tw cW (bW Pt) fuel σ' O'
     |.ct σ' O'=>tw cW (bW Pt) fuel σ' O'
     |.bk σ' O'=>.nx σ' O'
     |r=>r) else .nx (sP inj h w Pt m Jf) O1)=_
    rw[g];show(if Jg=Jg then (match bW Pt (sP inj h w Pt m Jf) O with
     |.nx σ' O'=>tw cW (bW Pt) fuel σ' O'
     |.ct σ' O'=>tw cW (bW Pt) fuel σ' O'
     |.bk σ' O'=>.nx σ' O'
     |r=>r) else RS.nx (sP inj h w Pt m Jf) O)=_
    rw[Ji rfl,u];exact p Pt O f
  ·refine⟨m,aE _,h1,e,λj a b=>by lia,λPt O f=>?_⟩;have g:cW (sP inj h w Pt m Jf) O=.ok Jh O:=by
    refine tD (b:=Jg) ?_;rw[zgv (t:=pG 3) (σ:=sP inj h w Pt m Jf) (O:=O) (O1:=O) (ds:=(DLC.cov m h w).map toT) rfl];cases v:DLC.cov m h w with
    |nil=>exact absurd v e
    |cons _ _=>rfl
   show((cW (sP inj h w Pt m Jf) O).bnS λk O1=>if k=Jg then (match bW Pt (sP inj h w Pt m Jf) O1 with
     |.nx σ' O'=>tw cW (bW Pt) fuel σ' O'
     |.ct σ' O'=>tw cW (bW Pt) fuel σ' O'
     |.bk σ' O'=>.nx σ' O'
     |r=>r) else .nx (sP inj h w Pt m Jf) O1)=_
   rw[g];rfl
theorem Sa:∀l:List m_,yR (l.map toT)=Jd l
 |[]=>rfl
 | x::l=>by
  show(match tO (x.map D.str),yR (l.map toT) with|some ks,Jd t=>Jd (ks::t)|_,_=>Jf)=_;rw[strL_map,Sa l]
def few(h:DLC.Held α)(w:List α)(m:Nat):Int:=z_ ((DLC.cov m h w).map qH)
def yf(h:DLC.Held α)(w:List α)(m:Nat):List m_:=AZ (((DLC.cov m h w).filter λc=>qH c==few h w m).map pM)
theorem Ey:∀(l:List Int)(x:Int),l.foldl min x=x\/l.foldl min x∈l
 |[],x=>.inl rfl
 | y::l,x=>by
  rcases Ey l (min x y) with e|e
  ·rw[show(List.foldl min x (y::l))=l.foldl min (min x y) from rfl,e];rcases Int.le_total x y with g|g
   ·left;lia
   ·right;rw[show min x y=y by lia];exact am
  ·right;exact ak _ e
def zhS{h:DLC.Held α}{w:List α}{m:Nat}(a:DLC.cov m h w≠[]):∃c∈DLC.cov m h w,qH c=few h w m:=by
 unfold few;cases b:DLC.cov m h w with
 |nil=>exact absurd b a
 | cons c l=>
  rcases Ey (l.map qH) (qH c) with e|e
  ·exact⟨c,am,e.symm⟩
  ·obtain⟨d,f,q⟩:=av.mp e;exact⟨d,ak _ f,q⟩
def og{h:DLC.Held α}{w:List α}{m:Nat}{x:m_}:x∈yf h w m ↔ ∃c∈DLC.cov m h w,qH c=few h w m/\pM c=x:=by
 unfold yf;rw[(Li _).mem_iff,av];constructor
 ·rintro⟨c,d,rfl⟩;obtain⟨a,b⟩:=aB.mp d;exact⟨c,a,by simpa using b,rfl⟩
 ·rintro⟨c,a,b,rfl⟩;exact⟨c,aB.mpr ⟨a,by simpa using b⟩,rfl⟩
def QD{h:DLC.Held α}{w:List α}{m:Nat}(a:DLC.cov m h w≠[]):yf h w m≠[]:=by obtain⟨c,b,e⟩:=zhS a;have:=og.mpr ⟨c,b,e,rfl⟩;intro q;rw[q] at this;cases this
include J in
theorem Oj{h:DLC.Held α}{w:List α}(z:Sz h w)(u:∀t∈DLC.keys h,t∈nH)(v:DLC.cov 18 h w≠[]):∃m,m<=18/\DLC.Lm h w m/\∀(Pt:Nat)(O:Ow),Pl O->EX Pt [rW inj h,.lst (w.map inj)] O=.ok (.lst ((yf h w m).map toT)) O:=by
 obtain⟨m,_,y,l,A,B⟩:=SU J z v 20 0 'o' 'o';refine⟨m,y,⟨z.nd,l,λj C=>A j 'o' C⟩,λPt O n=>?_⟩;show fin (Uo Pt [Jd (rW inj h),qu (w.map inj),Jf,Jf,Jf,Jd (.tab Pt)] O)=_;have p:(DLC.cov m h w).length<=262144:=aG (DLC.cov_pow m h w z.nd) (aG (fi 's' z.few) 's');have r:∀c∈DLC.cov m h w,∀O,xM [toT c] O=.ok (.int (qH c)) O:=λc a O=>by
  obtain⟨s,e,b⟩:=DLC.cov_sound m z.nd a;exact KN (λt f=>u t (b.1 t f)) 'o' O
 have E:oO D0 (a_ (pB Jh 1 (pA pQ) (.one 6) [] [] (k_ 1 xM vB)) f_) (sP inj h w Pt m Jf) O=.ok (.int (few h w m)) O:=by
  have g:=vd (o:=Jh) (ext:=1) (i:=6) (it0:=pA pQ) (σ:=sP inj h w Pt m Jf) (te:=k_ 1 xM vB) (sV rfl) 'o' (λ_=>rfl) (λc a=>oY (oP rfl) (r c a O));refine qE (oP g) ?_;show(match yk ((DLC.cov m h w).map λc=>D.int (qH c)) with|some ns=>(if ns≠[] then R.ok (D.int (z_ ns)) O else .bad)|none=>.bad)=_;have:((DLC.cov m h w).map λc=>D.int (qH c))=((DLC.cov m h w).map qH).map D.int:=by rw[aZ];rfl
  rw[this,Lk];show(if (DLC.cov m h w).map qH≠[] then R.ok (D.int (z_ ((DLC.cov m h w).map qH))) O else .bad)=_;rw[Ji (by intro q;exact l (k9.mp q))];rfl
 have F:oO D1 (a_ (pB Jh 1 (pA pQ) (.one 6) [(o8 (h_ (pj rl) (k_ 1 xM vB) qR))] [] (oO ui (a_ (oO yh vB) f_))) f_) (sP inj h w Pt m (n_ (few h w m))) O=.ok (.lst ((yf h w m).map toT)) O:=by
  have g:=CD (o:=Jh) (ext:=1) (i:=6) (it0:=pA pQ) (σ:=sP inj h w Pt m (n_ (few h w m))) (t:=o8 (h_ (pj rl) (k_ 1 xM vB) qR)) (te:=oO ui (a_ (oO yh vB) f_)) (sV rfl) 'o' (λ_=>rfl)
   (λc a=>rK ((qD (oY (oP rfl) (r c a O)) rfl).trans (eqI O _ _)))
   (λc a _=>by
    obtain⟨s,e,b⟩:=DLC.cov_sound m z.nd a;have G:oO yh vB (sP inj h w Pt m (n_ (few h w m))++[Jd (toT c)]) O=.ok (.lst ((pM c).map .str)) O:=by
     refine qE (oP rfl) ?_;show(match tO (c.map D.str) with|some ss=>(if ss.Nodup/\ss.length<=1000 then R.ok (D.lst ((pM ss).map .str)) O else .bad)|none=>.bad)=_;rw[strL_map];show(if c.Nodup/\c.length<=1000 then R.ok (D.lst ((pM c).map .str)) O else .bad)=_;rw[Ji ⟨e,by lia⟩]
    exact qE (oP G) rfl)
  refine qE (oP g) ?_;have H:(((DLC.cov m h w).filter λc=>qH c==few h w m).map λc=>toT (pM c))=(((DLC.cov m h w).filter λc=>qH c==few h w m).map pM).map toT:=by rw[aZ];rfl
  show(match yR (((DLC.cov m h w).filter λc=>qH c==few h w m).map λc=>toT (pM c)) with|some qA=>(if (2<=qA.length->(qA.all λd=>!d.isEmpty)=Jg)/\qA.length<=4000000 then R.ok (D.lst ((AZ qA).map DL.toT)) O else .bad)|none=>.bad)=_;rw[H,Sa];have I:(((DLC.cov m h w).filter λc=>qH c==few h w m).map pM).length<=4000000:=by
   rw[aA];have:=a7 (λc=>qH c==few h w m) (DLC.cov m h w);lia
  have k:2<=(((DLC.cov m h w).filter λc=>qH c==few h w m).map pM).length->((((DLC.cov m h w).filter λc=>qH c==few h w m).map pM).all λd=>!d.isEmpty)=Jg:=by
   intro K;cases w with
   | nil=>
    exfalso;rw[aA] at K;have N:=a7 (λc=>qH c==few h ([]:List α) m) (DLC.cov m h []);have P:(DLC.cov m h ([]:List α)).length=1:=by unfold DLC.cov;rfl
    lia
   | cons x w=>
    rw[af];intro d L;obtain⟨c,a,rfl⟩:=av.mp L;have a:=(aB.mp a).1;obtain⟨s,e,b⟩:=DLC.cov_sound m z.nd a;obtain⟨t,f,_⟩:=b.2 x am;have:=(xn _).mpr f;cases M:pM c with
    |nil=>rw[M] at this;cases this
    |cons _ _=>rfl
  show(if _/\_ then R.ok (D.lst ((AZ (((DLC.cov m h w).filter λc=>qH c==few h w m).map pM)).map DL.toT)) O else .bad)=_;rw[Ji ⟨k,I⟩];rfl
 refine rh (rE rfl (rE (P8 J z (m:=0) 'o' n) (yr ?_ (rE E ?_))))
 ·exact B Pt O n
 ·exact qO F
end
def SO{f:List D}{t:g_}{p:Nat}(b:p∈pV f)(c:p∈o4 t):yu f t=Jg:=by
 unfold yu;have a:p∈(pV f).filter λp=>(o4 t).contains p:=aB.mpr ⟨b,by simpa using c⟩;cases e:(pV f).filter λp=>(o4 t).contains p with
 |nil=>rw[e] at a;cases a
 |cons _ _=>rfl
def rm(f:List D):List (Nat×Nat):=((pV f).map λp=>(p,p))++tG f
def uE(n:Nat)(f:List D)(w:List (Nat×Nat)):DLC.Held (Nat×Nat):=(gr n f).map λt=>(t,w.filter (hold t))
def Kq(O:Ow)(x:Nat×Nat)(l:List (Nat×Nat)){b:Bool}(a:b=Jg↔x∈l):uJ O (pr x) (.lst (l.map pr))=.ok (.bl b) O/\vt O (pr x) (.lst (l.map pr))=.ok (.bl !b) O:=GJ O (OV x) (Kc l) (.inl rfl) (a.trans (by
 rw[av];exact⟨λh=>⟨x,h,rfl⟩,λ⟨y,h,e⟩=>PH e▸h⟩))
def ct{α:Type}[DecidableEq α]{l:List α}{x:α}:l.contains x=Jg↔x∈l:=aW
def VX:Inj pr:=⟨λO x l=>(Kq O x l ct).1,λO x l=>(Kq O x l ct).2⟩
def EI(n:Nat)(f:List D)(w:List (Nat×Nat)):DLC.keys (uE n f w)=gr n f:=by unfold DLC.keys uE;rw[aZ];exact i0 _
def RJ:(ou.all λq=>(aM (2 ^ q.1)).all λr=>!t9 q.2 r||(YP q.1).any λs=>decide (o4 s=[q.2,r]))=Jg:=by decide +kernel
section
variable{n:Nat}{f:List D}(hf:Fn n f)
include hf
theorem GS:(gr n f).Nodup:=(Pc hf).imp λh e=>by subst e;exact absurd h (eE _)
theorem Ef(w:List (Nat×Nat)):(DLC.keys (uE n f w)).Nodup:=by rw[EI];exact GS hf
theorem zhL(w:List (Nat×Nat)):(uE n f w).length<=18:=by unfold uE;rw[aA];exact Bf hf
theorem ziD:(rm f).length<=300:=by unfold rm;rw[aw,aA];have:=Br hf;have:=Ho hf;lia
theorem Sw{p:Nat}(c:p∈pV f):tJ (f.getD p .non)=Jh:=by obtain⟨b,a⟩:=nO.mp c;rw[Ak b] at a ⊢;rcases hf.ans _ (cm b) with e|e|e<;>rw[e] at a ⊢ <;> first|rfl|cases a
theorem zf1{s:g_}(a:s∈tS n f){p:Nat}(d:p∈pV f)(e:p∈o4 s):∃t∈gr n f,∀q∈o4 s,q∈o4 t:=by obtain⟨w,b,g⟩:=NZ (λt h=>sJ hf.n1 hf.n4 (Az h)) a;have c:∀q∈o4 s,q∈o4 w:=λq i=>HC hf.n1 hf.n4 (Az a) (Az (nZ.mp b).1) g i;exact⟨w,Qp b (SO d (c p e)),c⟩
theorem Pm{x:Nat×Nat}(m:x∈rm f):∃t∈gr n f,hold t x=Jg:=by
 rcases aK.mp m with h|h
 ·obtain⟨p,o,rfl⟩:=av.mp h;have:=Rq hf;obtain⟨t,c,u⟩:=bL.mp (af.mp this p o);exact⟨t,c,by unfold hold;simp only[u];rfl⟩
 ·obtain⟨p,q⟩:=x;obtain⟨a,d,v⟩:=cf.mp h;obtain⟨r,w,e⟩:=av.mp v;cases e;obtain⟨i,g⟩:=aB.mp w;have j:∀{z},z∈pV f->z<2 ^ n:=λ{z}hz=>by have:=(nO.mp hz).1;rw[hf.len] at this;exact this
  have k:=af.mp (af.mp RJ (n,p) (Hx hf.n1 hf.n4 (j d))) q (aU.mpr (j i));simp only[g,fF,h9] at k;obtain⟨s,y,b⟩:=bL.mp k;have b:=of_decide_eq_true b;have A:s∈tS n f:=aB.mpr ⟨y,by
   unfold q9;rw[b];simp only[eV,jF,gj,Sw hf d,Sw hf i];rfl⟩
  obtain⟨t,c,l⟩:=zf1 hf A d (by rw[b];simp);refine⟨t,c,?_⟩;unfold hold;rw[aT,aW,aW];exact⟨l p (by rw[b];simp),l q (by rw[b];simp)⟩
variable{w:List (Nat×Nat)}(hw:∀x∈w,x∈rm f)(yG:w.length<=300)
theorem JX{t:g_}(h:t∈gr n f):DLC.at_ (uE n f w) t=w.filter (hold t):=DLC.at_mem (Ef hf w) (av.mpr ⟨t,h,rfl⟩)
theorem Ek{S:m_}(d:∀t∈S,t∈gr n f):DLC.Cov (uE n f w) w S ↔ ∀x∈w,∃t∈S,hold t x=Jg:=by
 constructor
 ·rintro⟨_,h⟩ x b;obtain⟨t,a,c⟩:=h x b;rw[JX hf (d t a)] at c;exact⟨t,a,(aB.mp c).2⟩
 ·intro h;refine⟨λt a=>by rw[EI];exact d t a,λx b=>?_⟩;obtain⟨t,a,c⟩:=h x b;exact⟨t,a,by rw[JX hf (d t a)];exact aB.mpr ⟨b,c⟩⟩
include hw in
theorem WR:DLC.cov 18 (uE n f w) w≠[]:=by obtain⟨c,a,_⟩:=DLC.cov_some 18 (Ef hf w) ((Ek hf λt b=>b).mpr λx d=>Pm hf (hw x d)) (Bf hf);intro e;rw[e] at a;cases a
include yG in
theorem VT:Sz (uE n f w) w:=⟨Ef hf w,zhL hf w,yG⟩
include yG in
theorem zhW{Pt:Nat}{z:Option D}(O:Ow):xl 1 (pA (k_ 1 Av (a_ i_ f_))) (.one 4) [] [] qR (k_ 2 Bq (a_ qR pv)) [oQ f,qu (w.map pr),z,Jd (.tab Pt)] O=.ok (rW pr (uE n f w)) O:=by
 have c:=Lq hf O;rw[HD hf] at c;have j:=Bf hf;have d:=RI (ext:=1) (i:=4) (it0:=pA (k_ 1 Av (a_ i_ f_))) (tk:=pG 4) (tv:=k_ 2 Bq (a_ qR pv)) (σ:=[oQ f,qu (w.map pr),z,Jd (.tab Pt)]) (sV ((tW (oP rfl) rfl).trans c)) 'o' (by
  refine dM.mpr ((GS hf).imp ?_);intro a b h e;exact h (g8 e)) (λ_=>rfl) (λ_ _=>rfl) (λ_ _=>rfl) (λt g=>(tW (o_ rfl rfl) rfl).trans (Ro hf.n1 hf.n4 (um g) 'o'))
 have e:rW pr (uE n f w)=.map ((gr n f).map cN) ((gr n f).map λt=>.lst ((w.filter (hold t)).map pr)):=by
  unfold rW;rw[EI];unfold uE;rw[aZ];rfl
 rw[e];exact d
end
structure AX(n:Nat)(f:List D)(w:List (Nat×Nat))(m:Nat)(l:m_):Prop where
 lm:DLC.Lm (uE n f w) w m
 few:l.length=m
 m18:m<=18
 srt:l.Pairwise (· < ·)
 inn:∀t∈l,t∈gr n f
 all:∀x∈w,∃t∈l,hold t x=Jg
 use:∀t∈l,∃x∈w,hold t x=Jg
 sg:qH l=K89.few (uE n f w) w m
def YR{α:Type}[DecidableEq α]{h:DLC.Held α}{w:List α}{m:Nat}(z:DLC.Lm h w m)(k:(DLC.keys h).Nodup){c:m_}(d:c∈DLC.cov m h w){t:g_}(f:t∈c):∃x∈w,x∈DLC.at_ h t:=by
 obtain⟨o,p,g⟩:=DLC.cov_sound m k d;refine b9 λl=>?_;have a:=z.le ⟨λs b=>g.1 s (List.mem_of_mem_erase b),λx i=>by
  obtain⟨s,b,j⟩:=g.2 x i;have n:s≠t:=λe=>l ⟨x,i,e▸j⟩;exact⟨s,(kM n).mpr b,j⟩⟩
 have:=List.length_pos_of_mem f;rw[jD f,z.len d] at a;lia
def RC{a b:m_}(h:a.Perm b):qH a=qH b:=by
 unfold qH
 induction h with
 |nil=>rfl
 |cons x _ ih=>simp only[br,List.sum_cons,ih]
 |swap x y l=>simp;lia
 |trans _ _ h1 h2=>exact h1.trans h2
def QU{n:Nat}{f:List D}(b:Fn n f){w:List (Nat×Nat)}(s:∀x∈w,x∈rm f)(o:w.length<=300):∃m l,AX n f w m l/\∀(Pt:Nat)(O:Ow),Pl O->EZ Pt [.tup f,.lst (w.map pr)] O=.ok (.tup (l.map .str)) O:=by
 obtain⟨m,i,g,u⟩:=Oj VX (VT b o) (λt a=>by rw[EI] at a;exact uk b.n1 b.n4 (um a)) (WR b s);cases j:yf (uE n f w) w m with
 |nil=>exact absurd j (QD g.ne)
 | cons x r=>
  have e:x∈yf (uE n f w) w m:=by rw[j];exact am
  obtain⟨c,d,v,rfl⟩:=og.mp e;obtain⟨A,y,p⟩:=DLC.cov_sound m (Ef b w) d;have k:∀t∈c,t∈gr n f:=λt a=>by have:=p.1 t a;rwa [EI] at this
  have q:=DLC.perm_of_sub y (λt a=>(xn c).mpr a) (HJ c);refine⟨m,pM c,⟨g,by rw[<- q.length_eq];exact g.len d,i,EJ c,λt a=>k t ((xn c).mp a),λx e=>?_,λt a=>?_,by rw[<- RC q];exact v⟩,λPt O z=>?_⟩
  ·obtain⟨t,a,h⟩:=(Ek b k).mp p x e;exact⟨t,(xn c).mpr a,h⟩
  ·have a:=(xn c).mp a;obtain⟨x,e,h⟩:=YR g (Ef b w) d a;rw[JX b (k t a)] at h;exact⟨x,e,(aB.mp h).2⟩
  ·have d:=u Pt O z;rw[j] at d;show fin (Ui Pt [oQ f,qu (w.map pr),Jf,Jd (.tab Pt)] O)=_;exact rh (rE (zhW b o O) (qO (qF (vF rfl (o_ rfl rfl) d) rfl (KS 'd'))))
structure Fm(n:Nat)(f:List D)(F:m_):Prop where
 srt:F.Pairwise (· < ·)
 tm:∀t∈F,t∈YP n
 ok:FA f F=Jg
 len:F.length<100
section
variable{n:Nat}{f:List D}{F:m_}(hf:Fn n f)(g:Fm n f F)
def Qt{f:List D}{F:m_}:∀x∈t7 f F,x∈rm f:=λx a=>ax _ (aB.mp a).1
def P0{f:List D}{F:m_}{x:Nat×Nat}(b:x∈t7 f F){t:g_}(c:t∈F):hold t x=Jh:=by
 have:=(aB.mp b).2;cases e:hold t x with
 |false=>rfl
 | true=>
  have a:t∈F.filter λt=>hold t x:=aB.mpr ⟨c,e⟩;rw[fx.mp this] at a;cases a
def Rg{f:List D}{F:m_}{x:Nat×Nat}(b:x∈tG f)(c:x∉t7 f F):∃t∈F,hold t x=Jg:=by
 cases e:F.filter λt=>hold t x with
 |nil=>exact absurd (aB.mpr ⟨b,by rw[e];rfl⟩) c
 | cons t r=>
  have a:t∈F.filter λt=>hold t x:=by rw[e];exact am
  exact⟨t,(aB.mp a).1,(aB.mp a).2⟩
include hf in
theorem QA:(t7 f F).length<=300:=by have:=Ho hf;have:=a7 (λq=>(F.filter λt=>hold t q).isEmpty) (tG f);unfold t7;lia
include hf g
theorem ze0:∃m l,AX n f (t7 f F) m l/\∀(Pt:Nat)(O:Ow),Pl O->Hy Pt [.tup f,.tup (F.map .str)] O=.ok (.tup (l.map .str)) O:=by
 obtain⟨m,l,h,b⟩:=QU hf Qt (QA hf);refine⟨m,l,h,λPt O c=>?_⟩;have d:ER [.tup f,.tup (F.map .str)] O=.ok .non O:=by
  have a:=Tw hf g.tm (by have:=g.len;lia) O ((Ug (Tr hf.n1 hf.n4 g.tm) (by rw[aA];have:=g.len;lia) O).trans (by rw[Qo hf.n1 hf.n4 g.tm g.srt]));rw[g.ok] at a;show fin (C5 [oQ f,oQ (F.map .str)] O)=_;unfold C5;rw[tU (tD (tF (oY (o_ rfl rfl) a)))];rfl
 show fin (Su Pt [oQ f,oQ (F.map .str),Jd (.tab Pt)] O)=_;exact rh (xJ (oY (o_ rfl rfl) d) (qO (vF rfl (o_ rfl (oY (o_ rfl rfl) (Ku hf g.tm (by have:=g.len;lia) O))) (b Pt O c))))
variable{m:Nat}{l:m_}(h:AX n f (t7 f F) m l)
include h
omit g in
theorem Wa:∀t∈l,t∈YP n:=λt a=>um (h.inn t a)
omit g in
theorem W8{t:g_}(b:t∈l):t∉F:=λc=>by
 obtain⟨x,d,a⟩:=h.use t b;rw[P0 d c] at a;cases a
theorem nX(j:F.length<=60):Fm n f (pM (F++l)):=by
 have a:∀t,t∈pM (F++l)↔t∈F\/t∈l:=λt=>(xn _).trans aK;have k:=h.few;have:=h.m18;have:=g.ok;obtain⟨b,c⟩:=dI.mp this;refine⟨EJ _,λt d=>?_,?_,?_⟩
 ·rcases (a t).mp d with q|q
  ·exact g.tm t q
  ·exact Wa hf h t q
 ·unfold FA Dk;rw[aT,af,af];refine⟨λt q=>?_,λp e=>?_⟩
  ·rcases (a t).mp q with q|q
   ·exact af.mp b t q
   ·exact(aB.mp (aB.mp (h.inn t q)).1).2
  ·obtain⟨t,q,i⟩:=bL.mp (af.mp c p e);exact bL.mpr ⟨t,(a t).mpr (.inl q),i⟩
 ·have:=HJ (F++l);rw[aw] at this;lia
end
def ziI(O:Ow){l:g_}{k:Nat}(c:O[k]?=Jd (oR l)):pj qW O (.own k) (.lst [])=.ok (.bl (!l.isEmpty)) O:=by
 obtain⟨b,a⟩:=EG (f:=qh O 7) (l:=oR l) λz d=>Ep O 7 z (af.mp (Kx 7 l) z d);unfold pj py;have e:qh O 8 (.own k)=Jd (.list b):=by
  show(match O[k]? with|some ds=>(pe (qh O 7) ds).map eH|none=>Jf)=_;rw[c];dsimp only;rw[a];rfl
 rw[e];cases l with
 |nil=>cases a;rfl
 | cons x l=>
  have a:pe (qh O 7) (D.int (x:Int)::oR l)=Jd b:=a;unfold pe at a;split at a
  ·cases a;rfl
  ·cases a
section
variable{n m:Nat}{O:Ow}{b:Bool}
def rA(O:Ow)(m:Nat)(b:Bool)(s:Int)(L Fd:g_):Ow:=O.set m [.int s,.bl b]++[oR L,oR Fd]
def uL(O:Ow)(m n:Nat):Sg:=[qm m,n_ n,qm O.length,qm (O.length+1)]
def zhI{s:Int}(g:nE (O.set m [.int s,.bl b]) m s b){L Fd:g_}(u:Fd.length+L.length<=8)(h:L≠[]):
  ∃a r,∃v:r<L.length,yS (uL O m n) (rA O m b s L Fd)=.nx (uL O m n) (rA O m b a (L.eraseIdx r) (Fd++[L[r]]))/\nE (O.set m [.int a,.bl b]) m a b:=by
 have c:∀a,(O.set m [D.int a,D.bl b]).length=O.length:=λa=>ck;have w:0<L.length:=k7.mpr h;obtain⟨r,a,e,j,l⟩:=HK g [oR L,oR Fd] (k:=L.length) 'o' 'o';refine⟨a,r,e,?_,l⟩;unfold yS;have o:(((r:Nat):Int)).toNat=r:=by lia
 have p:CN pO (a_ (k_ 2 sh (a_ i_ (a_ (oO p8 qY) f_))) f_) (uL O m n) (rA O m b s L Fd)=.ok (.int (L[r]:Nat)) (rA O m b a (L.eraseIdx r) Fd):=by
  have q:a_ (k_ 2 sh (a_ i_ (a_ (oO p8 qY) f_))) f_ (uL O m n) (rA O m b s L Fd)=.ok [.int (r:Nat)] (rA O m b a L Fd):=
   oP (oY (o_ rfl (qE (oP rfl) ((QZ (O:=rA O m b s L Fd) (x:=.own O.length) (xs:=oR L) (DV (c s))).trans (by unfold oR;rw[aA];rfl)))) j)
  show(((a_ _ _ (uL O m n) (rA O m b s L Fd)).bnd λt f=>match t,f[O.length]? with|[.int i],Jd ds=>if 0<=i/\i<4000000 then (match ds[i.toNat]? with|some d=>R.ok d (f.set O.length (ds.eraseIdx i.toNat))|none=>R.bad) else R.bad|_,_=>R.bad))=_;rw[q];show(match [D.int (r:Nat)],(rA O m b a L Fd)[O.length]? with|[.int i],Jd ds=>if 0<=i/\i<4000000 then (match ds[i.toNat]? with|some d=>R.ok d ((rA O m b a L Fd).set O.length (ds.eraseIdx i.toNat))|none=>R.bad) else R.bad|_,_=>R.bad)=_;rw[show(rA O m b a L Fd)[O.length]?=Jd (oR L) from DV (c a)];dsimp only;rw[Ji 'o',o];unfold oR;rw[bd,ao e];dsimp only[jO];congr 1;rw[Ls];exact Ot (c a)
 rw[K7 (σ:=uL O m n) (k:=O.length+1) (ds:=oR Fd) rfl p (J6 (c a)) (by unfold oR;rw[aA];lia)];congr 1;show(rA O m b a (L.eraseIdx r) Fd).set (O.length+1) (oR Fd++[.int (L[r]:Nat)])=_;unfold rA;rw[OD (c a)];unfold oR;rw[cA];rfl
theorem Tt:∀(f:Nat){s:Int}{L Fd:g_},nE (O.set m [.int s,.bl b]) m s b->(Fd++L).Perm (aM n)->n<=8->L.length+1<=f->
  ∃a g,tw zc yS f (uL O m n) (rA O m b s L Fd)=.nx (uL O m n) (rA O m b a [] g)/\nE (O.set m [.int a,.bl b]) m a b/\g.Perm (aM n)
 |0,s,L,Fd,_,_,_,h1=>by lia
 | f+1,s,L,Fd,hs,hp,h8,hf=>by
  have c:∀a,(O.set m [D.int a,D.bl b]).length=O.length:=λa=>ck;have h:zc (uL O m n) (rA O m b s L Fd)=.ok (!L.isEmpty) (rA O m b s L Fd):=rK (qF rfl rfl (ziI _ (DV (c s))));have l:=hp.length_eq;rw[aw,dN] at l;by_cases d:L=[]
  ·subst d;refine⟨s,Fd,?_,hs,by simpa using hp⟩;show((zc (uL O m n) (rA O m b s [] Fd)).bnS _)=_;rw[h];rfl
  ·obtain⟨a,r,i,o,p⟩:=zhI (n:=n) hs (L:=L) (Fd:=Fd) 'o' d;have q:(Fd++[L[r]]++L.eraseIdx r).Perm (aM n):=by
    rw[ba];exact((LL L r i).append_left Fd).trans hp
   obtain⟨t,e,u,v,w⟩:=Tt f p q h8 (by rw[List.length_eraseIdx_of_lt i];lia);refine⟨t,e,?_,v,w⟩;show((zc (uL O m n) (rA O m b s L Fd)).bnS λk j=>if k=Jg then (match yS (uL O m n) j with|.nx σ' O'=>tw zc yS f σ' O'|.ct σ' O'=>tw zc yS f σ' O'|.bk σ' O'=>.nx σ' O'|r=>r) else .nx (uL O m n) j)=_;have:(!L.isEmpty)=Jg:=by
    cases L with
    |nil=>exact absurd rfl d
    |cons _ _=>rfl
   rw[h,this];show(match yS (uL O m n) (rA O m b s L Fd) with|.nx σ' O'=>tw zc yS f σ' O'|.ct σ' O'=>tw zc yS f σ' O'|.bk σ' O'=>.nx σ' O'|r=>r)=_;rw[o];exact u
def zfZ(n:Nat):(sH n).map D.int=oR (aM n):=by unfold sH oR;rw[aZ];rfl
def zf2(f:zZ O){s:Int}(e:nE O m s b)(q:n<=4):∃(o:g_)(a:Int),Ic [.own m,.int n] O=.ok (.tup (oR o)) (O.set m [.int a,.bl b])/\nE (O.set m [.int a,.bl b]) m a b/\o.Perm (aM n):=by
 have c:∀a,(O.set m [D.int a,D.bl b]).length=O.length:=λa=>ck;have g:nE (O.set m [.int s,.bl b]) m s b:=by rw[Hv e.at_];exact e
 obtain⟨a,Fd,h,i,j⟩:=Tt (O:=O) (m:=m) (b:=b) (n:=n) 5 (s:=s) (L:=aM n) (Fd:=[]) g (d8 _) 'o' (by rw[dN];lia);refine⟨Fd,a,?_,i,j⟩;show v8 O.length (fin (Ib [qm m,n_ n,Jf,Jf] O))=_;have k:O++[oR (aM n)]++[[]]=rA O m b s (aM n) []:=by
  unfold rA;rw[Hv e.at_,ba];rfl
 have l:Ib [qm m,n_ n,Jf,Jf] O=.rt (.tup (oR Fd)) (rA O m b a [] Fd):=by
  unfold Ib;refine rE (x:=.own O.length) (O1:=O++[oR (aM n)]) ?_ (rE (x:=.own (O.length+1)) (O1:=rA O m b s (aM n) []) ?_ (yr (σ':=uL O m n) (O1:=rA O m b a [] Fd) h (qO (qE (oP rfl) ?_))))
  ·show(if 0<=((n:Nat):Int)/\((n:Nat):Int)<=1000 then R.ok (D.own O.length) (O++[(sH ((n:Nat):Int).toNat).map .int]) else R.bad)=_;rw[Ji 'o',show((n:Nat):Int).toNat=n from by lia,zfZ]
  ·rw[<- k];show R.ok (D.own (O++[oR (aM n)]).length) _=_;rw[aw];rfl
  ·show(match (rA O m b a [] Fd)[O.length+1]? with|some ds=>R.ok (D.tup ds) _|none=>_)=_;rw[show(rA O m b a [] Fd)[O.length+1]?=Jd (oR Fd) from J6 (c a)]
 rw[rh l];have:=K8 (K5 f m a b) [oR [],oR Fd] (d:=.tup (oR Fd)) (d':=.tup (oR Fd)) (QB λd p=>by obtain⟨x,_,rfl⟩:=av.mp p;rfl);rw[c] at this;exact this
end
def C(o t:g_)(a:Nat):D:=.tup [.tup (oR o),.tup (oR t),.int a]
structure Ch(n:Nat)(o t:g_)(a:Nat):Prop where
 p:o.Perm (aM n)
 l:t.length=n
 b:∀x∈t,x<=1
 a1:a<=1
theorem QG{k:Nat}:∀(vs:List D),(∀v∈vs,∃r:Nat,v=D.int (r:Int)/\r<k)->∃l:g_,vs=oR l/\∀x∈l,x<k
 |[],_=>⟨[],rfl,by simp⟩
 | v::vs,h=>by
  obtain⟨r,rfl,a⟩:=h v 'd';obtain⟨l,rfl,b⟩:=QG vs λx hx=>h x (ak _ hx);exact⟨r::l,rfl,λx hx=>by
   rcases ar.mp hx with rfl|hx
   ·exact a
   ·exact b x hx⟩
def V1{O:Ow}{n f:Nat}(o t:g_)(a:Nat):frz O n (f+2) (C o t a)=Jd (C o t a):=by have h:∀l:g_,frz O n (f+1) (.tup (oR l))=oQ (oR l):=λl=>HI (af.mpr λd b=>by unfold oR at b;obtain⟨x,_,rfl⟩:=av.mp b;rfl);show(pe (frz O n (f+1)) [.tup (oR o),.tup (oR t),.int a]).map D.tup=_;unfold pe pe pe pe;rw[h o,h t];rfl
def zcb{O:Ow}(l:zZ O){m:Nat}{s:Int}{b:Bool}(A:nE O m s b){n:Nat}(B:n<=4):
  ∃o t a c,Mb [.own m,.int n] O=.ok (C o t a) (O.set m [.int c,.bl b])/\nE (O.set m [.int c,.bl b]) m c b/\Ch n o t a:=by
 have f:∀c,(O.set m [D.int c,D.bl b]).length=O.length:=λc=>ck;obtain⟨o,h,E,F,G⟩:=zf2 l A B;obtain⟨H,R,p,q,I,J⟩:=Z8 (o:=Jh) (ext:=1) (i:=2) (te:=k_ 2 sh (a_ i_ (a_ vA f_))) (σ:=[qm m,n_ n]) (it0:=vf pv) (O0:=O.set m [.int h,.bl b]) (P:=λv=>∃r:Nat,v=D.int (r:Int)/\r<2) F
  (Hu (oP rfl) 'o') (by simp;lia) (λd S c K=>by
   obtain⟨r,j,L,u,w⟩:=CT K (k:=2) 's' 's';have e:(((O.set m [D.int h,D.bl b]).set m [D.int c,D.bl b]).set m [D.int j,D.bl b])=(O.set m [D.int h,D.bl b]).set m [D.int j,D.bl b]:=iH ..;rw[e] at u w;exact⟨.int r,j,oY (o_ rfl rfl) u,w,r,rfl,L⟩)
 obtain⟨t,rfl,M⟩:=QG H J;rw[iH] at p q;obtain⟨a,g,T,y,z⟩:=CT q (k:=2) 's' 's';rw[iH] at y z;refine⟨o,t,a,g,?_,z,G,by simpa [oR] using I,λx N=>by have:=M x N;lia,by lia⟩;show v8 O.length (fin (ES [qm m,n_ n] O))=_;have Q:fin (ES [qm m,n_ n] O)=.ok (C o t a) (O.set m [.int g,.bl b]):=by
  unfold ES;refine zm ?_;have:a_ (k_ 2 Ic (a_ i_ pv)) (a_ (oO ui (a_ (pB Jh 1 (vf pv) (.one 2) [] [] (k_ 2 sh (a_ i_ (a_ vA f_)))) f_)) (a_ (k_ 2 sh (a_ i_ (a_ vA f_))) f_)) [qm m,n_ n] O=.ok [.tup (oR o),.tup (oR t),.int a] (O.set m [.int g,.bl b]):=
   Ar (oY (o_ rfl rfl) E) (Ar (qE (oP (p.trans rfl)) rfl) (oP (oY (o_ rfl rfl) y)))
  show((a_ _ _ [qm m,n_ n] O).bnd _)=_;rw[this];rfl
 rw[Q];have:=K8 (K5 l m g b) [] (d:=C o t a) (d':=C o t a) (V1 o t a);rw[f,bF] at this;exact this
def xu:D->Bool
 |.int _=>Jg
 |_=>Jh
def xC:D->Bool
 |.int i=>decide (0<=i)&&decide (i<=1)
 |_=>Jh
noncomputable def na:D->Bool
 |.adr _=>Jh
 |_=>Jg
def SD(O:Ow){d:D}(h:na d=Jg):C7 [d] O=.ok (.bl (xu d)) O:=by
 cases d with
 |adr a=>cases h
 |_=>rfl
def zg0{σ:Sg}{O:Ow}{a b c:DE}{i:Int}(f:a σ O=.ok (.int 0) O)(h:b σ O=.ok (.int i) O)(g:c σ O=.ok (.int 1) O):CP yL yL a b c σ O=.ok (.bl (decide (0<=i)&&decide (i<=1))) O:=by
 have e:∀x y:Int,yL O (.int x) (.int y)=.ok (.bl (decide (x<=y))) O:=λ_ _=>rfl;unfold CP;simp only[f,h,R.bnd,e];by_cases d:0<=i
 ·rw[decide_eq_true d];simp only[g,e,kU]
 ·rw[decide_eq_false d];simp only[j6]
def SS(O:Ow){d:D}(h:na d=Jg):C9 [d,.int 0,.int 1] O=.ok (.bl (xC d)) O:=by
 refine zm ?_;have e:=Eg (t:=k_ 1 C7 (a_ i_ f_)) (u:=CP yL yL oZ i_ pO) (σ:=[Jd d,n_ 0,n_ 1]) (O:=O) (b:=xC d) (oY (oP rfl) (SD O h)) λa=>by
  cases d with
  |int i=>exact zg0 rfl rfl rfl
  |_=>cases a
 refine e.trans ?_;cases d with
 |int i=>rfl
 |_=>rfl
def Pb{σ:Sg}{O:Ow}{ext i:Nat}{it:DI}{te:DE}{xs:List D}{q:D->Bool}{τ:D->Sg}(a:it σ O=.ok (.val xs) O)(b:xs.length<1900000)(c:∀d,(pf (pf (σ++aH ext Jf) [i]) [i]).set i (Jd d)=τ d)(f:∀d∈xs,te (τ d) O=.ok (.bl (q d)) O):
  oO uM (a_ (pB Jh ext it (.one i) [] [] te) f_) σ O=.ok (.bl (xs.all q)) O:=by have:=vd (o:=Jh) (ext:=ext) (i:=i) (it0:=it) (te:=te) (σ:=σ) (O:=O) (O0:=O) (l:=xs) (inj:=λd=>d) (e:=λd=>.bl (q d)) (by rw[jE];exact a) b c f;exact qE (oP this) (C2 O xs q)
def sO(n:Nat)(xs:List D):Bool:=match xf xs with
 |some ns=>decide (w_ ns=sH n)
 |none=>Jh
def IO(n:Nat):D->Bool
 |.tup xs=>xs.all xu&&sO n xs
 |_=>Jh
def IT(n:Nat):D->Bool
 |.tup ys=>ys.length==n&&ys.all xC
 |_=>Jh
theorem Rt:∀{xs:List D},xs.all xu=Jg->∃ns,xf xs=Jd ns/\xs=ns.map .int
 |[],_=>⟨[],rfl,rfl⟩
 | x::xs,h=>by
  rw[eV,aT] at h;obtain⟨ns,e,rfl⟩:=Rt h.2;cases x with
  |int i=>exact⟨i::ns,by show(xf (ns.map .int)).map (i :: ·)=_;rw[e];rfl,rfl⟩
  |_=>cases h.1
def Sk(n:Nat)(l:List Int):(l.map D.int).all (pl n)=Jg:=af.mpr λd a=>by
 obtain⟨i,_,rfl⟩:=av.mp a;cases n<;>rfl
theorem Ua:∀{a b:List Int},a.map D.int=b.map D.int->a=b
 |[],[],_=>rfl
 |[],_::_,h=>by cases h
 |_::_,[],h=>by cases h
 | x::a,y::b,h=>by
  rw[br,br] at h;injection h with h1 h2;cases h1;rw[Ua h2]
def X2{σ:Sg}{O:Ow}{t:DE}{b:DE}{n:Nat}{xs:List D}(c:xs.all xu=Jg)(d:xs.length<64)(f:t σ O=.ok (.tup xs) O)(g:b σ O=.ok (.int n) O)(k:n<=8):h_ (pj rl) (oO CL (a_ t f_)) (CJ Jh (a_ b f_)) σ O=.ok (.bl (sO n xs)) O:=by
 obtain⟨a,e,rfl⟩:=Rt c;have i:oO CL (a_ t f_) σ O=.ok (.lst ((w_ a).map .int)) O:=qE (oP f) (by
  show(match xf (a.map .int) with|some a=>if a.length<64 then R.ok (D.lst ((w_ a).map .int)) O else R.bad|none=>R.bad)=_;rw[e];dsimp only;rw[Ji ⇑d])
 have j:CJ Jh (a_ b f_) σ O=.ok (.lst ((sH n).map .int)) O:=by
  show((a_ b f_ σ O).bnd _)=_;rw[oP g];show(if 0<=((n:Nat):Int)/\((n:Nat):Int)<=1000 then R.ok (D.lst ((sH ((n:Nat):Int).toNat).map .int)) O else R.bad)=_;rw[Ji 'o',show((n:Nat):Int).toNat=n from by lia]
 refine qF i j (G2 O (Sk _ _) (Sk _ _) ?_).1;unfold sO;rw[e];dsimp only;rw[decide_eq_true_iff];exact⟨λh=>by rw[h],λh=>Ua h⟩
def PZ{xs:List D}(h:xs.all na=Jg){d:D}(a:d∈xs):na d=Jg:=af.mp h d a
def AE:D->Bool
 |.tup xs=>xs.all na&&decide (xs.length<20)
 |d=>na d
def Qx{xs:List D}(h:AE (.tup xs)=Jg):xs.all na=Jg/\xs.length<20:=by unfold AE at h;rw[aT,decide_eq_true_iff] at h;exact h
def Ke{x:D}(h:AE x=Jg):na x=Jg:=by
 cases x with
 |tup _=>rfl
 |adr _=>exact h
 |_=>rfl
def Wc:D->Bool
 |.tup _=>Jg
 |_=>Jh
def Kn{σ:Sg}{O O1:Ow}{t:DE}{x:D}(a:t σ O=.ok x O1)(h:na x=Jg):qk (s_ "tuple" t) σ O=.ok (Wc x) O1:=by
 refine tF ?_;show((t σ O).bnd _)=_;rw[a];cases x with
 |adr _=>cases h
 |_=>rfl
def zf5(O:Ow){n:Nat}(e:n<=8){x:D}(h:AE x=Jg):LD [.int n,x] O=.ok (.bl (IO n x)) O:=by
 show fin (LC [n_ n,Jd x] O)=_;unfold LC;have b:=tD (Kn (t:=pG 1) (σ:=[n_ n,Jd x]) (O:=O) rfl (Ke h));cases x with
 | tup xs=>
  obtain⟨f,j⟩:=Qx h;have c:=KP b λ_=>tD (tF (Pb (ext:=1) (i:=2) (it:=pA oZ) (te:=k_ 1 C7 qY) (σ:=[n_ n,oQ xs]) (xs:=xs) (q:=xu) (τ:=λd=>[n_ n,oQ xs,Jd d]) (Am rfl) 'o' (λd=>rfl) λd g=>oY (oP rfl) (SD O (PZ f g))));cases a:xs.all xu with
  | false=>
   refine rh (yp (x:=.bl Jh) (O2:=O) (c.trans (by show R.ok (Jh || !(xs.all xu)) O=_;rw[a];rfl)) rfl) |>.trans ?_;show _=R.ok (D.bl (xs.all xu&&sO n xs)) O;rw[a];rfl
  | true=>
   refine rh (uC (c.trans (by show R.ok (Jh || !(xs.all xu)) O=_;rw[a];rfl)) (qO (X2 (n:=n) a 'o' rfl rfl e))) |>.trans ?_;show _=R.ok (D.bl (xs.all xu&&sO n xs)) O;rw[a];rfl
 |adr _=>cases h
 |_=>exact rh (yp (x:=.bl Jh) (O2:=O) (by show((qS _ _ O).bnd _)=_;rw[b];rfl) rfl)
def neN{O:Ow}{σ:Sg}{t u:DE}{a b:Nat}(c:t σ O=.ok (.int a) O)(d:u σ O=.ok (.int b) O):o8 (h_ (pj qW) t u) σ O=.ok (!(a==b)) O:=
 rK (qF c d (D5 O (x:=.int a) (y:=.int b) rfl rfl (b:=a==b) ⟨λh=>by rw[beq_iff_eq.mp h],λh=>by cases h;simp⟩).2)
def zg5(O:Ow){n:Nat}{x:D}(h:AE x=Jg):LR [.int n,x] O=.ok (.bl (IT n x)) O:=by
 show fin (LH [n_ n,Jd x] O)=_;unfold LH;have e:=tD (Kn (t:=pG 1) (σ:=[n_ n,Jd x]) (O:=O) rfl (Ke h));cases x with
 | tup xs=>
  obtain⟨g,j⟩:=Qx h;have f:=KP (u:=o8 (h_ (pj qW) (oO p8 pv) i_)) e λ_=>neN (a:=xs.length) (b:=n) (qE (oP rfl) (K2 O xs)) rfl;cases c:(xs.length==n) with
  | false=>
   refine rh (yp (x:=.bl Jh) (O2:=O) (f.trans (by rw[c];rfl)) rfl) |>.trans ?_;show _=R.ok (D.bl (xs.length==n&&xs.all xC)) O;rw[c];rfl
  | true=>
   refine rh (uC (f.trans (by rw[c];rfl)) (qO (Pb (q:=xC) (τ:=λd=>[n_ n,oQ xs,Jd d]) (Am rfl) 'o' (λd=>rfl) λd i=>oY (Ar rfl (o_ rfl rfl)) (SS O (PZ g i))))) |>.trans ?_;show _=R.ok (D.bl (xs.length==n&&xs.all xC)) O;rw[c];rfl
 |adr _=>cases h
 |_=>exact rh (yp (x:=.bl Jh) (O2:=O) (by show((qS _ _ O).bnd _)=_;rw[e];rfl) rfl)
def nM(n:Nat):D->Bool
 |.tup [x,y,z]=>IO n x&&(IT n y&&xC z)
 |_=>Jh
def Fc:D->Bool
 |.tup ds=>ds.all AE&&decide (ds.length<20)
 |d=>na d
def XX{x:D}(h:Fc x=Jg):na x=Jg:=by
 cases x with
 |tup _=>rfl
 |adr _=>exact h
 |_=>rfl
def zdP{n:Nat}{ds:List D}(h:(ds.length==3)=Jh):nM n (.tup ds)=Jh:=by
 match ds,h with
 |[],_=>rfl
 |[_],_=>rfl
 |[_,_],_=>rfl
 |[_,_,_],h=>cases h
 |_::_::_::_::_,_=>rfl
def zgi(O:Ow){n:Nat}(f:n<=8){x:D}(h:Fc x=Jg):Mi [.int n,x] O=.ok (.bl (nM n x)) O:=by
 show fin (Mj [n_ n,Jd x,Jf,Jf,Jf] O)=_;unfold Mj;have d:=tD (Kn (t:=pG 1) (σ:=[n_ n,Jd x,Jf,Jf,Jf]) (O:=O) rfl (XX h));cases x with
 | tup ds=>
  have e:=KP (u:=o8 (h_ (pj qW) (oO p8 pv) (dC (.int 3)))) d λ_=>neN (a:=ds.length) (b:=3) (qE (oP rfl) (K2 O ds)) rfl;cases c:(ds.length==3) with
  | false=>
   rw[zdP c];exact rh (yp (x:=.bl Jh) (O2:=O) (e.trans (by rw[c];rfl)) rfl)
  | true=>
   obtain⟨x,y,z,rfl⟩:∃x y z,ds=[x,y,z]:=by
    match ds,c with
    |[x,y,z],_=>exact⟨x,y,z,rfl⟩
   unfold Fc at h;simp only[eV,jF,gj,aT] at h;obtain⟨⟨g,i,j⟩,_⟩:=h;refine rh (uC (e.trans (by rw[c];rfl)) (yr (σ':=[n_ n,Jd (.tup [x,y,z]),Jd x,Jd y,Jd z]) (O1:=O) rfl (qO ?_)));exact Eg (oY (o_ rfl rfl) (zf5 O f g)) λ_=>Eg (oY (o_ rfl rfl) (zg5 O i)) λ_=>oY (Ar rfl (o_ rfl rfl)) (SS O (Ke j))
 |adr _=>cases h
 |_=>exact rh (yp (x:=.bl Jh) (O2:=O) (by show((qS _ _ O).bnd _)=_;rw[d];rfl) rfl)
def C3(l:g_):(oR l).length=l.length:=by unfold oR;simp
section
variable{n:Nat}{o t:g_}{a:Nat}
def Ch.ol(c:Ch n o t a):o.length=n:=by have:=c.p.length_eq;simpa using this
def Ch.lt(c:Ch n o t a){x:Nat}(h:x∈o):x<n:=aU.mp (c.p.mem_iff.mp h)
def Ch.mem(c:Ch n o t a){x:Nat}(h:x<n):x∈o:=c.p.mem_iff.mpr (aU.mpr h)
def Ch.nd(c:Ch n o t a):o.Nodup:=c.p.nodup_iff.mpr List.nodup_range
def Ch.o_lt(c:Ch n o t a){k:Nat}(h:k<n):o.getD k 0<n:=by
 have b:k<o.length:=by rw[c.ol];exact h
 rw[au,ao b];exact c.lt (cm b)
def Ch.t_le(c:Ch n o t a)(k:Nat):t.getD k 0<=1:=by
 rw[au];cases e:t[k]? with
 |none=>exact bN _
 |some x=>exact c.b x (aN e)
def zb8(l:g_):xf (oR l)=Jd (l.map λ(x:Nat)=>(x:Int)):=by
 induction l with
 |nil=>rfl
 | cons x l ih=>
  show(xf (oR l)).map ((x:Int) :: ·)=_;rw[ih];rfl
def K9{q:D->Bool}{l:g_}(h:∀x∈l,q (.int (x:Nat))=Jg):(oR l).all q=Jg:=af.mpr λd b=>by
 obtain⟨x,c,rfl⟩:=av.mp b;exact h x c
def zfo(n:Nat):(sH n).Pairwise (· <= ·):=by unfold sH;rw[dM];exact List.pairwise_lt_range.imp λh=>by lia
def Ch.parts(c:Ch n o t a):nM n (C o t a)=Jg:=by
 show(((oR o).all xu&&sO n (oR o))&&(((oR t).length==n&&(oR t).all xC)&&xC (.int a)))=Jg;have d:(oR o).all xu=Jg:=K9 λ_ _=>rfl;have e:sO n (oR o)=Jg:=by
  unfold sO;rw[zb8];have:=Q3 (os:=sH n) (ns:=o.map λ(x:Nat)=>(x:Int)) (by unfold sH;exact(c.p.symm.map _)) (zfo n);dsimp only;rw[decide_eq_true_iff];exact this.symm
 have f:(oR t).all xC=Jg:=K9 λx g=>by
  have:=c.b x g;show(decide ((0:Int)<=(x:Int))&&decide ((x:Int)<=1))=Jg;simp;lia
 have h:xC (.int a)=Jg:=by
  have:=c.a1;show(decide ((0:Int)<=(a:Int))&&decide ((a:Int)<=1))=Jg;simp;lia
 rw[d,e,f,h,C3,c.l];simp
def RA{l:g_}(h:l.length<20):AE (.tup (oR l))=Jg:=by show((oR l).all na&&decide ((oR l).length<20))=Jg;rw[K9 (q:=na) λ_ _=>rfl,C3,decide_eq_true h];rfl
def Ch.ok(c:Ch n o t a)(b:n<=8):Fc (C o t a)=Jg:=by show([D.tup (oR o),D.tup (oR t),D.int a].all AE&&_)=Jg;simp only[eV,jF,RA (show o.length<20 by rw[c.ol];lia),RA (show t.length<20 by rw[c.l];lia)];rfl
end
def z4Q{n:Nat}(a:1<=n)(b:n<=4)(O:Ow):L9 [.int n] O=.ok .non O:=by rcases vw a b with rfl|rfl|rfl|rfl<;>kernel_rfl
def z6b{n:Nat}(a:n<=8){x:D}(h:Fc x=Jg)(O:Ow):ET [.int n,x] O=if nM n x=Jg then .ok .non O else .bad:=by show fin (Ir [n_ n,Jd x] O)=_;unfold Ir;rw[tU (tD (tF (oY (o_ rfl rfl) (zgi O a h))))];cases nM n x<;>rfl
def Q4{n:Nat}{o t:g_}{a:Nat}(c:Ch n o t a)(b:n<=8)(O:Ow):ET [.int n,C o t a] O=.ok .non O:=by rw[z6b b (c.ok b) O,c.parts];rfl
def zfr{n:Nat}{o:g_}(h:o.length=n):(aM n).map (λk=>o.getD k 0)=o:=by refine il (by simp[h]) λi b a=>?_;rw[fw,jb,au,ao a];rfl
noncomputable def Bg(k:Nat):Nat->m_
 |0=>[[]]
 |n+1=>(aM k).flatMap λx=>(Bg k n).map (x :: ·)
theorem HE{k:Nat}:∀{l:g_},(∀x∈l,x<k)->l∈Bg k l.length
 |[],_=>by simp[Bg]
 | x::l,h=>by
  show x::l∈(aM k).flatMap λx=>(Bg k l.length).map (x :: ·);rw[cf];exact⟨x,aU.mpr (h x 'd'),av.mpr ⟨l,HE λy a=>h y (ak _ a),rfl⟩⟩
noncomputable def uB(n p:Nat):g_:=(aM n).map λk=>(p/2 ^ (n-1-k))%2
noncomputable def put(o t bs Ja:g_)(k:Nat):g_:=Ja.set (o.getD k 0) ((bs.getD k 0+t.getD k 0)%2)
def xb(n:Nat)(o t bs:g_):g_:=(aM n).foldl (put o t bs) (aH n 0)
def xt(bs:g_):Nat:=bs.foldl (λp b=>2*p+b) 0
def AV(a:Nat):D->D
 |.int i=>.int ((i+a)%2)
 |d=>d
def chg(n:Nat)(f:List D)(o t:g_)(a:Nat):List D:=(aM (2 ^ n)).map λp=>AV a (f.getD (xt (xb n o t (uB n p))) .non)
section
variable{n:Nat}{o t:g_}
def Qq(o t a Ja:g_)(k:Nat):(put o t a Ja k).length=Ja.length:=by unfold put;simp
theorem Sj(o t b:g_):∀(a Ja:g_),(a.foldl (put o t b) Ja).length=Ja.length
 |[],_=>rfl
 |k::a,Ja=>by rw[dQ,Sj o t b a,Qq]
def HB(n:Nat)(o t a:g_):(xb n o t a).length=n:=by unfold xb;rw[Sj];simp
theorem Tv(o t c:g_):∀(a Ja:g_),(∀x∈Ja,x<2)->∀x∈a.foldl (put o t c) Ja,x<2
 |[],_,h=>h
 | k::a,Ja,h=>by
  rw[dQ];refine Tv o t c a _ λx b=>?_;rcases fj b with b|rfl
  ·exact h x b
  ·lia
def HN(n:Nat)(o t a:g_):∀x∈xb n o t a,x<2:=Tv o t a _ _ λx b=>by rw[(List.mem_replicate.mp b).2];decide
def ze2:([1,2,3,4].all λn=>(Bg 2 n).all λl=>decide (xt l<2 ^ n)&&decide (uB n (xt l)=l))=Jg:=by decide +kernel
def GV{n:Nat}(c:1<=n)(d:n<=4){l:g_}(e:l.length=n)(f:∀x∈l,x<2):xt l<2 ^ n/\uB n (xt l)=l:=by have g:=af.mp ze2 n (by rcases vw c d with rfl|rfl|rfl|rfl<;>simp);have a:=HE f;rw[e] at a;have b:=af.mp g l a;rw[aT,decide_eq_true_iff,decide_eq_true_iff] at b;exact b
def IS{f:List D}(a:Fn n f){q:Nat}(b:q<2 ^ n):u4 (f.getD q .non):=by
 have h:q<f.length:=by rw[a.len];exact b
 rw[Ak h];exact a.ans _ (cm h)
end
theorem RF(o t b:g_):∀(a Ja:g_),(∀k∈a,o.getD k 0<Ja.length)->(a.map λk=>o.getD k 0).Nodup->∀k∈a,(a.foldl (put o t b) Ja).getD (o.getD k 0) 0=(b.getD k 0+t.getD k 0)%2
 |[],_,_,_,k,h=>by cases h
 | j::a,Ja,hl,nd,k,h=>by
  rw[dQ];obtain⟨g,l⟩:=bo.mp nd;have n:∀k∈a,o.getD k 0<(put o t b Ja j).length:=λk d=>by rw[Qq];exact hl k (ak _ d)
  by_cases d:k∈a
  ·exact RF o t b a _ n l k d
  ·have:k=j:=by
    rcases ar.mp h with h|h
    ·exact h
    ·exact absurd h d
   subst this;have c:∀(a Ja:g_),o.getD k 0∉a.map (λk=>o.getD k 0)->(a.foldl (put o t b) Ja).getD (o.getD k 0) 0=Ja.getD (o.getD k 0) 0:=by
    intro a
    induction a with
    |nil=>intro Ja _;rfl
    | cons i a ih=>
     intro Ja f;rw[dQ,ih _ λm=>f (ak _ m)];unfold put;rw[au,bj (λe=>f (by rw[<- e];simp)),<- au]
   rw[c a _ g];unfold put;rw[au,bq (hl k 'd')];rfl
section
variable{n:Nat}{o t:g_}{a:Nat}
def zi4(c:Ch n o t a)(b:g_){k:Nat}(h:k<n):(xb n o t b).getD (o.getD k 0) 0=(b.getD k 0+t.getD k 0)%2:=by
 refine RF o t b (aM n) (aH n 0) (λk d=>?_) ?_ k (aU.mpr h)
 ·rw[io];exact c.o_lt (aU.mp d)
 ·rw[zfr c.ol];exact c.nd
def Ch.at_(c:Ch n o t a){j:Nat}(h:j<n):∃k,k<n/\o.getD k 0=j:=by obtain⟨k,b,e⟩:=c8.mp (c.mem h);exact⟨k,by rw[<- c.ol];exact b,by rw[au,ao b];exact e⟩
end
def WI(n:Nat):m_:=(Bg n n).filter λo=>o.isPerm (aM n)
def uP(n:Nat)(o t:g_):g_:=(aM (2 ^ n)).map λp=>xt (xb n o t (uB n p))
def xx(n:Nat):List (g_×g_):=(WI n).flatMap λo=>(Bg 2 n).map λt=>(o,t)
def W4(O:Ow)(a:Nat):((xx 1).map λq=>zx [.int 1,C q.1 q.2 a] O)=(xx 1).map λq=>R.ok (.lst (oR (uP 1 q.1 q.2))) O:=by kernel_rfl
def WO(O:Ow)(a:Nat):((xx 2).map λq=>zx [.int 2,C q.1 q.2 a] O)=(xx 2).map λq=>R.ok (.lst (oR (uP 2 q.1 q.2))) O:=by kernel_rfl
def Wu(O:Ow)(a:Nat):((xx 3).map λq=>zx [.int 3,C q.1 q.2 a] O)=(xx 3).map λq=>R.ok (.lst (oR (uP 3 q.1 q.2))) O:=by kernel_rfl
def xj{α β:Type}{f g:α->β}{l:List α}(k:Nat)(a:(l.take k).map f=(l.take k).map g)(b:(l.drop k).map f=(l.drop k).map g):l.map f=l.map g:=by rw[<- bO k l,cA,cA,a,b]
def qz:Nat->List (g_×g_)
 |0=>xx 4
 |i+1=>(qz i).drop 32
abbrev fO(O:Ow)(a:Nat)(q:g_×g_):R D:=zx [.int 4,C q.1 q.2 a] O
abbrev gO(O:Ow)(q:g_×g_):R D:=R.ok (.lst (oR (uP 4 q.1 q.2))) O
def Z6(O:Ow)(a:Nat):((qz 0).take 32).map (fO O a)=((qz 0).take 32).map (gO O):=by kernel_rfl
def ZW(O:Ow)(a:Nat):((qz 1).take 32).map (fO O a)=((qz 1).take 32).map (gO O):=by kernel_rfl
def ziM(O:Ow)(a:Nat):((qz 2).take 32).map (fO O a)=((qz 2).take 32).map (gO O):=by kernel_rfl
def ziT(O:Ow)(a:Nat):((qz 3).take 32).map (fO O a)=((qz 3).take 32).map (gO O):=by kernel_rfl
def Zp(O:Ow)(a:Nat):((qz 4).take 32).map (fO O a)=((qz 4).take 32).map (gO O):=by kernel_rfl
def Zy(O:Ow)(a:Nat):((qz 5).take 32).map (fO O a)=((qz 5).take 32).map (gO O):=by kernel_rfl
def ZI(O:Ow)(a:Nat):((qz 6).take 32).map (fO O a)=((qz 6).take 32).map (gO O):=by kernel_rfl
def ziQ(O:Ow)(a:Nat):((qz 7).take 32).map (fO O a)=((qz 7).take 32).map (gO O):=by kernel_rfl
def zii(O:Ow)(a:Nat):((qz 8).take 32).map (fO O a)=((qz 8).take 32).map (gO O):=by kernel_rfl
def zia(O:Ow)(a:Nat):((qz 9).take 32).map (fO O a)=((qz 9).take 32).map (gO O):=by kernel_rfl
def zgb(O:Ow)(a:Nat):((qz 10).take 32).map (fO O a)=((qz 10).take 32).map (gO O):=by kernel_rfl
def zgx(O:Ow)(a:Nat):((qz 11).take 32).map (fO O a)=((qz 11).take 32).map (gO O):=by kernel_rfl
def Wr(O:Ow)(a:Nat):((xx 4).map λq=>zx [.int 4,C q.1 q.2 a] O)=(xx 4).map λq=>R.ok (.lst (oR (uP 4 q.1 q.2))) O:=xj (l:=qz 0) 32 (Z6 O a) (xj (l:=qz 1) 32 (ZW O a) (xj (l:=qz 2) 32 (ziM O a) (xj (l:=qz 3) 32 (ziT O a) (xj (l:=qz 4) 32 (Zp O a) (xj (l:=qz 5) 32 (Zy O a) (xj (l:=qz 6) 32 (ZI O a) (xj (l:=qz 7) 32 (ziQ O a) (xj (l:=qz 8) 32 (zii O a) (xj (l:=qz 9) 32 (zia O a) (xj (l:=qz 10) 32 (zgb O a) (xj (l:=qz 11) 32 (zgx O a) (by kernel_rfl:(qz 12).map (fO O a)=(qz 12).map (gO O)))))))))))))
section
variable{n:Nat}{o t:g_}{a:Nat}
def KO(c:Ch n o t a):(o,t)∈xx n:=by
 unfold xx;rw[cf];have e:=HE (k:=n) (l:=o) λx d=>c.lt d;rw[c.ol] at e;have f:=HE (k:=2) (l:=t) λx d=>by have:=c.b x d;lia
 rw[c.l] at f;exact⟨o,aB.mpr ⟨e,List.isPerm_iff.mpr c.p⟩,av.mpr ⟨t,f,rfl⟩⟩
def z75(c:Ch n o t a)(d:1<=n)(e:n<=4)(O:Ow):zx [.int n,C o t a] O=.ok (.lst (oR (uP n o t))) O:=by
 have b:=KO c;rcases vw d e with rfl|rfl|rfl|rfl
 ·exact cF.mp (W4 O a) (o,t) b
 ·exact cF.mp (WO O a) (o,t) b
 ·exact cF.mp (Wu O a) (o,t) b
 ·exact cF.mp (Wr O a) (o,t) b
def zhZ(O:Ow){d:D}(h:u4 d):ID [d] O=.ok (AV 1 d) O:=by rcases h with rfl|rfl|rfl<;>rfl
def z9q{f:List D}(b:Fn n f)(O:Ow):C6 [.tup f] O=.ok (.tup (f.map (AV 1))) O:=by show fin (LG [oQ f] O)=_;unfold LG;have g:=Bu b.n4;have e:=vd (o:=Jh) (ext:=1) (i:=1) (it0:=pA i_) (te:=k_ 1 ID pv) (σ:=[oQ f]) (O:=O) (O0:=O) (l:=f) (inj:=λd=>d) (e:=λd=>AV 1 d) (τ:=λd=>[oQ f,Jd d]) (by rw[jE];rfl) (by rw[b.len];lia) (λd=>rfl) λd c=>oY (oP rfl) (zhZ O (b.ans d c));exact rh (xJ (oY (oP rfl) (CU b O)) (qO (qE (oP e) rfl)))
def EL{f:List D}(b:1<=n)(c:n<=4)(e:Fn n f)(o t:g_):Fn n (chg n f o t 0):=by
 refine⟨b,c,by simp[chg],λd g=>?_⟩;obtain⟨p,_,rfl⟩:=av.mp g;have h:u4 (f.getD (xt (xb n o t (uB n p))) .non):=IS e (GV b c (HB _ _ _ _) (HN _ _ _ _)).1;rcases h with h|h|h<;>rw[h]
 ·exact .inl rfl
 ·exact .inr (.inl rfl)
 ·exact .inr (.inr rfl)
def JJ{d:D}(h:u4 d):AV 0 d=d:=by rcases h with rfl|rfl|rfl<;>rfl
def z5q(c:Ch n o t a)(q:1<=n)(m:n<=4){f:List D}(g:Fn n f)(O:Ow):Ll [.tup f,C o t a] O=.ok (.tup (chg n f o t a)) O:=by
 show fin (Lj [oQ f,Jd (C o t a),Jf,Jf] O)=_;unfold Lj;have s:=Bu m;have r:∀p,xt (xb n o t (uB n p))<2 ^ n:=λp=>(GV q m (HB _ _ _ _) (HN _ _ _ _)).1;have e:=vd (o:=Jh) (ext:=1) (i:=4) (it0:=pA (k_ 2 zx (a_ pO pv))) (te:=h_ pY i_ qR) (σ:=[oQ f,Jd (C o t a),n_ n,Jf]) (O:=O) (O0:=O) (l:=uP n o t) (inj:=λ(k:Nat)=>D.int (k:Int)) (e:=λk=>f.getD k .non) (τ:=λk=>[oQ f,Jd (C o t a),n_ n,Jf,n_ (k:Nat)]) (sV (oY (o_ rfl rfl) (z75 c q m O))) (by simp[uP];lia) (λd=>rfl) λk u=>by
  obtain⟨p,_,rfl⟩:=av.mp u;have h:xt (xb n o t (uB n p))<f.length:=by rw[g.len];exact r p
  exact qF rfl rfl ((KJ h).trans (by rw[Ak h]))
 have j:((uP n o t).map λk=>f.getD k .non)=chg n f o t 0:=by
  unfold uP chg;rw[aZ];exact dj λp s=>(JJ (IS g (r p))).symm
 rw[j] at e;have v:=EL q m g o t;refine rh (xJ (oY (oP rfl) (CU g O)) (rE (oY (oP rfl) (LW g O)) (xJ (oY (o_ rfl rfl) (Q4 c 'o' O)) (rE (x:=.tup (chg n f o t 0)) (O1:=O) (qE (oP e) rfl) (qO ?_)))));have w:o8 (h_ (pj rl) (h_ pY oZ vA) qw) [oQ f,Jd (C o t a),n_ n,oQ (chg n f o t 0)] O=.ok (a==1) O:=
  rK (qF (x:=.int a) (y:=.int 1) rfl rfl (D5 O (x:=.int a) (y:=.int (1:Nat)) rfl rfl (b:=a==1) ⟨λh=>by rw[beq_iff_eq.mp h],λh=>by cases h;simp⟩).1)
 refine(show AS (o8 (h_ (pj rl) (h_ pY oZ vA) qw)) (k_ 1 C6 (a_ pQ f_)) pQ [oQ f,Jd (C o t a),n_ n,oQ (chg n f o t 0)] O=if (a==1)=Jg then k_ 1 C6 (a_ pQ f_) [oQ f,Jd (C o t a),n_ n,oQ (chg n f o t 0)] O else pG 3 [oQ f,Jd (C o t a),n_ n,oQ (chg n f o t 0)] O from by
  unfold AS;rw[w];rfl).trans ?_
 have z:=c.a1;have:a=0\/a=1:=by lia
 rcases this with rfl|rfl
 ·rfl
 ·show k_ 1 C6 (a_ pQ f_) [oQ f,Jd (C o t 1),n_ n,oQ (chg n f o t 0)] O=_;refine oY (oP rfl) ((z9q v O).trans ?_);have:(chg n f o t 0).map (AV 1)=chg n f o t 1:=by
   unfold chg;rw[aZ];refine dj λp s=>?_;show AV 1 (AV 0 _)=_;rw[JJ (IS g (r p))]
  rw[this]
end
def Zo(xs b:List D)(h:xs.length=b.length)(O:Ow)(i:Nat):(Src.zip (.val xs) (.val b)).get O i=((xs.zip b).map λq=>D.tup [q.1,q.2])[i]?:=by
 show(match xs[i]?,b[i]? with|some x,Jd y=>Jd (D.tup [x,y])|_,_=>Jf)=_;rw[bd];cases c:xs[i]? with
 | none=>
  have:(xs.zip b)[i]?=Jf:=by
   rw[aY] at c ⊢;rw[gw];lia
  rw[this];rfl
 | some a=>
  have e:=(al.mp c).1;have d:b[i]?=Jd b[i]:=ao 'o';have:(xs.zip b)[i]?=Jd (a,b[i]):=List.getElem?_zip_eq_some.mpr ⟨c,d⟩;rw[this,d];rfl
def z7H(O:Ow):(nH.map λcs=>Bx [.int (cs.length:Nat),.str cs] O)=nH.map λ_=>R.ok (.bl Jg) O:=by kernel_rfl
section
variable{n:Nat}{cs:g_}
def z7Q(a:1<=n)(b:n<=4)(h:cs∈YP n)(O:Ow):L3 [.int n,.str cs] O=.ok .non O:=by
 have e:Bx [.int n,.str cs] O=.ok (.bl Jg) O:=by
  have:=cF.mp (z7H O) cs (uk a b h);rwa [sJ a b h] at this
 show fin (Il [n_ n,qV cs] O)=_;unfold Il;rw[tU (tD (tF (oY (o_ rfl rfl) e)))];rfl
end
def sg:g_:=[45,48,49]
noncomputable def xr(c t:Nat):Nat:=if t=1/\c≠45 then (if c=48 then 49 else 48) else c
def zb9(O:Ow):((sg.flatMap λc=>[(c,0),(c,1)]).map λq=>Es [.str [q.1],.int (q.2:Nat)] O)=(sg.flatMap λc=>[(c,0),(c,1)]).map λq=>R.ok (.str [xr q.1 q.2]) O:=by kernel_rfl
def J8{c:Nat}(h:sgn c=Jg):c∈sg:=by unfold sgn at h;simp only[iA,beq_iff_eq] at h;rcases h with(rfl|rfl)|rfl<;>simp[sg]
def zd4(O:Ow){c t:Nat}(a:sgn c=Jg)(b:t<=1):Es [.str [c],.int t] O=.ok (.str [xr c t]) O:=
 cF.mp (zb9 O) (c,t) (cf.mpr ⟨c,J8 a,by
  have:t=0\/t=1:=by lia
  rcases this with rfl|rfl<;>simp⟩)
def z6i:([1,2,3,4].all λn=>(YP n).all λcs=>cs.all sgn)=Jg:=by decide +kernel
def LP{n:Nat}(a:1<=n)(b:n<=4){cs:g_}(h:cs∈YP n)(i:Nat):i<n->sgn (cs.getD i 45)=Jg:=λd=>by
 have e:=af.mp z6i n (by rcases vw a b with rfl|rfl|rfl|rfl<;>simp);have f:=af.mp (af.mp e cs h);have c:i<cs.length:=by rw[sJ a b h];exact d
 rw[au,ao c];exact f _ (cm c)
def qv(n:Nat)(cs o t:g_):g_:=(aM n).map λk=>xr (cs.getD (o.getD k 0) 45) (t.getD k 0)
section
variable{n:Nat}{o t cs:g_}{a:Nat}
def zhH{c t:Nat}(h:sgn c=Jg):sgn (xr c t)=Jg:=by have:=J8 h;simp only[sg,ar,bE,or_false] at this;unfold xr;rcases this with rfl|rfl|rfl<;>(split<;>(try split)<;>rfl)
def zu(c:Ch n o t a)(b:1<=n)(d:n<=4)(h:cs∈YP n):qv n cs o t∈YP n:=
 HM n _ (by simp[qv]) λx e=>by
  obtain⟨k,f,rfl⟩:=av.mp e;exact zhH (LP b d h _ (c.o_lt (aU.mp f)))
def z5m(c:Ch n o t a)(d:1<=n)(f:n<=4)(h:cs∈YP n)(O:Ow):EY [.int n,.str cs,C o t a] O=.ok (.str (qv n cs o t)) O:=by
 show fin (L8 [n_ n,qV cs,Jd (C o t a),Jf,Jf,Jf] O)=_;unfold L8;have u:=sJ d f h;refine rh (xJ (oY (oP rfl) (z4Q d f O)) (xJ (oY (o_ rfl rfl) (z7Q d f h O)) (xJ (oY (o_ rfl rfl) (Q4 c 'o' O)) (yr (σ':=[n_ n,qV cs,Jd (C o t a),oQ (oR o),oQ (oR t),n_ a]) (O1:=O) rfl (qO (zil (O':=O) (qv n cs o t) (by simp[qv];lia) (by simp[qv];lia) (oP ?_)))))));have j:(oR o).length=(oR t).length:=by rw[C3,C3,c.ol,c.l]
 have e:=Bt (o:=Jh) (ext:=2) (g:=.two 6 7) (ts:=[]) (it0:=Be (a_ pQ (a_ qR f_))) (te:=k_ 2 Es (a_ (h_ pY oZ (pG 6)) A4)) (σ:=[n_ n,qV cs,Jd (C o t a),oQ (oR o),oQ (oR t),n_ a]) (O:=O) (O0:=O) (src:=.zip (.val (oR o)) (.val (oR t))) (l:=o.zip t) (inj:=λq=>D.tup [.int (q.1:Nat),.int (q.2:Nat)]) (p:=λ_=>Jg) (e:=λq=>D.str [xr (cs.getD q.1 45) q.2]) (τ:=λq=>[n_ n,qV cs,Jd (C o t a),oQ (oR o),oQ (oR t),n_ a,n_ (q.1:Nat),n_ (q.2:Nat)])
  rfl (λi=>by
   rw[Zo _ _ j O i];unfold oR;rw[List.zip_map,aZ];rfl) (by show min (oR o).length (oR t).length=_;rw[C3,C3,gw]) (by rw[gw,c.ol];lia) (λq k=>rfl) (λq k=>rfl) (λq k _=>by
    have m:=iy k;have r:q.1<cs.length:=by rw[u];exact c.lt m.1
    refine oY (o_ (qF (x:=.str cs) (y:=.int (q.1:Nat)) rfl rfl ((Qn 'o' r).trans ?_)) rfl) (zd4 O (LP d f h q.1 (c.lt m.1)) (c.b _ m.2));rw[au,ao r];rfl)
 refine e.trans ?_;rw[iJ.mpr (λ_ _=>rfl)];show R.ok (D.lst _) O=R.ok (D.lst _) O;congr 2;unfold qv;rw[aZ];refine il (by simp[c.ol,c.l]) λi A v=>?_;have s:i<n:=⇑v
 have w:i<o.length:=by rw[c.ol];exact s
 have z:i<t.length:=by rw[c.l];exact s
 rw[fw,fw,jb,List.getElem_zip];show D.str [xr (cs.getD o[i] 45) t[i]]=D.str [xr (cs.getD (o.getD i 0) 45) (t.getD i 0)];rw[au (l:=o),au (l:=t),ao w,ao z];rfl
end
def YY(n p k:Nat):(uB n p).getD k 0<=1:=by
 rw[au];cases e:(uB n p)[k]? with
 |none=>exact bN _
 | some x=>
  obtain⟨j,_,rfl⟩:=av.mp (aN e);show _%2<=1;lia
def IV(cs:g_)(n p k:Nat):Bool:=(cs.getD k 45==45)||(cs.getD k 45==48+(uB n p).getD k 0)
def Ee(n:Nat)(cs:g_)(p:Nat):Bool:=(aM n).all (IV cs n p)
section
variable{n:Nat}{o t:g_}{a:Nat}
def Xj{c b t:Nat}(d:c∈sg)(g:b<=1)(h:t<=1):((xr c t==45)||(xr c t==48+b))=((c==45)||(c==48+(b+t)%2)):=by
 have e:b=0\/b=1:=by lia
 have f:t=0\/t=1:=by lia
 simp only[sg,ar,bE,or_false] at d;rcases d with rfl|rfl|rfl<;>rcases e with rfl|rfl<;>rcases f with rfl|rfl<;>rfl
def zcG(c:Ch n o t a)(f:1<=n)(g:n<=4){cs:g_}(h:cs∈YP n)(p:Nat):Ee n (qv n cs o t) p=Ee n cs (xt (xb n o t (uB n p))):=by
 obtain⟨r,l⟩:=GV f g (HB n o t (uB n p)) (HN n o t (uB n p));have b:∀k,k<n->IV (qv n cs o t) n p k=IV cs n (xt (xb n o t (uB n p))) (o.getD k 0):=λk d=>by
  unfold IV;have m:(qv n cs o t).getD k 45=xr (cs.getD (o.getD k 0) 45) (t.getD k 0):=by
   unfold qv;rw[au,bd,er d];rfl
  rw[m,l,zi4 c (uB n p) d];exact Xj (J8 (LP f g h _ (c.o_lt d))) (YY n p k) (c.t_le k)
 unfold Ee;rw[dq,af,af];constructor
 ·intro e j q;obtain⟨k,d,rfl⟩:=c.at_ (aU.mp q);rw[<- b k d];exact e k (aU.mpr d)
 ·intro e k d;have i:=aU.mp d;rw[b k i];exact e _ (aU.mpr (c.o_lt i))
def WC(O:Ow)(b:Bool):pj qW O (.bl b) (.bl b)=.ok (.bl Jh) O:=by cases b<;>kernel_rfl
end
def iN(p:Nat):D:=.int (p:Nat)
def Wk:Inj iN:=⟨λO x l=>Hj O x l,λO x l=>zf4 O x l⟩
def uv(n:Nat)(f:List D):DLC.Held Nat:=(gr n f).map λt=>(t,o4 t)
def EM(n:Nat)(f:List D):DLC.keys (uv n f)=gr n f:=by unfold DLC.keys uv;rw[aZ];exact i0 _
structure Fl(n:Nat)(f:List D)(m:Nat)(l:m_):Prop where
 lm:DLC.Lm (uv n f) (pV f) m
 few:l.length=m
 m18:m<=18
 srt:l.Pairwise (· < ·)
 inn:∀t∈l,t∈gr n f
 all:∀p∈pV f,∃t∈l,p∈o4 t
section
variable{n:Nat}{f:List D}(hf:Fn n f)
include hf
theorem GY:(DLC.keys (uv n f)).Nodup:=by rw[EM];exact GS hf
theorem VE{t:g_}(h:t∈gr n f):DLC.at_ (uv n f) t=o4 t:=DLC.at_mem (GY hf) (kv:=(t,o4 t)) (av.mpr ⟨t,h,rfl⟩)
theorem N4{S:m_}(b:∀t∈S,t∈gr n f)(h:∀p∈pV f,∃t∈S,p∈o4 t):DLC.Cov (uv n f) (pV f) S:=
 ⟨λt a=>by rw[EM];exact b t a,λp c=>by
  obtain⟨t,a,d⟩:=h p c;exact⟨t,a,by rw[VE hf (b t a)];exact d⟩⟩
theorem Ql{p:Nat}(a:p∈pV f):∃t∈gr n f,p∈o4 t:=by have:=Rq hf;unfold Dk at this;obtain⟨t,b,c⟩:=bL.mp (af.mp this p a);exact⟨t,b,aW.mp c⟩
theorem zeY(O:Ow):Mc [.tup f] O=.ok (rW iN (uv n f)) O:=by
 have c:=Lq hf O;rw[HD hf] at c;have j:=Bf hf;have d:=RI (ext:=1) (i:=1) (it0:=pA (k_ 1 Av (a_ i_ f_))) (tk:=pG 1) (tv:=k_ 1 xK pv) (σ:=[oQ f]) (O0:=O) (O:=O) (l:=gr n f) (inj:=D.str) (key:=D.str) (val:=λt=>.lst (oR (o4 t))) (kk:=cN) (τ:=λt=>[oQ f,qV t]) (sV ((tW (oP rfl) rfl).trans c)) 'o' (by
  refine dM.mpr ((GS hf).imp ?_);intro a b h e;exact h (g8 e)) (λ_=>rfl) (λ_ _=>rfl) (λ_ _=>rfl) (λt g=>(tW (oP rfl) rfl).trans (EW (uk hf.n1 hf.n4 (um g)) O))
 show fin (Iz [oQ f] O)=_;unfold Iz;have e:rW iN (uv n f)=.map ((gr n f).map cN) ((gr n f).map λt=>.lst (oR (o4 t))):=by
  unfold rW;rw[EM];unfold uv;rw[aZ];rfl
 rw[e];exact zm d
theorem zff:∃m l,Fl n f m l/\∀(Pt:Nat)(O:Ow),Pl O->H9 Pt [.tup f] O=.ok (.tup (l.map .str)) O:=by
 have b:(uv n f).length<=18:=by unfold uv;rw[aA];exact Bf hf
 have B:=Br hf;have v:DLC.cov 18 (uv n f) (pV f)≠[]:=by
  obtain⟨c,d,_⟩:=DLC.cov_some 18 (GY hf) (N4 hf (λt a=>a) λp g=>Ql hf g) (Bf hf);intro e;rw[e] at d;cases d
 obtain⟨m,h,j,w⟩:=Oj Wk ⟨GY hf,b,by lia⟩ (λt a=>by rw[EM] at a;exact uk hf.n1 hf.n4 (um a)) v;cases k:yf (uv n f) (pV f) m with
 |nil=>exact absurd k (QD j.ne)
 | cons x r=>
  have y:x∈yf (uv n f) (pV f) m:=by rw[k];exact am
  obtain⟨c,d,_,rfl⟩:=og.mp y;obtain⟨C,z,o⟩:=DLC.cov_sound m (GY hf) d;have q:∀t∈c,t∈gr n f:=λt a=>by have:=o.1 t a;rwa [EM] at this
  have g:c.Perm (pM c):=DLC.perm_of_sub z (λt a=>(xn c).mpr a) (HJ c);refine⟨m,pM c,⟨j,by rw[<- g.length_eq];exact j.len d,h,EJ c,λt a=>q t ((xn c).mp a),λp g=>?_⟩,λPt O A=>?_⟩
  ·obtain⟨t,a,s⟩:=o.2 p g;rw[VE hf (q t a)] at s;exact⟨t,(xn c).mpr a,s⟩
  ·have u:Iy Pt [.tup f] O=.ok (.lst ((yf (uv n f) (pV f) m).map toT)) O:=by
    show fin (Iw Pt [oQ f,Jd (.tab Pt)] O)=_;unfold Iw;exact zm (vF rfl (o_ (oY (oP rfl) (zeY hf O)) (oY (o_ rfl rfl) (Ik hf O))) (w Pt O A))
   rw[k] at u;show fin (H_ Pt [oQ f,Jd (.tab Pt)] O)=_;unfold H_;exact zm (qF (vF rfl (oP rfl) u) rfl (KS (i:=0) (ds:=List.map toT (pM c::r)) 'd'))
theorem Lg:∃m l,AX n f (rm f) m l/\∀(Pt:Nat)(O:Ow),Pl O->C_ Pt [.tup f] O=.ok (.tup (l.map .str)) O:=by
 obtain⟨m,l,h,a⟩:=QU hf (w:=rm f) (λ_ h=>h) (ziD hf);refine⟨m,l,h,λPt O b=>?_⟩;have g:=Br hf;have c:pB Jh 1 (pA (k_ 2 Ay (a_ i_ (a_ qw f_)))) (.one 3) [] [] (uc (a_ pQ (a_ pQ f_))) [oQ f,Jf,Jd (.tab Pt)] O=.ok (.lst (((pV f).map λp=>(p,p)).map pr)) O:=by
  refine(vd (o:=Jh) (ext:=1) (i:=3) (l:=pV f) (inj:=λ(p:Nat)=>D.int (p:Int)) (e:=λp=>pr (p,p)) (τ:=λ(p:Nat)=>[oQ f,Jf,Jd (.tab Pt),n_ (p:Int)]) (sV (oY (o_ rfl rfl) (Ik hf O))) 'o' (λ_=>rfl) (λp _=>Bn (o_ rfl rfl) (by show 2<=4000000;decide))).trans ?_;rw[aZ];rfl
 have d:h_ rS oZ (k_ 1 Bp (a_ i_ f_)) [oQ f,qu (((pV f).map λp=>(p,p)).map pr),Jd (.tab Pt)] O=.ok (.lst ((rm f).map pr)) O:=by
  refine qF rfl (oY (oP rfl) (K3 hf O)) ?_;show(if _ then R.ok (D.lst (((pV f).map λp=>(p,p)).map pr++(tG f).map pr)) O else .bad)=_;have:=Ho hf;rw[Ji (by rw[aA,aA,aA];lia)];unfold rm;rw[cA]
 show fin (L7 Pt [oQ f,Jf,Jd (.tab Pt)] O)=_;unfold L7;exact rh (xJ (oY (oP rfl) (CU hf O)) (rE c (qO (vF rfl (o_ rfl d) (a Pt O b)))))
variable{F:m_}(g:Fm n f F)
include g
theorem QC(O:Ow):EH [.tup f,.tup (F.map .str)] O=.ok (.bl Jg) O:=by have a:=g.len;rw[Tw hf g.tm a O ((Ug (n:=n) (Tr hf.n1 hf.n4 g.tm) (by rw[aA];exact a) O).trans (by rw[Qo hf.n1 hf.n4 g.tm g.srt])),g.ok]
theorem nil_eq(O:Ow)(l:List (Nat×Nat)):pj rl O (.lst (l.map pr)) (.lst [])=.ok (.bl l.isEmpty) O:=
 (G2 O (Kc l) rfl (b:=l.isEmpty) (by rw[fx];exact k9.symm)).1
theorem EV(O:Ow):Ax [.tup f,.tup (F.map .str)] O=.ok (.bl (t7 f F).isEmpty) O:=by have b:=g.len;show fin (Ij [oQ f,oQ (F.map .str)] O)=_;unfold Ij;exact zm (Eg (a:=Jg) (oY (o_ rfl rfl) (QC hf g O)) λ_=>qF (oY (o_ rfl rfl) (Ku hf g.tm 'o' O)) rfl (nil_eq hf g O _))
theorem zhE(O:Ow):D7 [.tup f,.tup (F.map .str)] O=.ok (.lst ((t7 f F).map pr)) O:=by
 have c:=g.len;have a:ER [.tup f,.tup (F.map .str)] O=.ok .non O:=by
  show fin (C5 [oQ f,oQ (F.map .str)] O)=_;unfold C5;rw[tU (tD (b:=Jg) (tF (oY (o_ rfl rfl) (QC hf g O))))];rfl
 show fin (Ki [oQ f,oQ (F.map .str)] O)=_;unfold Ki;exact rh (xJ (oY (o_ rfl rfl) a) (qO (oY (o_ rfl rfl) (Ku hf g.tm 'o' O))))
end
section
variable{n:Nat}{f:List D}(hf:Fn n f){F:m_}
include hf
theorem GX(b:F.Pairwise (· < ·))(a:∀t∈F,t∈gr n f)(c:∀p∈pV f,∃t∈F,p∈o4 t)(d:F.length<100):Fm n f F:=by refine⟨b,λt e=>um (a t e),?_,d⟩;unfold FA Dk;rw[aT,af,af];refine⟨λt q=>(aB.mp (aB.mp (a t q)).1).2,λp g=>?_⟩;obtain⟨t,q,h⟩:=c p g;exact bL.mpr ⟨t,q,aW.mpr h⟩
omit hf in
theorem nU{t:g_}{p:Nat}:hold t (p,p)=Jg↔p∈o4 t:=by unfold hold;rw[mZ];exact aW
omit hf in
theorem Hr(c:∀x∈rm f,∃t∈F,hold t x=Jg):t7 f F=[]:=List.eq_nil_iff_forall_not_mem.mpr λx a=>by
 obtain⟨t,q,b⟩:=c x (Qt x a);rw[P0 a q] at b;cases b
omit hf in
theorem Kw(a:∀x∈rm f,∃t∈F,hold t x=Jg):∀p∈pV f,∃t∈F,p∈o4 t:=λp b=>by
 obtain⟨t,q,c⟩:=a (p,p) (bA _ (av.mpr ⟨p,b,rfl⟩));exact⟨t,q,nU.mp c⟩
omit hf in
theorem Ym(a:∀p∈pV f,∃t∈F,p∈o4 t)(b:t7 f F=[]):∀x∈rm f,∃t∈F,hold t x=Jg:=λx c=>by
 rcases aK.mp c with h|h
 ·obtain⟨p,d,rfl⟩:=av.mp h;obtain⟨t,q,e⟩:=a p d;exact⟨t,q,nU.mpr e⟩
 ·exact Rg h (by rw[b];exact bE)
variable{m:Nat}{l:m_}(h:AX n f (rm f) m l)
include h
theorem YU:Fm n f l:=GX hf h.srt h.inn (Kw h.all) (by have:=h.few;have:=h.m18;lia)
theorem zhD:t7 f l=[]:=Hr h.all
end
def Q_{i j:Nat}{t:DA}{σ:Sg}{O O1:Ow}{x y:D}(h:t σ O=.ok [x,y] O1):DM i j t σ O=.nx ((σ.set i (Jd x)).set j (Jd y)) O1:=by show((t σ O).bnS _)=_;rw[h];rfl
def Kd{c d:DT}{σ:Sg}{O O1 O2:Ow}(a:c σ O=.ok Jh O1)(b:d σ O1=.ok Jh O2):ud c d σ O=.ok Jh O2:=by show((c σ O).bnd _)=_;rw[a];exact b
def G5{t:DE}{σ:Sg}{O:Ow}(h:t σ O=.ok (.bl Jg) O):o8 (h_ zl t xE) σ O=.ok Jh O:=rK (qF h rfl rfl)
def ltN{t u:DE}{σ:Sg}{O:Ow}{a b:Nat}(c:t σ O=.ok (.int (a:Nat)) O)(d:u σ O=.ok (.int (b:Nat)) O)(h:b<=a):o8 (h_ yQ t u) σ O=.ok Jh O:=
 rK (qF c d (show R.ok (D.bl (decide ((a:Int)<(b:Int)))) O=.ok (.bl Jh) O from by rw[decide_eq_false 'o']))
def Al(O:Ow)(l:m_):p8 O [.tup (l.map .str)]=.ok (.int (l.length:Nat)) O:=(K2 O _).trans (by rw[aA])
def zg2{n:Nat}{f:List D}(c:Fn n f)(Pt:Nat){O:Ow}(G:Pl O):Ia Pt [.tup f] O=.ok (.bl Jg) O:=by
 obtain⟨mf,F,d,Z⟩:=zff c;obtain⟨ms,L,g,eL⟩:=Lg c;have h18:=Bf c;have m:Fm n f F:=GX c d.srt d.inn d.all (by have:=d.few;have:=d.m18;lia);have gL:=YU c g;have gG:Fm n f (gr n f):=GX c (Pc c) (λt H=>H) (λp I=>Ql c I) 'o';have nG:t7 f (gr n f)=[]:=Hr λx r=>Pm c r;have nL:=zhD c g;have J:F.length<=L.length:=by
  rw[d.few];exact d.lm.le (N4 c g.inn (Kw g.all))
 obtain⟨mm,M,j,eM⟩:=ze0 c m;have w:=nX c m j (by have:=d.few;have:=d.m18;lia);have v:∀t,t∈pM (F++M)↔t∈F\/t∈M:=λt=>(xn _).trans aK;have Q:∀x∈rm f,∃t∈pM (F++M),hold t x=Jg:=λx r=>by
  by_cases e:x∈t7 f F
  ·obtain⟨t,q,s⟩:=j.all x e;exact⟨t,(v t).mpr (.inr q),s⟩
  ·rcases aK.mp r with h|h
   ·obtain⟨p,I,rfl⟩:=av.mp h;obtain⟨t,q,s⟩:=d.all p I;exact⟨t,(v t).mpr (.inl q),nU.mpr s⟩
   ·obtain⟨t,q,s⟩:=Rg h e;exact⟨t,(v t).mpr (.inl q),s⟩
 have nW:t7 f (pM (F++M))=[]:=Hr Q;have iW:∀t∈pM (F++M),t∈gr n f:=λt H=>by
  rcases (v t).mp H with q|q
  ·exact d.inn t q
  ·exact j.inn t q
 have K:L.length<=(pM (F++M)).length:=by
  rw[g.few];exact g.lm.le ((Ek c iW).mpr Q)
 have N:(F++M).Nodup:=by
  have S:∀{z:m_},z.Pairwise (· < ·)->z.Nodup:=λp=>p.imp λpW e=>by subst e;exact absurd pW (eE _)
  exact e8.mpr ⟨S d.srt,S j.srt,λa ha b hb e=>W8 c j hb (e▸ha)⟩
 have lF:=d.few;have lF2:=d.m18;have lM:=j.few;have lM2:=j.m18;have lL:=g.few;have lL2:=g.m18;let A:Option D:=oQ f;let k:Option D:=Jd (.tab Pt);let B:Option D:=oQ (F.map .str);let C:Option D:=oQ (L.map .str);let E:Option D:=oQ (M.map .str);let W:Option D:=oQ ((pM (F++M)).map .str);have T:=Lq c O;rw[HD c] at T;have u:=EV c m O;have U:=zhE c m O;have V:=EV c gL O;have X:=EV c gG O;have Y:=EV c w O;rw[nL] at V;rw[nG] at X;rw[nW] at Y;have xS:oO ui (a_ (oO yh (a_ (h_ vC oZ pQ) f_)) f_) [A,B,C,E,Jf,k] O=.ok (.tup ((pM (F++M)).map .str)) O:=by
  have e1:oO yh (a_ (h_ vC oZ pQ) f_) [A,B,C,E,Jf,k] O=.ok (.lst ((pM (F++M)).map .str)) O:=by
   refine qE (oP (x:=toT (F++M)) (O1:=O) ((qF rfl rfl (Wj O (by rw[aA,aA];lia))).trans (by unfold toT;rw[cA]))) ?_;show(match tO ((F++M).map D.str) with|some ss=>(if ss.Nodup/\ss.length<=1000 then R.ok (D.lst ((pM ss).map .str)) O else .bad)|none=>.bad)=_;rw[strL_map];show(if (F++M).Nodup/\(F++M).length<=1000 then R.ok (D.lst ((pM (F++M)).map .str)) O else .bad)=_;rw[Ji ⟨N,by rw[aw];lia⟩]
  exact qE (oP e1) rfl
 have BQ:pB Jh 1 (pA (k_ 2 D7 (a_ i_ pv))) (.one 6) [(o8 (h_ vt (pG 6) (k_ 1 Bp (a_ i_ f_))))] [] (pG 6) [A,B,C,E,W,k] O=.ok (.lst []) O:=by
  have qQ:=QA c (F:=F);refine(CD (o:=Jh) (ext:=1) (i:=6) (l:=t7 f F) (inj:=pr) (p:=λx=>!(tG f).contains x) (e:=pr) (τ:=λx=>[A,B,C,E,W,k,Jd (pr x)]) (sV (oY (o_ rfl rfl) U)) 'o' (λ_=>rfl) (λx _=>rK (qF rfl (oY (oP rfl) (K3 c O)) (Kq O x (tG f) (b:=(tG f).contains x) aW).2)) (λ_ _ _=>rfl)).trans ?_;rw[fU.mpr λx r=>by
   have:(tG f).contains x=Jg:=aW.mpr (aB.mp r).1;rw[this];simp]
  rfl
 show fin (L4 Pt [A,Jf,Jf,Jf,Jf,k] O)=_;unfold L4;refine rh (O1:=O) (yr (σ':=[A,B,C,Jf,Jf,k]) (O1:=O) ((Q_ (o_ (vF rfl (oP rfl) (Z Pt O G)) (vF rfl (oP rfl) (eL Pt O G)))).trans rfl) ?_);refine uC (O1:=O) (Kd (G5 (oY (o_ rfl (qE (oP (oY (oP rfl) T)) rfl)) X)) (G5 (oY (o_ rfl rfl) V))) ?_;refine uC (O1:=O) (Kd (ltN (qE (oP rfl) (Al O L)) (qE (oP rfl) (Al O F)) J) (rK (qF (oY (o_ rfl rfl) u) (qF (oY (o_ rfl rfl) U) rfl (nil_eq c m O _)) (WC O _)))) ?_;refine uC (O1:=O) ?_ (rE (vF rfl (o_ rfl rfl) (eM Pt O G)) (rE xS (uC (O1:=O) (Kd (G5 (oY (o_ rfl rfl) Y)) (ltN (qE (oP rfl) (Al O (pM (F++M)))) (qE (oP rfl) (Al O L)) K)) (qO (qF BQ rfl (G2 O (x:=[]) (y:=[]) rfl rfl (b:=Jg) 'd').1)))));cases P:(t7 f F).isEmpty with
 | false=>
  rw[P] at u;exact Sn (a:=Jh) (b:=Jg) (tF (oY (o_ rfl rfl) u)) (λh=>by cases h)
 | true=>
  rw[P] at u;have M_:=fx.mp P;have AF:L.length<=F.length:=by
   rw[g.few];exact g.lm.le ((Ek c d.inn).mpr (Ym d.all M_))
  have e:L.length=F.length:=by lia
  exact Sn (a:=Jg) (b:=Jh) (tF (oY (o_ rfl rfl) u)) (λ_=>rK (qF (qE (oP rfl) (Al O L)) (qE (oP rfl) (Al O F)) ((D5 O (x:=.int (L.length:Nat)) (y:=.int (F.length:Nat)) rfl rfl (b:=Jg) (by rw[e];simp)).2)))
def Yq{α:Type}[DecidableEq α]{h:DLC.Held α}{w:List α}{m:Nat}{c:m_}(e:c∈DLC.cov m h w):few h w m<=qH c:=by
 unfold few;cases f:DLC.cov m h w with
 |nil=>rw[f] at e;cases e
 | cons d l=>
  obtain⟨a,b⟩:=KW (l.map qH) (qH d);rw[f] at e;rcases ar.mp e with rfl|h
  ·exact a
  ·exact b _ (av.mpr ⟨c,h,rfl⟩)
def Dl{n:Nat}(a:1<=n)(b:n<=4):n∈[1,2,3,4]:=by rcases vw a b with rfl|rfl|rfl|rfl<;>simp
def XE:([1,2,3,4].all λn=>(YP n).all λt=>(aM (2 ^ n)).all λp=>(o4 t).contains p==Ee n t p)=Jg:=by decide +kernel
def Zn:([1,2,3,4].all λn=>(YP n).all λa=>(YP n).all λb=>!((o4 a).all λp=>(o4 b).contains p)||q0 n a b)=Jg:=by decide +kernel
def z9r:([1,2,3,4].all λn=>(YP n).all λa=>(YP n).all λb=>!(q0 n a b&&q0 n b a)||decide (a=b))=Jg:=by decide +kernel
def ziP:(ou.all λq=>(aM (2 ^ q.1)).all λr=>(YP q.1).all λs=>!((o4 s).length==2&&(o4 s).contains q.2&&(o4 s).contains r&&decide (q.2≠r))||t9 q.2 r||t9 r q.2)=Jg:=by decide +kernel
def zhV:([1,2,3,4].all λn=>(YP n).all λt=>(o4 t).length==2 ^ (t.count 45))=Jg:=by decide +kernel
def Sb:([1,2,3,4].all λn=>(xx n).all λq=>(aM (2 ^ n)).all λx=>(uP n q.1 q.2).contains x&&(aM x).all λy=>(uP n q.1 q.2).getD x 0 !=(uP n q.1 q.2).getD y 0)=Jg:=by decide +kernel
section
variable{n:Nat}(n1:1<=n)(n4:n<=4)
include n1 n4
theorem OT{t:g_}(a:t∈YP n){p:Nat}(b:p<2 ^ n):p∈o4 t↔Ee n t p=Jg:=by have:=af.mp (af.mp (af.mp XE n (Dl n1 n4)) t a) p (aU.mpr b);rw[beq_iff_eq] at this;rw[<- this];exact aW.symm
theorem LX{a b:g_}(c:a∈YP n)(d:b∈YP n)(h:∀p∈o4 a,p∈o4 b):q0 n a b=Jg:=by have:=af.mp (af.mp (af.mp Zn n (Dl n1 n4)) a c) b d;rw[af.mpr λp e=>aW.mpr (h p e)] at this;simpa using this
theorem zie{a b:g_}(c:a∈YP n)(d:b∈YP n)(h:∀p,p∈o4 a↔p∈o4 b):a=b:=by have:=af.mp (af.mp (af.mp z9r n (Dl n1 n4)) a c) b d;rw[LX n1 n4 c d λp e=>(h p).mp e,LX n1 n4 d c λp e=>(h p).mpr e] at this;simpa using this
end
section
variable{n:Nat}{o t:g_}
def old(n:Nat)(o t:g_)(p:Nat):Nat:=xt (xb n o t (uB n p))
variable(c:Ch n o t 0)(n1:1<=n)(n4:n<=4)
include n1 n4
theorem Bk(p:Nat):old n o t p<2 ^ n:=(GV n1 n4 (HB _ _ _ _) (HN _ _ _ _)).1
include c
theorem Bm{x:Nat}(a:x<2 ^ n):∃p,p<2 ^ n/\old n o t p=x:=by have:=af.mp (af.mp (af.mp Sb n (Dl n1 n4)) (o,t) (KO c)) x (aU.mpr a);obtain⟨p,b,e⟩:=av.mp (aW.mp (dI.mp this).1);exact⟨p,aU.mp b,e⟩
theorem Zr{p q:Nat}(b:p<2 ^ n)(d:q<2 ^ n)(e:old n o t p=old n o t q):p=q:=by
 have a:∀{x y:Nat},x<2 ^ n->y<x->old n o t x≠old n o t y:=λ{x y}hx hy e=>by
  have:=af.mp (af.mp (af.mp Sb n (Dl n1 n4)) (o,t) (KO c)) x (aU.mpr hx);have:=af.mp (dI.mp this).2 y (aU.mpr hy);have g:∀{z:Nat},z<2 ^ n->(uP n o t).getD z 0=old n o t z:=λ{z}hz=>by
   unfold uP;rw[au,bd,er hz];rfl
  dsimp only at this;rw[g hx,g (Nat.lt_trans hy hx),e] at this;simp at this
 rcases Nat.lt_trichotomy p q with h|h|h
 ·exact absurd e.symm (a d h)
 ·exact h
 ·exact absurd e (a b h)
theorem rV{s:g_}(a:s∈YP n){p:Nat}(b:p<2 ^ n):p∈o4 (qv n s o t)↔old n o t p∈o4 s:=by rw[OT n1 n4 (zu c n1 n4 a) b,OT n1 n4 a (Bk n1 n4 p),zcG c n1 n4 a p];rfl
theorem Kf{a b:g_}(d:a∈YP n)(f:b∈YP n)(e:qv n a o t=qv n b o t):a=b:=by
 have g:∀{a b:g_},a∈YP n->b∈YP n->qv n a o t=qv n b o t->∀x,x∈o4 a->x∈o4 b:=λ{a b}d f e x hx=>by
  obtain⟨p,h,rfl⟩:=Bm c n1 n4 (yv n1 n4 d hx);exact(rV c n1 n4 f h).mp (e▸(rV c n1 n4 d h).mpr hx)
 exact zie n1 n4 d f λx=>⟨g d f e x,g f d e.symm x⟩
theorem J0{s:g_}(f:s∈YP n):∃a∈YP n,qv n a o t=s:=by
 have g:(YP n).Nodup:=(Sl n1 n4).imp λh e=>by subst e;exact absurd h (eE _)
 have i:((YP n).map λa=>qv n a o t).Perm (YP n):=by
  refine DLC.perm_of_sub ?_ (λx j=>?_) (by rw[aA];exact aE _)
  ·refine dM.mpr (gK ?_ g);intro a b d k h e;exact h (Kf c n1 n4 d k e)
  ·obtain⟨a,d,rfl⟩:=av.mp j;exact zu c n1 n4 d
 obtain⟨a,d,e⟩:=av.mp (i.mem_iff.mpr f);exact⟨a,d,e⟩
omit c n1 n4 in
theorem Ti{l:g_}(d:Nat)(h:l.length=n):(aM n).map (λk=>l.getD k d)=l:=by subst h;refine il 'd' λi b a=>?_;rw[fw,jb,au,ao a];rfl
omit c n1 n4 in
theorem QN{α:Type}(f g:α->Nat)(h:∀x,(f x=45↔g x=45)):∀l:List α,(l.map f).count 45=(l.map g).count 45
 |[]=>rfl
 | x::l=>by
  rw[br,br,mJ,mJ,QN f g h l];have:=h x;by_cases e:f x=45
  ·rw[e,this.mp e]
  ·have a:g x≠45:=λq=>e (this.mpr q);simp[e,a]
theorem PY{s:g_}(a:s∈YP n):(qv n s o t).count 45=s.count 45:=by
 have b:(qv n s o t).count 45=((aM n).map λk=>s.getD (o.getD k 0) 45).count 45:=by
  unfold qv;refine QN _ _ (λk=>?_) _;unfold xr;split
  ·rename_i h;constructor
   ·intro e;split at e<;>cases e
   ·intro e;exact absurd e h.2
  ·exact Iff.rfl
 have d:((aM n).map λk=>s.getD (o.getD k 0) 45)=o.map λj=>s.getD j 45:=by
  have:=congrArg (List.map λj=>s.getD j 45) (Ti 0 c.ol);rw[aZ] at this;exact this
 rw[b,d,(c.p.map _).count_eq,Ti 45 (sJ n1 n4 a)]
theorem W0{s:g_}(a:s∈YP n):zC (qv n s o t)=zC s:=by unfold zC;rw[PY c n1 n4 a,sJ n1 n4 a,sJ n1 n4 (zu c n1 n4 a)]
theorem Pp{s:g_}(a:s∈YP n):(o4 (qv n s o t)).length=(o4 s).length:=by have g:∀{x:g_},x∈YP n->(o4 x).length=2 ^ x.count 45:=λ{x}hx=>beq_iff_eq.mp (af.mp (af.mp zhV n (Dl n1 n4)) x hx);rw[g (zu c n1 n4 a),g a,PY c n1 n4 a]
omit c in
theorem Pd{p q:Nat}(a:p<2 ^ n)(b:q<2 ^ n){s:g_}(d:s∈YP n)(e:(o4 s).length=2)(f:p∈o4 s)(g:q∈o4 s)(h:p≠q):t9 p q=Jg\/t9 q p=Jg:=by have:=af.mp (af.mp (af.mp ziP (n,p) (Hx n1 n4 a)) q (aU.mpr b)) s d;dsimp only at this;rw[e,aW.mpr f,aW.mpr g,decide_eq_true h] at this;simpa using this
omit c in
theorem QL{p q:Nat}(b:p<2 ^ n)(d:q<2 ^ n)(h:t9 p q=Jg):∃s∈YP n,o4 s=[p,q]:=by have a:=af.mp (af.mp RJ (n,p) (Hx n1 n4 b)) q (aU.mpr d);simp only[h,fF,h9] at a;obtain⟨s,e,f⟩:=bL.mp a;exact⟨s,e,of_decide_eq_true f⟩
omit c n1 n4 in
theorem P7{p q:Nat}(h:t9 p q=Jg):p≠q:=λe=>by
 unfold t9 at h;subst e;simp at h
theorem ZM{p q:Nat}(b:p<2 ^ n)(d:q<2 ^ n)(h:t9 p q=Jg):t9 (old n o t p) (old n o t q)=Jg\/t9 (old n o t q) (old n o t p)=Jg:=by obtain⟨i,f,e⟩:=QL n1 n4 b d h;obtain⟨s,a,rfl⟩:=J0 c n1 n4 f;refine Pd n1 n4 (Bk n1 n4 p) (Bk n1 n4 q) a (by rw[<- Pp c n1 n4 a,e];rfl) ((rV c n1 n4 a b).mp (by rw[e];simp)) ((rV c n1 n4 a d).mp (by rw[e];simp)) λg=>P7 h (Zr c n1 n4 b d g)
theorem ziX{p q:Nat}(b:p<2 ^ n)(d:q<2 ^ n)(h:t9 (old n o t p) (old n o t q)=Jg):t9 p q=Jg\/t9 q p=Jg:=by obtain⟨s,a,e⟩:=QL n1 n4 (Bk n1 n4 p) (Bk n1 n4 q) h;exact Pd n1 n4 b d (zu c n1 n4 a) (by rw[Pp c n1 n4 a,e];rfl) ((rV c n1 n4 a b).mpr (by rw[e];simp)) ((rV c n1 n4 a d).mpr (by rw[e];simp)) λf=>P7 h (by rw[f])
variable{f:List D}(hf:Fn n f)
include hf
theorem G3{p:Nat}(a:p<2 ^ n):(chg n f o t 0).getD p .non=f.getD (old n o t p) .non:=by unfold chg;rw[au,bd,er a];exact JJ (IS hf (Bk n1 n4 p))
theorem Ap{p:Nat}:p∈pV (chg n f o t 0)↔p<2 ^ n/\old n o t p∈pV f:=by
 have d:=EL n1 n4 hf o t;rw[nO,nO,d.len,hf.len];constructor
 ·rintro⟨a,b⟩;rw[G3 c n1 n4 hf a] at b;exact⟨a,Bk n1 n4 p,b⟩
 ·rintro⟨a,_,b⟩;exact⟨a,by rw[G3 c n1 n4 hf a];exact b⟩
theorem La{s:g_}(b:s∈YP n):q9 (chg n f o t 0) (qv n s o t)=q9 f s:=by
 rw[dq];unfold q9;rw[af,af];constructor
 ·intro h x d;obtain⟨p,a,rfl⟩:=Bm c n1 n4 (yv n1 n4 b d);have:=h p ((rV c n1 n4 b a).mpr d);rwa [G3 c n1 n4 hf a] at this
 ·intro h p a;have e:=yv n1 n4 (zu c n1 n4 b) a;rw[G3 c n1 n4 hf e];exact h _ ((rV c n1 n4 b e).mp a)
omit c in
theorem PK{s:g_}:s∈gr n f↔s∈YP n/\q9 f s=Jg/\(∃p∈pV f,p∈o4 s)/\∀b∈YP n,q9 f b=Jg->(∀p∈o4 s,p∈o4 b)->b=s:=by
 unfold gr Cy;rw[aB];unfold tS;rw[aB,aT,fx,fU];constructor
 ·rintro⟨⟨a,i⟩,l,d⟩;refine⟨a,i,?_,λb h m g=>?_⟩
  ·unfold yu at d;cases e:(pV f).filter λp=>(o4 s).contains p with
   |nil=>rw[e] at d;cases d
   | cons p r=>
    have j:p∈(pV f).filter λp=>(o4 s).contains p:=by rw[e];exact am
    exact⟨p,(aB.mp j).1,aW.mp (aB.mp j).2⟩
  ·have:=l b (aB.mpr ⟨h,m⟩);rw[LX n1 n4 a h g,gj] at this;exact Decidable.not_not.mp λe=>this (decide_eq_true e)
 ·rintro⟨a,i,⟨p,g,q⟩,d⟩;refine⟨⟨a,i⟩,λb h u=>?_,SO g q⟩;obtain⟨k,v⟩:=aB.mp h;obtain⟨w,x⟩:=dI.mp u;exact of_decide_eq_true w (d b k v λp g=>HC n1 n4 a k x g)
theorem JR{s:g_}(a:s∈YP n):qv n s o t∈gr n (chg n f o t 0)↔s∈gr n f:=by
 have u:=EL n1 n4 hf o t;rw[PK n1 n4 u,PK n1 n4 hf,La c n1 n4 hf a];constructor
 ·rintro⟨_,k,⟨p,g,v⟩,l⟩;obtain⟨h,w⟩:=(Ap c n1 n4 hf).mp g;refine⟨a,k,⟨_,w,(rV c n1 n4 a h).mp v⟩,λb d i m=>?_⟩;exact Kf c n1 n4 d a (l _ (zu c n1 n4 d) (by rw[La c n1 n4 hf d];exact i) λq e=>by
   have h:=yv n1 n4 (zu c n1 n4 a) e;exact(rV c n1 n4 d h).mpr (m _ ((rV c n1 n4 a h).mp e)))
 ·rintro⟨_,k,⟨x,j,r⟩,l⟩;obtain⟨p,g,rfl⟩:=Bm c n1 n4 (yv n1 n4 a r);refine⟨zu c n1 n4 a,k,⟨p,(Ap c n1 n4 hf).mpr ⟨g,j⟩,(rV c n1 n4 a g).mpr r⟩,λz y i m=>?_⟩;obtain⟨b,d,rfl⟩:=J0 c n1 n4 y;rw[La c n1 n4 hf d] at i;rw[l b d i λx j=>?_];obtain⟨q,e,rfl⟩:=Bm c n1 n4 (yv n1 n4 a j);exact(rV c n1 n4 d e).mp (m q ((rV c n1 n4 a e).mpr j))
omit c n1 n4 hf in
theorem nV{f:List D}{p q:Nat}:(p,q)∈tG f↔p∈pV f/\q∈pV f/\t9 p q=Jg:=by
 constructor
 ·intro h;obtain⟨a,b,d⟩:=cf.mp h;obtain⟨r,g,e⟩:=av.mp d;cases e;exact⟨b,aB.mp g⟩
 ·rintro⟨i,j,k⟩;exact cf.mpr ⟨p,i,av.mpr ⟨q,aB.mpr ⟨j,k⟩,rfl⟩⟩
omit c n1 n4 hf in
theorem nR{s:g_}{p q:Nat}:hold s (p,q)=Jg↔p∈o4 s/\q∈o4 s:=by unfold hold;rw[aT,aW,aW]
theorem Zt{x:Nat×Nat}(r:x∈rm (chg n f o t 0)):∃y∈rm f,∀s∈YP n,hold s y=Jg->hold (qv n s o t) x=Jg:=by
 rcases aK.mp r with h|h
 ·obtain⟨p,u,rfl⟩:=av.mp h;obtain⟨v,w⟩:=(Ap c n1 n4 hf).mp u;exact⟨(old n o t p,old n o t p),bA _ (av.mpr ⟨_,w,rfl⟩),λs b d=>nU.mpr ((rV c n1 n4 b v).mpr (nU.mp d))⟩
 ·obtain⟨p,q⟩:=x;obtain⟨z,d,A⟩:=nV.mp h;obtain⟨e,l⟩:=(Ap c n1 n4 hf).mp z;obtain⟨g,m⟩:=(Ap c n1 n4 hf).mp d;rcases ZM c n1 n4 e g A with a|a
  ·refine⟨_,ax _ (nV.mpr ⟨l,m,a⟩),λs b i=>?_⟩;obtain⟨j,k⟩:=nR.mp i;exact nR.mpr ⟨(rV c n1 n4 b e).mpr j,(rV c n1 n4 b g).mpr k⟩
  ·refine⟨_,ax _ (nV.mpr ⟨m,l,a⟩),λs b i=>?_⟩;obtain⟨j,k⟩:=nR.mp i;exact nR.mpr ⟨(rV c n1 n4 b e).mpr k,(rV c n1 n4 b g).mpr j⟩
theorem ZG{y:Nat×Nat}(B:y∈rm f):∃x∈rm (chg n f o t 0),∀s∈YP n,hold (qv n s o t) x=Jg->hold s y=Jg:=by
 have l:∀{z},z∈pV f->z<2 ^ n:=λ{z}i=>by have:=(nO.mp i).1;rwa [hf.len] at this
 rcases aK.mp B with h|h
 ·obtain⟨z,i,rfl⟩:=av.mp h;obtain⟨p,d,rfl⟩:=Bm c n1 n4 (l i);exact⟨(p,p),bA _ (av.mpr ⟨_,(Ap c n1 n4 hf).mpr ⟨d,i⟩,rfl⟩),λs g j=>nU.mpr ((rV c n1 n4 g d).mp (nU.mp j))⟩
 ·obtain⟨a,b⟩:=y;obtain⟨v,j,C⟩:=nV.mp h;obtain⟨p,d,rfl⟩:=Bm c n1 n4 (l v);obtain⟨q,k,rfl⟩:=Bm c n1 n4 (l j);have w:=(Ap c n1 n4 hf).mpr ⟨d,v⟩;have A:=(Ap c n1 n4 hf).mpr ⟨k,j⟩;rcases ziX c n1 n4 d k C with e|e
  ·refine⟨_,ax _ (nV.mpr ⟨w,A,e⟩),λs g m=>?_⟩;obtain⟨r,u⟩:=nR.mp m;exact nR.mpr ⟨(rV c n1 n4 g d).mp r,(rV c n1 n4 g k).mp u⟩
  ·refine⟨_,ax _ (nV.mpr ⟨A,w,e⟩),λs g m=>?_⟩;obtain⟨r,u⟩:=nR.mp m;exact nR.mpr ⟨(rV c n1 n4 g d).mp u,(rV c n1 n4 g k).mp r⟩
theorem Qe{S:m_}(b:∀s∈S,s∈gr n f)(h:∀y∈rm f,∃s∈S,hold s y=Jg):∀x∈rm (chg n f o t 0),∃s∈S.map λs=>qv n s o t,hold s x=Jg:=λx d=>by
 obtain⟨y,e,k⟩:=Zt c n1 n4 hf d;obtain⟨s,a,g⟩:=h y e;exact⟨_,av.mpr ⟨s,a,rfl⟩,k s (um (b s a)) g⟩
theorem zik{S:m_}(b:∀s∈S,s∈gr n f)(h:∀x∈rm (chg n f o t 0),∃s∈S.map λs=>qv n s o t,hold s x=Jg):∀y∈rm f,∃s∈S,hold s y=Jg:=λy d=>by
 obtain⟨x,e,k⟩:=ZG c n1 n4 hf d;obtain⟨j,g,i⟩:=h x e;obtain⟨s,a,rfl⟩:=av.mp g;exact⟨s,a,k s (um (b s a)) i⟩
theorem QE:∀{T:m_},(∀s∈T,s∈gr n (chg n f o t 0))->∃S:m_,(∀s∈S,s∈gr n f)/\(S.map λs=>qv n s o t)=T
 |[],_=>⟨[],λ_ h=>(bE h).elim,rfl⟩
 | x::T,h=>by
  obtain⟨S,d,rfl⟩:=QE (T:=T) λs hs=>h s (ak _ hs);have b:=h x am;obtain⟨a,e,rfl⟩:=J0 c n1 n4 (um b);refine⟨a::S,λs hs=>?_,rfl⟩;rcases ar.mp hs with rfl|hs
  ·exact(JR c n1 n4 hf e).mp b
  ·exact d s hs
theorem P6{S:m_}(a:∀s∈S,s∈gr n f):qH (S.map λs=>qv n s o t)=qH S:=by unfold qH;rw[aZ];exact congrArg List.sum (dj λs b=>W0 c n1 n4 (um (a s b)))
omit c in
theorem RN{m:Nat}{l S:m_}(h:AX n f (rm f) m l)(a:∀s∈S,s∈gr n f)(b:∀x∈rm f,∃s∈S,hold s x=Jg):l.length<=S.length/\(S.length=l.length->qH l<=qH S):=by have C:=(Ek hf a).mpr b;rw[h.few];refine⟨h.lm.le C,λe=>?_⟩;obtain⟨d,g,p⟩:=h.lm.all C e;rw[h.sg,<- RC p];exact Yq g
theorem zb5{m p:Nat}{l d:m_}(h:AX n f (rm f) m l)(h':AX n (chg n f o t 0) (rm (chg n f o t 0)) p d):d.length=l.length/\qH d=qH l:=by
 have q:=EL n1 n4 hf o t;obtain⟨S,g,e⟩:=QE c n1 n4 hf h'.inn;have a:=RN n1 n4 q h' (S:=l.map λs=>qv n s o t) (λs r=>by
  obtain⟨x,j,rfl⟩:=av.mp r;exact(JR c n1 n4 hf (um (h.inn x j))).mpr (h.inn x j)) (Qe c n1 n4 hf h.inn h.all)
 have b:=RN n1 n4 hf h g (zik c n1 n4 hf g (by rw[e];exact h'.all));have u:=P6 c n1 n4 hf h.inn;have k:=P6 c n1 n4 hf g;rw[e] at k;have v:S.length=d.length:=by rw[<- e,aA]
 rw[aA,u] at a;rw[v,<- k] at b;have i:d.length=l.length:=jT a.1 b.1;exact⟨i,mH (a.2 i.symm) (b.2 i)⟩
end
def At.set{O:Ow}(h:At O)(m:Nat)(s:Int)(b:Bool):At (O.set m [.int s,.bl b]):=λc e d a=>by
 rcases fj e with q|q
 ·exact h c q d a
 ·subst q;simp only[ar,bE,or_false] at a;rcases a with rfl|rfl<;>rfl
def At.app{O:Ow}(h:At O)(s:Int)(b:Bool):At (O++[[.int s,.bl b]]):=λc e d a=>by
 rcases aK.mp e with q|q
 ·exact h c q d a
 ·have:c=[.int s,.bl b]:=⇑q
  subst this;simp only[ar,bE,or_false] at a;rcases a with rfl|rfl<;>rfl
def zhF{O:Ow}{l:m_}(a:l.Nodup)(b:l.length<64):CH O [.lst (l.map .str)]=.ok (.lst ((pM l).map .str)) O:=by show(match tO (l.map D.str) with|some ss=>(if ss.Nodup/\ss.length<64 then R.ok (D.lst ((pM ss).map .str)) O else .bad)|none=>.bad)=_;rw[strL_map];show(if l.Nodup/\l.length<64 then R.ok (D.lst ((pM l).map .str)) O else .bad)=_;rw[Ji ⟨a,b⟩]
def W2{t:DE}{σ:Sg}{O O1:Ow}{i j:Nat}{x y:D}(h:t σ O=.ok (.tup [x,y]) O1):Gs (.two i j) t σ O=.nx ((σ.set i (Jd x)).set j (Jd y)) O1:=by show((t σ O).bnS _)=_;rw[h];rfl
def Zj(O:Ow)(i j:Int):pj qW O (.tup [.int i,.int j]) (.tup [.int i,.int j])=.ok (.bl Jh) O:=(D5 O (x:=.tup [.int i,.int j]) (y:=.tup [.int i,.int j]) rfl rfl (b:=Jg) 'd').2
def Wy{te:DE}{σ:Sg}{O O1:Ow}{o t:g_}{a:Nat}(h:te σ O=.ok (C o t a) O1):h_ vC (yU te xH (yo vA)) (uc (a_ qy f_)) σ O=.ok (C o t 0) O1:=by
 have e:yU te xH (yo vA) σ O=.ok (.tup [.tup (oR o),.tup (oR t)]) O1:=by
  show((te σ O).bnd _)=_;rw[h];rfl
 exact qF e (Bn (oP rfl) (by show 1<=4000000;decide)) rfl
def zfA{Pt:Nat}{ns:List Int}{k:Nat}{O:Ow}(hO:At O){y2 y3 y4 y5 y6 y7 y8 y9:Option D}:
  ∃z2 z3 z4 z5 z6 z7 z8 z9 O',D4 Pt [qu (ns.map .int),n_ (k:Int),y2,y3,y4,y5,y6,y7,y8,y9,Jd (.tab Pt)] O=.nx [qu (ns.map .int),n_ (k:Int),z2,z3,z4,z5,z6,z7,z8,z9,Jd (.tab Pt)] O'/\At O':=by
 let A:Option D:=qu (ns.map .int);let B:Option D:=n_ (k:Int);let v:Option D:=Jd (.tab Pt);obtain⟨s,b,s1,s2⟩:=zfx (ns:=ns) (k:=k) O;have J:At (O++[[.int s,.bl b]]):=hO.app s b;generalize hm:O.length=m at *;generalize Vm:O++[[D.int s,D.bl b]]=O1 at *;obtain⟨r,K,r1,r2,r3⟩:=CT s2 (k:=4) 's' 's';have j:1<=1+r:=by lia
 have g:1+r<=4:=by lia
 have V:=J.set m K b;have en:h_ vC qw (k_ 2 sh (a_ pO (a_ (dC (.int 4)) f_))) [A,B,qm m,y3,y4,y5,y6,y7,y8,y9,v] O1=.ok (.int ((1+r:Nat):Int)) (O1.set m [.int K,.bl b]):=(qF rfl (oY (o_ rfl rfl) r2) (show vC _ (.int 1) (.int (r:Nat))=.ok (.int (1+(r:Nat))) _ from rfl)).trans (by congr 2);generalize hn:1+r=n at *;generalize hO2:O1.set m [D.int K,D.bl b]=O2 at *;obtain⟨f,W,u,f1,f2⟩:=z9B V.flat r3 j g Jg;have X:=V.set m W b;generalize hO3:O2.set m [D.int W,D.bl b]=O3 at *;obtain⟨o,t,a,Y,c1,c2,M⟩:=zcb X.flat f2 g;have Z:=X.set m Y b;generalize hO4:O3.set m [D.int Y,D.bl b]=d at *;have c:Ch n o t 0:=⟨M.p,M.l,M.b,by lia⟩;have P:=Z.pl;have Q:=EL j g u o t;obtain⟨ms,l,h,el⟩:=Lg u;obtain⟨m',z,H,R⟩:=Lg Q;have q:=zb5 c j g u h H;have l18:l.length<=18:=by have:=h.few;have:=h.m18;lia
 have l18':z.length<=18:=by have:=H.few;have:=H.m18;lia
 have T1:∀t∈l,t∈nH:=λt T=>uk j g (um (h.inn t T));have T2:∀t∈z,t∈nH:=λt T=>uk j g (um (H.inn t T));have U:(l.map λs=>qv n s o t).Nodup:=by
  have nd:l.Nodup:=h.srt.imp λpW e=>by subst e;exact absurd pW (eE _)
  refine dM.mpr (gK ?_ nd);intro a b ha hb qB e;exact qB (Kf c j g (um (h.inn a ha)) (um (h.inn b hb)) e)
 have cn:=Qe c j g u h.inn h.all;have uW:∀s,s∈pM (l.map λs=>qv n s o t)↔s∈l.map λs=>qv n s o t:=λs=>xn _;have cs:∀x∈rm (chg n f o t 0),∃s∈pM (l.map λs=>qv n s o t),hold s x=Jg:=λx I=>by
  obtain⟨s,y,h2⟩:=cn x I;exact⟨s,(uW s).mpr y,h2⟩
 have gS:Fm n (chg n f o t 0) (pM (l.map λs=>qv n s o t)):=by
  have:=HJ (l.map λs=>qv n s o t);rw[aA] at this;exact GX Q (EJ _) (λs y=>by
   obtain⟨x,I,rfl⟩:=av.mp ((uW s).mp y);exact(JR c j g u (um (h.inn x I))).mpr (h.inn x I)) (Kw cs) 'o'
 have UG:=EV Q gS d;rw[Hr cs] at UG;let S:Option D:=qm m;let N:Option D:=n_ (n:Nat);let F:Option D:=oQ f;let w:Option D:=Jd (C o t 0);let G:Option D:=oQ (chg n f o t 0);let L:Option D:=oQ (l.map .str);let E:Option D:=oQ ((pM (l.map λs=>qv n s o t)).map .str);let L':Option D:=oQ (z.map .str);have xS:oO ui (a_ (oO CH (a_ (pB Jh 1 (pA (pG 7)) (.one 11) [] [] (k_ 3 EY (a_ pQ (a_ (pG 11) (a_ vc f_))))) f_)) f_) [A,B,S,N,F,w,G,L,y8,y9,v] d=.ok (.tup ((pM (l.map λs=>qv n s o t)).map .str)) d:=by
  have x9:pB Jh 1 (pA (pG 7)) (.one 11) [] [] (k_ 3 EY (a_ pQ (a_ (pG 11) (a_ vc f_)))) [A,B,S,N,F,w,G,L,y8,y9,v] d=.ok (.lst ((l.map λs=>qv n s o t).map .str)) d:=by
   refine(vd (o:=Jh) (ext:=1) (i:=11) (l:=l) (inj:=D.str) (e:=λs=>D.str (qv n s o t)) (τ:=λs=>[A,B,S,N,F,w,G,L,y8,y9,v,qV s]) (Am rfl) 'o' (λ_=>rfl) (λs y=>oY (Ar rfl (o_ rfl rfl)) (z5m c j g (um (h.inn s y)) d))).trans ?_;rw[aZ];rfl
  exact qE (oP (qE (oP x9) (zhF U (by rw[aA];lia)))) rfl
 refine⟨S,N,F,w,G,L,E,L',d,?_,Z⟩;unfold D4;refine rE (oY (o_ rfl rfl) s1) (rE en (yr (σ':=[A,B,S,N,F,w,y6,y7,y8,y9,v]) (O1:=d) ((W2 (Bn (o_ (oY (Ar rfl (o_ rfl rfl)) f1) (Wy (oY (o_ rfl rfl) c1))) (by show 2<=4000000;decide))).trans rfl) ?_));refine uC (O1:=d) (tD (b:=Jg) (tF (vF rfl (oP rfl) (zg2 u Pt P)))) ?_;refine yr (σ':=[A,B,S,N,F,w,G,L,y8,y9,v]) (O1:=d) ((Q_ (o_ (oY (o_ rfl rfl) (z5q c j g u d)) (vF rfl (oP rfl) (el Pt d P)))).trans rfl) ?_;refine rE xS (uC (O1:=d) (G5 (oY (o_ rfl rfl) UG)) (rE (vF rfl (oP rfl) (R Pt d P)) ?_));rw[tU (b:=Jh) (O1:=d) (rK (qF (Bn (o_ (qE (oP rfl) (Al d z)) (oY (oP rfl) (KN T2 'o' d))) (by show 2<=4000000;decide)) (Bn (o_ (qE (oP rfl) (Al d l)) (oY (oP rfl) (KN T1 'o' d))) (by show 2<=4000000;decide)) (by rw[q.1,q.2];exact Zj _ _ _)))];rfl
def pure_law(Pt:Nat)(ns:List Int)(f:ns.length<=63):∃O,F_law Pt [.lst (ns.map .int)] []=.ok (.bl Jg) O:=by
 let A:Option D:=qu (ns.map .int);let b:Option D:=Jd (.tab Pt);obtain⟨m,g,h⟩:=zgt f [A,Jf,Jf,Jf,Jf,Jf,Jf,Jf,Jf,Jf,b] 3 's' rfl;obtain⟨j,a,l,d,y2,y3,y4,y5,y6,y7,y8,y9,rfl,s⟩:=PV (i:=1) (body:=D4 Pt) (Hu (oP h) g) (λ_ e a=>∃d y2 y3 y4 y5 y6 y7 y8 y9,e=[A,d,y2,y3,y4,y5,y6,y7,y8,y9,b]/\At a) (λ_ i e a _ n=>by
   obtain⟨d,y2,y3,y4,y5,y6,y7,y8,y9,rfl,o⟩:=n;obtain⟨t,u,v,w,x,y,z,B,C,p,q⟩:=zfA (Pt:=Pt) (ns:=ns) (k:=i) o (y2:=y2) (y3:=y3) (y4:=y4) (y5:=y5) (y6:=y6) (y7:=y7) (y8:=y8) (y9:=y9);exact⟨_,_,p,_,_,_,_,_,_,_,_,_,rfl,q⟩) ⟨Jf,Jf,Jf,Jf,Jf,Jf,Jf,Jf,Jf,rfl,λc r=>by cases r⟩
 refine⟨a,?_⟩;show fin (oM (yg (vf (a_ (oO Bi (a_ qw (a_ (oO A_ (a_ (oO p8 (a_ i_ f_)) (a_ (dC (.int ((3:Nat):Int))) f_))) f_))) f_)) (.one 1) (D4 Pt)) (oX xE) [A,Jf,Jf,Jf,Jf,Jf,Jf,Jf,Jf,Jf,b] [])=_;rw[tX l];rfl
end K89
open PySem PySem.W PyProof.Rows
set_option maxRecDepth 100000 in
set_option maxHeartbeats 0 in
theorem PySem.Challenge.cw_leastterms_k89_whole_smooth_forms_holds : PySem.Challenge.rw_leastterms_k89_whole_smooth_forms.Holds := by
 w_on;refine lQ K89.ws fun Mq=>?_;refine PySem.W.holds_openX (q:=K89.Qv) (loose:=K89.Lv) (N:=6406) (Xt:=K89.Xv) (XP:=PySem.W.XL K89.Qv []) (Yf:=(fun s=>(PySem.W.Hook.obs K89.Hk s,decide (0<s.toks)))) (Ya:=(fun w=>(PySem.W.Hook.val K89.Hk w,true))) K89.lw (fun s e=>PySem.W.xl_of s (dI.mp e).1) PySem.W.XL.keeps (by rfl) (by rfl) (by rfl) (fun s e=>PySem.W.recFacts_of (dI.mp e).2) (by rfl) (by first|assumption|decide +kernel) (by decide +kernel) ⟨rfl,rfl,rfl,rfl,rfl,by decide +kernel⟩ ?hw ?hc;(case hw=>w_witness2)
 delta K89.Hk;k_fill
 refine DL.walkU (xd := "covers") (l:=PySem.Challenge.rw_leastterms_k89_whole_smooth_forms) (k:=29) (x := "_law_script") (F:=K89.F_law) rfl rfl ⟨rfl,by decide,by decide⟩ (PySem.W.Hook.of K89.Hk) (PySem.W.Hook.keeps K89.Hk) (fun w h Y=>PySem.W.km_in_of Y) ?R ?F K89.pure_law
 case R=>first|rfl|kernel_rfl
 case F=>
  intro w mg fa h KX G FR
  refine' K89.all_mk KX G FR ⟨'7','7','7','7','7','7','7','7','7','7','7','7','7','7','7','7','7','7','7','7','7','7','7','7','7','7','7','7','7','7','7','7','7','7','7','7','7','7','7','7','7','7','7','7','7','7','7','7','7','7','7','7','7','7','7','7','7','7','7','7','7',bz KX G ?_,bz KX G ?_,bz KX G ?_,bz KX G ?_,bz KX G ?_,bz KX G ?_,bz KX G ?_,bz KX G ?_,bz KX G ?_,bz KX G ?_,bz KX G ?_,bz KX G ?_,bz KX G ?_,bz KX G ?_,bz KX G ?_,bz KX G ?_,bz KX G ?_,K89.gs_mk KX G ?_,K89.gt_mk KX G ?_ ?_ ?_ ?_,K89.gi_mk KX G ?_,K89.gu_mk KX G ?_ ?_ ?_⟩ ?Ha ?Hl ?_ ?_ ?Ha2 ?Hl2 ?_ ?_ ?Gh4 ?Gh5 ?_
  (case' Ha|Hl|Ha2|Hl2|Gh4=>k_is)
  (case Gh5=>rfl)
  all_goals first|k_is|kernel_rfl|rfl|skip
end
