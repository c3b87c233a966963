import PyProof.Rows.All
import Wide.All
import OpenK.AllK
import Wide.FinOn
import Lean
import PyProof.EqAt
import PyProof.EqKinds
import PyProof.TupleCall
import PySem.Challenge.RW_leastterms_k60_shared_forms_known
set_option Elab.async false
set_option linter.all false
set_option autoImplicit true
set_option relaxedAutoImplicit true
set_option maxRecDepth 100000
open PySem renaming wpAny_bind->aa,Value->ae,Addr->af,Shared->ai,wpAny_pure->am,wpAny->ar,model->ay,starEach->aD,Program->aJ,Expr->aK,Heap->aP,World->aR,bootBuiltins->a8,Around->ba,wpAny_field->bd,mem_of_lookup->be,Paired->bi,rawInt->bj,wpAny_newObj_type->bn,wpAny_setField_rec->br,mainGlobals->bz,wpAny_callSpecial?_slot->bB,wpAny_call_entry->bF,Comprehension->bJ,wpAny_holding->bL,cellsFrom->bP,compareOp->b0,Scope->b9,foldedSetIterable->cb,Stmt->cu,Builtin->cA,NameKind->cD,importedModules->cF,wpAny_truthy_bool->cQ,binaryOp->cU,FuncData->cX,wpAny_mono->c7,PyData->db,IsPair->dj,wpAny_seqItems->dr,wpAny_askSetting->dL,wpAny_setField->dN,codeAny_mono->dU,wpAny_Call_Name_kw->dW,Arguments->dX,wpAny_passesOwn->dZ,wpAny_with_toks->d0,wpAny_setState_of->ez,wpAny_rule->eD,sizeLine_eq->eF,Keyword->eG,wpAny_standAt->eQ,wpAny_attempt->eR,wpAny_execs_nil->eS,call_meets->eV,codeAny_builtin->e8,wpAny_pyIter_list->fe,IsZip->fg,IsPart->fj,wpAny_execs_cons->fk,assignEach->fq,swapsWithSole->fv,swappedStores->fw,OsState->fC,wpAny_binaryOp_repeat_ref->fJ,wpAny_typeOf->fL,IsEnum->fQ,typeIs_int->fT,wpAny_onRaise->gm,wpAny_isInstance->gu,BindsTo->gx,ElemsOf->gA,Params->gE,wpAny_Name->gG,wpAny_call->gH,codeAny_of_tree->gL,pushCells_keeps->gM,wpAny_updateSeq_pair->gP,wpAny_setEntries_of->gZ,isSubtype_type->h9,wpAny_letGo->ij,concat_meets->ip,wpAny_newFunctionEnv_cells->iA,plainId_quiet->iF,wpAny_sequenceKey->iI,wpAny_pyIter_slot->iL,fits_of_scanBound->iM,noFill_tuple_add->iY,SetTable->i6,Model->jh,PassesOwn->ji,wpAny_updateSeq->jm,wpAny_Call_method_late->jp,wpAny_of_eq->jr,wpAny_isTrue_Compare1->jy,codeAny_call_function->jA,intText?->jC,wpAny_newTuple->jE,isSubtype_stop->jF,builtinLookup_eq_fast->jI,wpAny_loadName_local->jO,typeIs_str->jR,codeAny_call_builtin->jS,seq_tuple_add->jZ,evalPart_none->j4,wpAny_loadName_cell->kg,wpAny_loadName_free->kh,wpAny_pyIter_tuple->kC,pushCells->kF,seqIndex_of->lb,GenState->lg,seqSlot_of->lp
open PySem.Heap renaming get?_push_of_some->ah,get?_push_size->aC,lt_size->aF,get?_update_other->bq,get?_update_self->bC,size_push->bQ,SameBut->cr,size_update->gp,get?_none_of_le->gF,ExtBut->ig
open PySem.W renaming Frag->aj,kitOne->aI,mg_none_of->bt,fnOf->bA,boot_heap->bZ,mg_of->cg,InstAt->cq,keepIn->cC,findIn->cO,kla_fn->c8,codeIn->dk,exmOne->dq,cellsFrom_some->e9,nsIn->fP,specialIn->fZ,mroIn->gj,FnAt->gO,noTabs->hJ,callWith_K->io,tabIn->iD,methodObj->iH,takesIn->jj,kia_one->jk,kla_obj->jl,tabObj->jD,ofPys->j5,excIn->j7,recFacts_of->ka,codeRec_of->ku,OpenLaw->kz,ofPy->kA,SharedT->kN,kitx_none->kS,kitx_bool->kT,kitx_list->kU,kitx_dict->kW,plainGet->lh,instObj->lz,kitAny->lF,CodeHd->lG,xl_of->lL,clsIn->lM,isFn->lR,XL->lZ
open False renaming elim->ak
open List renaming getElem?_eq_some_iff->ao,replicate->aq,mem_cons_of_mem->au,mem_cons->av,getElem?_eq_getElem->aw,length_map->az,size_toArray->aA,length_append->aE,all_eq_true->aG,mem_cons_self->aH,getElem?_append_left->aL,not_mem_nil->aM,mem_map->aO,getElem?_eq_none_iff->aQ,getD_eq_getElem?_getD->aS,getElem?_set_self->aT,range->aU,mem_of_getElem?->aW,getElem?_set_ne->aY,getElem?_map->bc,mem_append->bg,getElem?_append_right->bp,mem_range->bv,mem_append_right->bw,set_set->bD,getElem_mem->bG,map_map->bK,map_cons->bM,nodup_cons->bO,length_set->bT,contains_iff_mem->bV,length_cons->bX,length_filter_le->cm,flatMap_cons->cn,replicate_succ->cx,nil_append->cG,pairwise_cons->cI,mem_append_left->cK,lookup_cons->cL,length_range->cR,map_inj_left->cS,filterMap_cons->cT,map_append->cW,length_eq_zero_iff->de,mem_filter->dg,append_nil->dh,find?_cons->dD,nodup_append->dG,getElem?_replicate->dH,map_congr_left->dI,length_take->dJ,any_eq_true->dM,take_length->dO,length_singleton->d7,set_append_right->ee,getElem_map->eL,mem_flatMap->eM,flatten_cons->fh,mem_iff_getElem->ft,length_eraseIdx_of_lt->fA,length_nil->fF,forIn_cons->fG,foldl_cons->fH,getElem?_take->fO,take_succ->fU,lt_irrefl->fV,eraseIdx_cons_succ->fY,append_assoc->f8,any_cons->gk,cons_append->gq,length_replicate->gy,getElem?_toArray->gz,of_mem_zip->gJ,map_nil->gK,length_take_le'->gU,getElem?_range->gY,length_take_le->g7,flatMap_append->g8,nodup_nil->hV,mem_filterMap->im,lt_trans->iG,pairwise_iff_getElem->iU,getElem_inj->iW,length_drop->iZ,filter_cons->i3,isEmpty_iff->jb,eq_of_mem_replicate->jc,all_eq_not_any_not->jg,length_zip->jn,not_lt->jv,map_id->jw,filter_eq_nil_iff->jx,forIn_nil->jB,take_append_drop->jJ,getElem?_of_mem->jT,mem_of_mem_take->jX,all_cons->j8,filter_eq_self->ki,length_reverse->km,any_map->kH,all_map->kI,getElem_range->kK,map_id'->kL,reverse_cons->kY,ext_getElem?->k7,length->k9,zipIdx_cons->ll,le_antisymm->lq,map->lr,flatMap_nil->lu,map_flatMap->lv,zipIdx_nil->lC,drop_drop->lE,take_zero->lI
open Nat renaming le_refl->aB,lt_of_lt_of_le->aN,ne_of_lt->aX,le_trans->bb,lt_irrefl->bE,zero_le->bW,lt_succ_self->ci,lt_succ_of_lt->cy,succ_pos->cB,ne_of_gt->cM,le_succ->dQ,le_of_ble_eq_true->d9,le_of_lt->eI,add_sub_cancel_left->eN,le_add_right->fu,lt_of_le_of_lt->fM,sub_self->gT,mul_le_mul->ib,not_lt->iR,add_assoc->j9,add_comm->kE,le_of_succ_le->kQ,min_le_right->li
open Array renaming getElem?_eq_getElem->aV,length_toList->ck,getElem?_toList->dm,getElem?_eq_some_iff->fz,getElem?_setIfInBounds_self->gg,getElem?_eq_none->ju,mk->jM,toList_append->kl,append_assoc->kq,toList->kr,toList_push->kZ
open PySem.PyData renaming eqv->aZ,list->da,eqvAll->er,tuple->fN,canLay0->hG,int->iB,depth->kG,canLayAll0->kR,depthAll->lA
open PyProof.Rows renaming envOfC->bf,slot_tuple_getitem->bu,callWith_type1->dS,StrsAre->eB,AllBare->fi,entry_tuple_getitem->gX,slicePart_none->g9,args_tuple_getitem->iq,subscriptTail_builtinR->jo,Call_->jL,Subscript_->jQ,tupleItemsOf_->j0,IntsAre->kO
open Bool renaming and_eq_true->bh,false_ne_true->bH,false_eq_true->cH,eq_iff_iff->cV,and_eq_true_iff->eC,or_eq_true->gN,not_eq_true'->iK,not_not->kM,not_true->lQ
open Ne renaming symm->bo
open PySem.Builtin.SmallTypes renaming nextOf->bI,ownedTupleIsFree->bU,ownedTupleHandOut->cZ
open Option.some renaming inj->bN
open PySem.Builtin.Str renaming occurrences->bR
open PySem.Builtin.Tuple renaming tupleExact->bS,tupleItemsOf->fx,tupleTooMany->fB,tupleIsExact->iE
open PySem.Obj renaming data_mapFields->cf,isFreed_of_fields->cE,mapSeq->dB,mapFields->en,cls_mapFields->iJ,putSet->jW
open PySem.Value renaming none->cj,ref->cP,isStrOf->ef,builtin->fy,isInt->gd,isStrOf_shape->gW,str->ik,type->iN,notImplemented->jV,int->ko
open PySem.Builtin.Slice renaming slicePlaces->cw,sliceApplied->ei,sliceAdjust->fE,sliceFields->iO
open PySem.NameKind renaming free->cz,cell->cN
open PySem.F renaming plainAttrs_list->cJ,slot_list_append->c9,slot_int_rmul->du,type_list_append->dE,slot_str_ascii_iterator_next->dF,slot_enumerate_next->d8,slot_tuple_iterator_next->eo,called_set->eJ,slot_tuple_mul->fc,args_tuple_add_2->fK,entry_tuple_add->fW,args_int_rmul_2->fX,slot_tuple_add->ge,slot_int_index->gh,entry_int_rmul->gi,args_str_ascii_iterator_next_1->gr,fills_int_mul->gC,entry_str_ascii_iterator_next->gD,slot_zip_next->gQ,args_tuple_iterator_next_1->hU,entry_tuple_iterator_next->ir,excBase_ValueError->iC,slot_dict_getitem->iP,args_tuple_mul_2->ja,args_enumerate_next_1->jd,slot_tuple_rmul->je,entry_tuple_mul->jf,plainAttrs_str->js,entry_enumerate_next->jt,slot_enumerate_iter->jG,slot_list_extend->jH,slot_list_pop->ky,attr_ValueError->kP,args_zip_next_1->kX,plain_list_iadd->k8,entry_zip_next->lm
open PySem.Builtin.List renaming listTooLong->cY,listLengthHint->iu,listExtendWith->iw,listSameRef->i7
open PySem.Heap.SameBut renaming update->di
open PySem.SetTable renaming below->dP,grown->eH,fits->lP
open True renaming intro->dR
open PyProof.Rows.F renaming plain_set_update_loop->dY,entry_set_update_loop->fR
open Int renaming toNat_natCast->eu,emod_lt_of_pos->fS,emod_nonneg->gR,fdiv_eq_ediv_of_nonneg->iz
open PySem.Around renaming under_plainId->eE,frames_deeper->jP
open PySem.Calls renaming spliced_cons->eU,spliced_nil->f6,evalArgs_plain->gf,Constant_str->il,Name_function_global->iy,callWith_builtin->jq
open ForInStep renaming yield->eY
open Option renaming map_some->eZ,map_eq_some_iff->gc,none->ie,isSome_iff_exists->iX,isSome_some->kB,getD_none->lj
open Sum renaming inl->fD,inr->iV
open List.Pairwise renaming nil->f7
open PySem.SetTable.below renaming go->f9
open PySem.Builtin.ObjectAttr renaming bindTo->iQ
open Classical renaming byContradiction->iS
open PySem.Builtin renaming bitAnd->jz
open List.Perm renaming refl->jK
open Prod renaming ext->jN
open PySem.Txt renaming join->jU,slice->lK
open PySem.Paired renaming length->jY
open PySem.Code renaming compLoop->j6,compStart->lD
open PySem.EntryCells renaming newEntry->kj
open PySem.W.Hook renaming keeps->kn,obs->lc,val->le,of->ly
open PySem.Heap.IsSliceOf renaming new->kw
open PySem.pickOrder renaming go->kJ
open PySem.W.XL renaming keeps->lf
open PySem.Str renaming ofString->lx
open PySem.Walks renaming list->lB
open PySem.Builtin.Frozenset renaming updateFrom->lH,newClass->lN,addrOf->lT,sizeOf->lU,slot0->lV
open PySem.W.WData renaming int->lJ
open PySem.Shared renaming TypeIs->lO
open PySem.SeqAt renaming shaped->lS
open PySem.W.OpenRow renaming toRowW->lW
open Prod.mk renaming inj->lX
open Sum.inr renaming inj->lY
namespace K60
open PySem PySem.W
def ty (i:Nat):cu:=PySem.Challenge.pw_leastterms_k60_shared_forms_known.main.body.getD i (.Pass ⟨0,0,0,0⟩)
def Qv:aJ:={ PySem.Challenge.pw_leastterms_k60_shared_forms_known with main:={ PySem.Challenge.pw_leastterms_k60_shared_forms_known.main with body:=[ty 1,ty 2,ty 3,ty 4,ty 5,ty 6,ty 7,ty 8,ty 9,ty 10,ty 12,ty 13,ty 14,ty 16,ty 17,ty 18,ty 19,ty 20,ty 22,ty 23,ty 24,ty 25,ty 26,ty 27,ty 28,ty 29,ty 31,ty 33,ty 34,ty 35,ty 36,ty 38,ty 39,ty 40,ty 41,ty 42,ty 43,ty 44,ty 45,ty 46,ty 47,ty 48,ty 50,ty 51,ty 52,ty 53,ty 54,ty 55,ty 56,ty 57,ty 58,ty 59,ty 60,ty 61,ty 62,ty 63,ty 64,ty 65,ty 66,ty 67,ty 68,ty 69,ty 70,ty 71,ty 72,ty 73] } }
def Lv:List PySem.Str:=[lx "SWITCHES_BY_POINTS"]
def Xv:ai → Bool:=fun s=>PySem.W.xlAt Qv [] s && PySem.W.recOk (PySem.W.RowW.records (lW PySem.Challenge.rw_leastterms_k60_shared_forms_known.row)) s
theorem bY {α β γ:Type} {x:Option α} {f:α → β} {g:α → γ} {b:β} {c:γ} (h1:x.map f=some b) (h2:x.map g=some c):x.map (fun s=>(f s,g s))=some (b,c):=by
  cases x with
  | none=>cases h1
  | some s=>
    have e1:f s=b:=bN h1
    have e2:g s=c:=bN h2
    show some (f s,g s)=_
    rw [e1,e2]
end K60
section
open PySem PySem.W PyProof.Rows
local macro_rules|`(tactic| o_head $H)=>`(tactic| refine PySem.W.holds_open (q:=K60.Qv) (loose:=K60.Lv) (N:=7572) (Xt:=K60.Xv) (XP:=lZ K60.Qv []) (Yf:=lc $H) (Ya:=le $H) (YP:=PySem.W.Hook.says $H) ?hl (ly $H) (kn $H) (fun s e=>lL s (eC.mp e).1) lf (by rfl) (by rfl) (by rfl) (fun s e=>ka (eC.mp e).2) (by rfl) (by first|assumption|decide +kernel) (by decide +kernel) ⟨rfl,rfl,rfl,rfl,rfl,by decide +kernel⟩ ?hw ?hc)
set_option maxRecDepth 100000 in
set_option maxHeartbeats 0 in
theorem K60.hp:False → PySem.Challenge.rw_leastterms_k60_shared_forms_known.Holds:=by
  intro ff
  w_on;o_law;k_head
  all_goals exact ff.elim
end

namespace DLT
open PySem PySem.W
def mF (tb:String → Option cA) (p:aJ) (w:aR) (m:Nat) (an:Option ae):Nat → kN → Thread → Option kN
  | 0,_,_=>none
  | k + 1,a,th=>match through th with
    | true=>some a
    | false=>match stepOk m an th with
      | false=>none
      | true=>match stepT (denote tb) p w a th with
        | some (b,th')=>mF tb p w m an k b th'
        | none=>none
theorem mO {tb:String → Option cA} {p:aJ} {w:aR} {m:Nat} {an:Option ae}:∀ {k:Nat} {a z:kN} {th:Thread},mF tb p w m an k a th=some z → topRun tb p w m an k a.abs th=some z.abs
  | 0,_,_,_,H=>by cases H
  | k + 1,a,z,th,H=>by
    unfold mF at H
    unfold topRun
    cases e1:through th with
    | true=>rw [e1] at H;cases H;rfl
    | false=>
      rw [e1] at H
      cases e2:stepOk m an th with
      | false=>rw [e2] at H;cases H
      | true=>
        rw [e2] at H
        cases e3:stepT (denote tb) p w a th with
        | none=>rw [e3] at H;cases H
        | some q=>obtain ⟨b,th'⟩:=q;rw [e3] at H;rw [stepT_spec e3];exact mO H
def mM:Nat → BT → List Obj → BT
  | _,T,[]=>T
  | i,T,o :: os=>mM (i + 1) (T.ins i o) os
noncomputable def mG (P:gE):BT:=mM 0 .nil (bZ P).objs.toList
theorem boot_abs:∀ P:gE,absHeap (mG P) (bZ P).objs.size (bZ P).life=bZ P:=fun P=>by kernel_rfl
noncomputable def s0T (P:gE) (os:fC):kN:=⟨mG P,(bZ P).objs.size,(bZ P).life,jM [],boot_drawn,boot_toks,os⟩
noncomputable def s0 (P:gE) (os:fC):ai:=⟨bZ P,jM [],boot_drawn,boot_toks,os⟩
theorem mS (P:gE) (os:fC):(s0T P os).abs=s0 P os:=by
  unfold s0T s0 SharedT.abs
  rw [boot_abs P]
theorem mP:∀ P:gE,((bZ P).isNs bz && (jM []:Array lg).size == 0,(bZ P).objs.size,(bZ P).nsMap bz "__annotations__")=(true,11,some (.ref 6)):=fun P=>by kernel_rfl
def chk (p:aJ) (h:aP) (s:ai):Bool:=staticsOk (cF p.main.body) h s.heap && namesBound p s.heap && gensDone s && laidKept h s.heap
theorem mH {p:aJ} {w:aR} {P:gE} {os:fC} {N:Nat} {α:Type} {f:ai → α} {a:α} (h:(mF treeTable p w 11 (some (.ref 6)) N (s0T P os) (topStub p)).map (fun s=>(chk p (bZ P) s.abs,f s.abs))=some (true,a)):(topFrom treeTable p w N (s0 P os)).map f=some a:=by
  obtain ⟨s,e,e'⟩:=gc.mp h
  have r:=mO e
  rw [mS] at r
  obtain ⟨z1,z2,z3⟩:_ ∧ _ ∧ _:=by simpa only [Prod.mk.injEq] using mP P
  obtain ⟨c1,c2⟩:=lX e'
  unfold topFrom
  show Option.map f (match (bZ P).isNs bz && (jM []:Array lg).size == 0 with
    | true=>(topRun treeTable p w (bZ P).objs.size ((bZ P).nsMap bz "__annotations__") N (s0 P os) (topStub p)).bind fun s₁=>match chk p (bZ P) s₁ with
      | true=>some s₁
      | false=>none
    | false=>none)=some a
  rw [z1,z2,z3,r]
  show Option.map f (match chk p (bZ P) s.abs with
      | true=>some s.abs
      | false=>none)=some a
  rw [c1]
  exact congrArg some c2
theorem mU {α β γ δ:Type} {x:Option α} {f:α → β × γ} {g:α → δ} {b:β} {c:γ} {d:δ} (h1:x.map (fun s=>((f s).1,g s))=some (b,d)) (h2:x.map (fun s=>(f s).2)=some c):x.map (fun s=>(f s,g s))=some ((b,c),d):=by
  cases x with
  | none=>cases h1
  | some s=>
    obtain ⟨e1,e3⟩:=lX (bN h1)
    have e2:(f s).2=c:=bN h2
    exact congrArg some (jN (jN e1 e2) e3)
noncomputable abbrev R (p:aJ) (N:Nat) (w:aR) (P:gE) (os:fC):Option kN:=mF treeTable p w 11 (some (.ref 6)) N (s0T P os) (topStub p)
theorem left_of {p q:aJ} {loose:List Str} {Xt:ai → Bool} {α:Type} {Yf:ai → α} {Ya:aR → α} {N:Nat} {g0:Bool} (row:String) (e:opening p=plainProg p.main.scope.names) (hN:Nat.ble 600 N=true) (fm:∀ s,fenceModules? p s=some s)
    (ha:∀ (v:Bool) (w:aR) (os:fC),(R p N (w.withFollow row v) w.params os).map (fun s=>(chk p (bZ w.params) s.abs,((openSeen q loose (cF p.main.body) Xt g0 s.abs).1,Yf s.abs)))=some (true,(openGood q loose).1,Ya (w.withFollow row v)))
    (hb:∀ (v:Bool) (w:aR) (os:fC),(R p N (w.withFollow row v) w.params os).map (fun s=>(chk p (bZ w.params) s.abs,(openSeen q loose (cF p.main.body) Xt g0 s.abs).2))=some (true,(openGood q loose).2)):
    LeftO p q loose Xt Yf Ya N g0:=LeftO.of_split row fun w=>by
  obtain ⟨⟨h,gs,d,k,os⟩,x,y⟩:=gc.mp (boot_open e hN fm w)
  obtain ⟨rfl,rfl,rfl,rfl⟩:h=bZ w.params ∧ gs=jM [] ∧ d=boot_drawn ∧ k=boot_toks:=by simpa using y
  rw [x]
  have go (v:Bool):(topFrom treeTable p (w.withFollow row v) N (s0 w.params os)).map (fun s=>(openSeen q loose (cF p.main.body) Xt g0 s,Yf s))=some (openGood q loose,Ya (w.withFollow row v)):=
    mU (f:=fun s=>openSeen q loose (cF p.main.body) Xt g0 s) (g:=Yf) (mH (f:=fun s=>((openSeen q loose (cF p.main.body) Xt g0 s).1,Yf s)) (ha v w os)) (mH (f:=fun s=>(openSeen q loose (cF p.main.body) Xt g0 s).2) (hb v w os))
  exact congrArg some (jN (go false) (go true))
end DLT

namespace K60
open PySem PySem.W
abbrev As:List af:=[2,3,15,22,23,24,25,28,35,36,37,40,47,48,49,52,59,60,61,64,71,72,73,76,83,84,85,88,95,96,97,100,107,108,109,112,119,120,121,124,131,132,133,136,138,139,141,142,143,145,146,148,149,150,153,154,155,156,158,159,161,162,163,166,167,168,170,171,173,174,175,178,179,180,183,184,185,188,189,190,193,194,195,197,198,200,201,202,205,206,207,209,210,212,213,214,216,217,219,220,221,224,225,226,229,230,231,234,235,236,239,240,241,244,245,246,249,250,251,253,254,256,257,258,261,262,263,266,267,268,271,272,273,276,277,278,281,282,283,286,287,288,291,292,293,295,296,298,299,300,302,303,305,306,307,309,310,312,313,314,316,317,319,320,321,323,324,326,327,328,331,332,333,335,336,338,339,340,342,343,345,346,347,350,351,352,355,356,357,359,360,362,363,364,367,368,369,372,373,374,377,378,379,382,383,384,387,388,389,392,393,394,396,397,399,400,401,404,405,406,408,409,411,412,413,416,417,418,421,422,423,425,426,428,429,430,433,434,435,438,439]
noncomputable def Hk:PySem.W.Hook:=PySem.W.kmHook K60.hp.heap_39 K60.As (fun _=>by kernel_rfl) [237,436]
abbrev Pg:aJ:=PySem.Challenge.rw_leastterms_k60_shared_forms_known.row.prog
set_option maxRecDepth 100000 in
theorem la1:∀ (w:aR) (os:fC),(DLT.R Pg 7572 (w.withFollow "special-get-raises" false) w.params os).map (fun s=>(DLT.chk Pg (bZ w.params) s.abs,((openSeen Qv Lv (cF Pg.main.body) Xv true s.abs).1,(Hk.obs s.abs,decide (0 < s.abs.toks)))))=some (true,((openGood Qv Lv).1,(Hk.val (w.withFollow "special-get-raises" false),true))):=fun w os=>by kernel_rfl
set_option maxRecDepth 100000 in
theorem la2:∀ (w:aR) (os:fC),(DLT.R Pg 7572 (w.withFollow "special-get-raises" false) w.params os).map (fun s=>(DLT.chk Pg (bZ w.params) s.abs,(openSeen Qv Lv (cF Pg.main.body) Xv true s.abs).2))=some (true,(openGood Qv Lv).2):=fun w os=>by kernel_rfl
set_option maxRecDepth 100000 in
theorem lb1:∀ (w:aR) (os:fC),(DLT.R Pg 7572 (w.withFollow "special-get-raises" true) w.params os).map (fun s=>(DLT.chk Pg (bZ w.params) s.abs,((openSeen Qv Lv (cF Pg.main.body) Xv true s.abs).1,(Hk.obs s.abs,decide (0 < s.abs.toks)))))=some (true,((openGood Qv Lv).1,(Hk.val (w.withFollow "special-get-raises" true),true))):=fun w os=>by kernel_rfl
set_option maxRecDepth 100000 in
theorem lb2:∀ (w:aR) (os:fC),(DLT.R Pg 7572 (w.withFollow "special-get-raises" true) w.params os).map (fun s=>(DLT.chk Pg (bZ w.params) s.abs,(openSeen Qv Lv (cF Pg.main.body) Xv true s.abs).2))=some (true,(openGood Qv Lv).2):=fun w os=>by kernel_rfl
theorem lw:PySem.W.LeftO Pg Qv Lv Xv (fun s=>(Hk.obs s,decide (0 < s.toks))) (fun w=>(Hk.val w,true)) 7572:=DLT.left_of "special-get-raises" rfl rfl (fun _=>rfl) (fun v=>match v with|false=>la1|true=>lb1) (fun v=>match v with|false=>la2|true=>lb2)
end K60

-- CHANGE: your row's module here, as the last of these rows
namespace L2
open PySem PySem.Spec PyProof.Rows
abbrev Key:=Sum Int Str
def zbL:Key->ae->Bool
 | .inl k,v=>gd k v
 | .inr x,v=>ef x v
def zmJ (w:aR):Key->Int
 | .inl k=>hashInt k
 | .inr x=>hashStr w x
theorem z1F:∀ {k:Key} {v:ae},zbL k v=true->(∃ i t,k=fD i/\v=ko i t) \/ (∃ x t,k=iV x/\v=ik x t)
 | .inl i,v,h=>by
  obtain ⟨t,e⟩:=Value.isInt_shape (k:=i) (v:=v) h
  exact .inl ⟨i,t,rfl,e⟩
 | .inr x,v,h=>by
  obtain ⟨t,e⟩:=gW (x:=x) (v:=v) h
  exact .inr ⟨x,t,rfl,e⟩
theorem zel (i:Int) (t:Tok):zbL (.inl i) (.int i t)=true:=by simp [zbL,gd]
theorem zcv (x:Str) (t:Tok):zbL (.inr x) (.str x t)=true:=by simp [zbL,ef]
theorem zjo (a b:Int):decide ((fD a:Key)=fD b)=(a == b):=by
 by_cases e:a=b
 ·subst e;simp
 ·have h:¬ (fD a:Key)=fD b:=fun q=>e (Sum.inl.inj q)
  rw [decide_eq_false h]
  exact (beq_eq_false_iff_ne.mpr e).symm
theorem zk4 (a b:Str):decide ((iV a:Key)=iV b)=decide (a=b):=by
 by_cases e:a=b
 ·subst e;simp
 ·have h:¬ (iV a:Key)=iV b:=fun q=>e (lY q)
  rw [decide_eq_false h,decide_eq_false e]
theorem zkI (a:Int) (b:Str):decide ((fD a:Key)=iV b)=false:=decide_eq_false (fun q=>nomatch q)
theorem zjO (a:Str) (b:Int):decide ((iV a:Key)=fD b)=false:=decide_eq_false (fun q=>nomatch q)
def z2d (prog:aJ) (w:aR):PySem.KeyKind prog w Key where
 is:=zbL
 hash:=zmJ w
 inj:=fun v a b ha hb=>by
  rcases z1F ha with ⟨i,t,rfl,rfl⟩|⟨x,t,rfl,rfl⟩
  ·rcases z1F hb with ⟨j,u,rfl,e⟩|⟨y,u,rfl,e⟩
   ·injection e with e1 _;rw [e1]
   ·exact nomatch e
  ·rcases z1F hb with ⟨j,u,rfl,e⟩|⟨y,u,rfl,e⟩
   ·exact nomatch e
   ·injection e with e1 _;rw [e1]
 byValue:=fun k v h=>by
  rcases z1F h with ⟨i,t,rfl,rfl⟩|⟨x,t,rfl,rfl⟩ <;> rfl
 pyHash:=fun hv h=>by
  rcases z1F hv with ⟨i,t,rfl,rfl⟩|⟨x,t,rfl,rfl⟩
  ·exact wpAny_pyHash_int h
  ·exact wpAny_pyHash_str h
 eqBool:=fun hu hv h=>by
  rcases z1F hu with ⟨i,t,rfl,rfl⟩|⟨x,t,rfl,rfl⟩
  ·rcases z1F hv with ⟨j,u,rfl,rfl⟩|⟨y,u,rfl,rfl⟩
   ·rw [zjo] at h;exact wpAny_eqBool_int h
   ·rw [zkI] at h;exact SeqAt.EqAt.int_str i t y u _ _ _ _ h
  ·rcases z1F hv with ⟨j,u,rfl,rfl⟩|⟨y,u,rfl,rfl⟩
   ·rw [zjO] at h;exact SeqAt.EqAt.str_int x t j u _ _ _ _ h
   ·rw [zk4] at h;exact wpAny_eqBool_str h
 «strs»:=fun k x t v h=>by
  rcases z1F h with ⟨i,u,rfl,e⟩|⟨y,u,rfl,e⟩
  ·exact nomatch e
  ·injection e with e1 _
   subst e1
   cases v <;> rfl
theorem zar (prog:aJ) (w:aR) (i:Int) (t:Tok):(z2d prog w).is (.inl i) (.int i t)=true:=zel i t
theorem zag (prog:aJ) (w:aR) (x:Str) (t:Tok):(z2d prog w).is (.inr x) (.str x t)=true:=zcv x t
inductive V where
 | non|bl (b:Bool)|int (i:Int)|str (x:Str)|byt (b:Array UInt8)|flt (b:UInt64)|ref (a:af)|ty (n:String)
 deriving DecidableEq
def RelV:V->ae->Prop
 | .non,u=>u=cj
 | .bl b,u=>u=Value.bool b
 | .int i,u=>∃ t,u=ko i t
 | .str x,u=>∃ t,u=ik x t
 | .byt b,u=>∃ t,u=Value.bytes b t
 | .flt b,u=>∃ t,u=Value.float b t
 | .ref a,u=>u=cP a
 | .ty n,u=>u=iN n
abbrev ma:List V->List ae->Prop:=bi RelV
theorem ma.length {xs:List V} {us:List ae} (r:ma xs us):xs.length=us.length:=jY r
theorem ma.get:∀ {xs:List V} {us:List ae} {i:Nat} {x:V},ma xs us->xs[i]?=some x->∃ u,us[i]?=some u/\RelV x u
 | _,_,_,_,.nil,e=>by simp at e
 | _,_,0,_,.cons r _,e=>by simp at e;subst e;exact ⟨_,rfl,r⟩
 | _,_,i + 1,x,.cons _ t,e=>by
  obtain ⟨u,h1,h2⟩:=ma.get (i:=i) (x:=x) t (by simpa using e)
  exact ⟨u,by simpa using h1,h2⟩
theorem ma.set {x:V} {u:ae} (r:RelV x u):∀ {xs:List V} {us:List ae} (i:Nat),ma xs us->ma (xs.set i x) (us.set i u)
 | _,_,_,.nil=>.nil
 | _,_,0,.cons _ t=>.cons r t
 | _,_,i + 1,.cons q t=>.cons q (ma.set r i t)
theorem ma.append:∀ {xs ys:List V} {us ws:List ae},ma xs us->ma ys ws->ma (xs ++ ys) (us ++ ws)
 | _,_,_,_,.nil,s=>s
 | _,_,_,_,.cons r t,s=>.cons r (ma.append t s)
theorem ma.take:∀ {xs:List V} {us:List ae} (n:Nat),ma xs us->ma (xs.take n) (us.take n)
 | _,_,0,_=>.nil
 | _,_,_ + 1,.nil=>.nil
 | _,_,n + 1,.cons r t=>.cons r (ma.take n t)
theorem ma.drop:∀ {xs:List V} {us:List ae} (n:Nat),ma xs us->ma (xs.drop n) (us.drop n)
 | _,_,0,r=>r
 | _,_,_ + 1,.nil=>.nil
 | _,_,n + 1,.cons _ t=>ma.drop n t
def mz:Option V->Option ae->Prop
 | some v,some u=>RelV v u
 | none,none=>True
 | _,_=>False
def KV {κ:Type}:List (κ × V)->List (κ × ae)->Prop:=bi fun (p:κ × V) (q:κ × ae)=>p.1=q.1/\RelV p.2 q.2
def kV:Key->V
 | .inl i=>.int i
 | .inr x=>.str x
inductive HO where
 | lst (xs:List V)
 | tup (xs:List V)
 | dK (kvs:List (Key × V))|dT (kvs:List (List Key × V))
 | set (S:Int->Bool) (n:Nat)
 | ins (C dx:af) (fs:List (Str × V))
 | own (x:af)
 | xd (fs:List (Str × V))
 | met (f x:af)
 | rng (lo hi:Int)
 | frz (o:Obj) (u:HO)
 | tbl (ps:Array ae)
 | ext (φ:aP->Prop)
abbrev Hp:=af->Option HO
def upd (H:Hp) (a:af) (o:HO):Hp:=fun b=>if b=a then some o else H b
theorem z18 {H:Hp} {a:af} {o:HO}:upd H a o a=some o:=by unfold upd;rw [if_pos rfl]
theorem z0Y {H:Hp} {a b:af} {o:HO} (h:b ≠ a):upd H a o b=H b:=by unfold upd;rw [if_neg h]
theorem zhu:upd (upd H a o) a u=upd H a u:=by
 funext b;unfold upd;split <;> rfl
theorem zm2 {H:Hp} {a b:af} {o u:HO} (h:H a=some o) (h':H b=some u) (d:o ≠ u):a ≠ b:=by
 intro e;subst e;rw [h] at h';exact d (bN h')
theorem z0Z {H:Hp} {a b:af} {o:HO} (h:H a=some o) (h':H b=none):a ≠ b:=by
 intro e;subst e;rw [h] at h';cases h'
def mw (h:aP) (a:af) (items:Array ae):Prop:=∃ o,h.get? a=some o/\o.cls=.type "tuple"/\(∃ n,o.data=.seq items n)/\o.dict=none
theorem mw.tup {h:aP} {a:af} {items:Array ae} (x:mw h a items):IsTup h a items:=let ⟨o,e,c,d,_⟩:=x;⟨o,e,c,d⟩
theorem mw.new (h:aP) (items:Array ae):mw (h.push { cls:=.type "tuple",data:=.seq items }) h.objs.size items:=⟨_,aC _ rfl,rfl,⟨_,rfl⟩,rfl⟩
section
variable (P:aJ) (w:aR)
def mi (H:Hp) (h:aP) (a:af):HO->Prop
 | .lst xs=>xs.length <= sizeLine/\∃ (its:List ae) (n:Nat),ma xs its/\h.get? a=some { cls:=.type "list",data:=.seq its.toArray n }
 | .tup xs=>xs.length <= sizeLine/\∃ its:List ae,ma xs its/\mw h a its.toArray
 | .dK kvs=>kvs.length <= sizeLine/\(a == sysModules)=false/\∃ vs,KV kvs vs/\h.DictOf (z2d P w) a vs
 | .dT kvs=>kvs.length <= sizeLine/\(a == sysModules)=false/\∃ xs:List (List Key × af × ae),
   bi (fun (p:List Key × V) (q:List Key × af × ae)=>p.1=q.1/\H q.2.1=some (.tup (p.1.map kV))/\RelV p.2 q.2.2) kvs xs/\
   ∃ o es ep,h.get? a=some o/\o.ExactDict/\o.data=.dict es ep/\es.toList=xs.map (entryOfKey (tupleKind (z2d P w)))/\(xs.map (·.1)).Nodup
 | .set S n=>h.SetOf (intKind P w) a S n
 | .ins C dx fs=>H dx=some (.own a)/\fs.length <= 1000/\dx ≠ a/\h.get? a=some (lz C dx)/\
   ∃ mA,h.Ns1 dx mA/\(∀ f,mz (fs.lookup f) (mA f))/\PySem.Within mA (fs.map (·.1))
 | .own _=>∃ o,h.get? a=some o
 | .xd fs=>∃ mA,h.Ns1 a mA/\∀ f,mz (fs.lookup f) (mA f)
 | .rng lo hi=>∃ t u v,h.get? a=some { cls:=.type "range",data:=.fields #[.int lo t,.int hi u,.int 1 v] }
 | .frz o u=>h.get? a=some o/\mi H h a u
 | .tbl ps=>h.get? a=some { cls:=.none,data:=.fields ps }
 | .met f x=>h.get? a=some (iH (.ref f) (.ref x))
 | .ext φ=>φ h/\(∃ o,h.get? a=some o)/\∀ h1 h2:aP,φ h1->(∀ o,h1.get? a=some o->h2.get? a=some o)->φ h2
def HOk (H:Hp) (h:aP):Prop:=∀ a o,H a=some o->mi P w H h a o
end
section
variable {P:aJ} {w:aR} {H H':Hp} {h h':aP} {a:af} {o:HO}
theorem mi.lt (x:mi P w H h a o):a < h.objs.size:=by
 cases o with
 | lst xs=>obtain ⟨_,_,_,_,e⟩:=x;exact aF e
 | tup xs=>obtain ⟨_,_,_,p⟩:=x;exact (mw.tup p).lt
 | dK kvs=>obtain ⟨_,_,_,_,o,_,_,e,_⟩:=x;exact aF e
 | dT kvs=>obtain ⟨_,_,_,_,o,_,_,e,_⟩:=x;exact aF e
 | set S n=>obtain ⟨o,_,_,_,e,_⟩:=x;exact aF e
 | ins C dx fs=>obtain ⟨_,_,_,e,_⟩:=x;exact aF e
 | own y=>obtain ⟨_,e⟩:=x;exact aF e
 | xd fs=>obtain ⟨_,⟨_,_,_,e,_⟩,_⟩:=x;exact aF e
 | rng lo hi=>obtain ⟨_,_,_,e⟩:=x;exact aF e
 | frz ob u=>obtain ⟨e,_⟩:=x;exact aF e
 | tbl ps=>exact aF (show h.get? a=some _ from x)
 | met f y=>exact aF (show h.get? a=some _ from x)
 | ext φ=>obtain ⟨_,⟨_,e⟩,_⟩:=x;exact aF e
theorem Paired.mapP {α β:Type} {F G:α->β->Prop}:∀ {l₁:List α} {l₂:List β},bi F l₁ l₂->(∀ a b,F a b->G a b)->bi G l₁ l₂
 | _,_,.nil,_=>.nil
 | _,_,.cons r t,f=>.cons (f _ _ r) (Paired.mapP t f)
theorem Paired.imp' {α β:Type} {F G:α->β->Prop} (f:∀ a b,F a b->G a b) {l₁:List α} {l₂:List β} (r:bi F l₁ l₂):bi G l₁ l₂:=Paired.mapP r f
theorem mi.stay (x:mi P w H h a o) (k:∀ b u,(b=a \/ H b=some (.own a))->h.get? b=some u->h'.get? b=some u)
  (ho:∀ b,H b=some (.own a)->H' b=some (.own a)) (ht:∀ b xs,H b=some (.tup xs)->H' b=some (.tup xs)):mi P w H' h' a o:=by
 induction o with
 | lst xs=>obtain ⟨z,its,n,r,e⟩:=x;exact ⟨z,its,n,r,k _ _ (.inl rfl) e⟩
 | tup xs=>obtain ⟨z,its,r,ob,e,c⟩:=x;exact ⟨z,its,r,ob,k _ _ (.inl rfl) e,c⟩
 | dK kvs=>obtain ⟨z,y,vs,r,ob,es,ep,e,c⟩:=x;exact ⟨z,y,vs,r,ob,es,ep,k _ _ (.inl rfl) e,c⟩
 | dT kvs=>
  obtain ⟨z,y,xs,r,ob,es,ep,e,c⟩:=x
  exact ⟨z,y,xs,Paired.mapP r fun p q z=>⟨z.1,ht _ _ z.2.1,z.2.2⟩,ob,es,ep,k _ _ (.inl rfl) e,c⟩
 | set S n=>obtain ⟨ob,es,ep,t,e,c⟩:=x;exact ⟨ob,es,ep,t,k _ _ (.inl rfl) e,c⟩
 | ins C dx fs=>
  obtain ⟨d,z,ne,e,mA,⟨od,es,ep,e2,c⟩,r⟩:=x
  exact ⟨ho _ d,z,ne,k _ _ (.inl rfl) e,mA,⟨od,es,ep,k _ _ (.inr d) e2,c⟩,r⟩
 | own y=>obtain ⟨ob,e⟩:=x;exact ⟨ob,k _ _ (.inl rfl) e⟩
 | xd fs=>obtain ⟨mA,⟨od,es,ep,e,c⟩,r⟩:=x;exact ⟨mA,⟨od,es,ep,k _ _ (.inl rfl) e,c⟩,r⟩
 | rng lo hi=>obtain ⟨t,u,v,e⟩:=x;exact ⟨t,u,v,k _ _ (.inl rfl) e⟩
 | frz ob u ih=>obtain ⟨e,q⟩:=x;exact ⟨k _ _ (.inl rfl) e,ih q⟩
 | tbl ps=>
  have e:h.get? a=some { cls:=.none,data:=.fields ps }:=x
  show h'.get? a=some { cls:=.none,data:=.fields ps }
  exact k a _ (.inl rfl) e
 | met f y=>
  have e:h.get? a=some (iH (.ref f) (.ref y)):=x
  show h'.get? a=some (iH (.ref f) (.ref y))
  exact k a _ (.inl rfl) e
 | ext φ=>obtain ⟨p,⟨o,e⟩,st⟩:=x;exact ⟨st _ _ p fun o q=>k _ _ (.inl rfl) q,⟨o,k _ _ (.inl rfl) e⟩,st⟩
theorem HOk.lt (x:HOk P w H h) (e:H a=some o):a < h.objs.size:=(x a o e).lt
theorem HOk.fresh (x:HOk P w H h) (e:h.objs.size <= a):H a=none:=by
 cases q:H a with
 | none=>rfl
 | some u=>exact absurd (aN (x.lt q) e) (bE _)
theorem HOk.kept (x:HOk P w H h) (k:∀ b u,h.get? b=some u->h'.get? b=some u):HOk P w H h':=fun a o e=>
 (x a o e).stay (fun b u _ q=>k b u q) (fun _ q=>q) fun _ _ q=>q
theorem HOk.laid (x:HOk P w H h) (k:∀ b u,h.get? b=some u->h'.get? b=some u) (hp:h.objs.size <= a) (new:mi P w (upd H a o) h' a o):HOk P w (upd H a o) h':=fun b u e=>by
 have hn:=x.fresh hp
 by_cases hb:b=a
 ·subst hb;rw [z18] at e;cases e;exact new
 ·rw [z0Y hb] at e
  exact (x b u e).stay (fun c v _ q=>k c v q) (fun c q=>by rw [z0Y (z0Z q hn)];exact q) fun c xs q=>by rw [z0Y (z0Z q hn)];exact q
end
def Rd (H:Hp) (a:af) (u:HO):Prop:=H a=some u \/ ∃ o,H a=some (.frz o u)
theorem Rd.of (h:H a=some u):Rd H a u:=.inl h
theorem Rd.ok (r:Rd H a u) (x:HOk P w H h):mi P w H h a u:=by
 rcases r with r|⟨o,r⟩
 ·exact x a u r
 ·obtain ⟨_,q⟩:=x a _ r
  exact q
def Mut:Option HO->Prop
 | some (.lst _)=>True
 | some (.dK _)=>True
 | some (.dT _)=>True
 | some (.set _ _)=>True
 | some (.ins _ _ _)=>True
 | some (.ext _)=>True
 | _=>False
section
variable {P:aJ} {w:aR} {H:Hp} {h h':aP} {x e:af} {o':HO}
theorem HOk.write (ok:HOk P w H h) (mu:Mut (H x)) (he:e=x \/ H e=some (.own x)) (k:∀ b u,b ≠ e->h.get? b=some u->h'.get? b=some u) (heo:∃ u,h'.get? e=some u)
  (new:mi P w (upd H x o') h' x o'):HOk P w (upd H x o') h':=fun b u q=>by
 have nown:∀ c y,H c=some (.own y)->c ≠ x:=fun c y r z=>by subst z;rw [r] at mu;exact mu
 have ntup:∀ c xs,H c=some (.tup xs)->c ≠ x:=fun c xs r z=>by subst z;rw [r] at mu;exact mu
 by_cases hb:b=x
 ·subst hb;rw [z18] at q;cases q;exact new
 ·rw [z0Y hb] at q
  by_cases hbe:b=e
  ·have q':H b=some (.own x):=by
    rcases he with z|z
    ·exact absurd (hbe.trans z) hb
    ·rw [hbe];exact z
   rw [q] at q';cases q'
   obtain ⟨v,hv⟩:=heo
   exact ⟨v,by rw [hbe];exact hv⟩
  ·refine (ok b u q).stay (fun c v hc r=>k c v ?_ r) (fun c r=>by rw [z0Y (nown c b r)];exact r) fun c xs r=>by rw [z0Y (ntup c xs r)];exact r
   rcases hc with rfl|hc
   ·exact hbe
   ·rintro rfl
    rcases he with z|z
    ·exact nown c b hc z
    ·rw [hc] at z;cases z;exact hb rfl
end
structure Un (fs ex:List af) (H H':Hp) (h h':aP):Prop where
 keep:∀ b o,h.get? b=some o->H b=none->b ∉ fs->b ∉ ex->h'.get? b=some o
 slot:∀ b o,h.get? b=some o->H b=none->b ∈ fs->b ∉ ex->∃ sl,h'.get? b=some { o with slots:=sl }
 free:∀ b o,h.get? b=some o->H b=none->b ∉ ex->H' b=none
 there:∀ b o,h.get? b=some o->b ∉ ex->∃ o',h'.get? b=some o'
 tups:∀ b xs,H b=some (.tup xs)->H' b=some (.tup xs)
 frzs:∀ b o u,H b=some (.frz o u)->H' b=some (.frz o u)
 tbls:∀ b ps,H b=some (.tbl ps)->∃ more,H' b=some (.tbl (ps ++ more))
section
variable {fs ex:List af} {H H1 H2:Hp} {h h1 h2 h':aP} {a x e:af} {o:HO}
theorem Un.any (u:Un fs ex H H1 h h1) {b:af} {ob:Obj} (q:h.get? b=some ob) (n:H b=none) (hx:b ∉ ex):∃ sl,h1.get? b=some { ob with slots:=sl }:=by
 by_cases hb:b ∈ fs
 ·exact u.slot b ob q n hb hx
 ·exact ⟨ob.slots,u.keep b ob q n hb hx⟩
theorem Un.trans (a:Un fs ex H H1 h h1) (b:Un fs ex H1 H2 h1 h2):Un fs ex H H2 h h2 where
 keep:=fun c ob q n hc hx=>b.keep c ob (a.keep c ob q n hc hx) (a.free c ob q n hx) hc hx
 slot:=fun c ob q n hc hx=>by
  obtain ⟨sl,e1⟩:=a.slot c ob q n hc hx
  obtain ⟨sl',e2⟩:=b.slot c _ e1 (a.free c ob q n hx) hc hx
  exact ⟨sl',e2⟩
 free:=fun c ob q n hx=>by
  obtain ⟨o',e1⟩:=a.there c ob q hx
  exact b.free c o' e1 (a.free c ob q n hx) hx
 there:=fun c ob q hx=>by
  obtain ⟨o',e1⟩:=a.there c ob q hx
  exact b.there c o' e1 hx
 tups:=fun c xs q=>b.tups c xs (a.tups c xs q)
 frzs:=fun c ob xs q=>b.frzs c ob xs (a.frzs c ob xs q)
 tbls:=fun c ps q=>by
  obtain ⟨m1,e1⟩:=a.tbls c ps q
  obtain ⟨m2,e2⟩:=b.tbls c _ e1
  exact ⟨m1 ++ m2,by rw [e2,kq]⟩
theorem Un.kept (k:∀ b u,h.get? b=some u->h'.get? b=some u):Un fs ex H H h h':=
 ⟨fun b ob q _ _ _=>k b ob q,fun b ob q _ _ _=>⟨ob.slots,k b ob q⟩,fun _ _ _ n _=>n,fun b ob q _=>⟨ob,k b ob q⟩,fun _ _ q=>q,fun _ _ _ q=>q,fun _ ps q=>⟨#[],by rw [q];simp⟩⟩
theorem Un.refl:Un fs ex H H h h:=Un.kept fun _ _ q=>q
theorem Un.laid (k:∀ b u,h.get? b=some u->h'.get? b=some u) (hp:h.objs.size <= a) (hn:H a=none):Un fs ex H (upd H a o) h h' where
 keep:=fun b u q _ _ _=>k b u q
 slot:=fun b u q _ _ _=>⟨u.slots,k b u q⟩
 free:=fun b u q n _=>by rw [z0Y (aX (aN (aF q) hp))];exact n
 there:=fun b u q _=>⟨u,k b u q⟩
 tups:=fun b xs q=>by rw [z0Y (z0Z q hn)];exact q
 frzs:=fun b u xs q=>by rw [z0Y (z0Z q hn)];exact q
 tbls:=fun b ps q=>⟨#[],by rw [z0Y (z0Z q hn),q];simp⟩
theorem Un.write (mu:Mut (H x)) (he:e=x \/ H e=some (.own x)) (k:∀ b u,b ≠ e->h.get? b=some u->h'.get? b=some u) (heo:∃ u,h'.get? e=some u):Un fs ex H (upd H x o) h h':=by
 have hx:∀ b,H b=none->b ≠ x:=fun b n z=>by subst z;rw [n] at mu;exact mu
 have hb:∀ b,H b=none->b ≠ e:=fun b n z=>by
  subst z
  rcases he with r|r
  ·exact hx b n r
  ·rw [n] at r;cases r
 have hm:∀ b u,H b=some u->¬ Mut (some u)->b ≠ x:=fun b u q nm z=>by subst z;rw [q] at mu;exact nm mu
 refine ⟨fun b u q n _ _=>k b u (hb b n) q,fun b u q n _ _=>⟨u.slots,k b u (hb b n) q⟩,fun b u q n _=>by rw [z0Y (hx b n)];exact n,fun b u q _=>?_,
  fun b xs q=>by rw [z0Y (hm b _ q fun z=>z)];exact q,fun b u xs q=>by rw [z0Y (hm b _ q fun z=>z)];exact q,fun b ps q=>⟨#[],by rw [z0Y (hm b _ q fun z=>z),q];simp⟩⟩
 by_cases hbe:b=e
 ·subst hbe;exact heo
 ·exact ⟨u,k b u hbe q⟩
end
def trk (h:aP) (H:Hp):List af:=(aU h.objs.size).filter fun a=>(H a).isSome
def zep (h:aP) (H:Hp):aP:=PySem.W.hideAll h (trk h H)
theorem zdv (h:aP) (H:Hp):(zep h H).objs.size=h.objs.size:=PySem.W.hideAll_size _ _
theorem zeX (e:h.get? b=some o) (n:H b=none):(zep h H).get? b=some o:=
 PySem.W.hideAll_get _ e fun hm=>by
  have q:(H b).isSome=true:=(dg.mp hm).2
  rw [n] at q;simp at q
theorem zhw (e:(zep h H).get? b=some o):h.get? b=some o/\H b=none:=by
 have e':h.get? b=some o:=PySem.W.of_hideAll (trk h H) e
 refine ⟨e',?_⟩
 cases q:H b with
 | none=>rfl
 | some x=>
  have hm:b ∈ trk h H:=dg.mpr ⟨bv.mpr (aF e'),by simp [q]⟩
  have z:(zep h H).get? b=none:=PySem.W.hideAll_none (trk h H) hm
  rw [z] at e;cases e
def zhK (g h:aP) (L:af):List (af × Obj):=(aU h.objs.size).filterMap fun a=>if a=L \/ (g.get? a).isSome=true then none else (h.get? a).map fun o=>(a,o)
def z2C (g h:aP) (L d:af):List (af × Obj):=(zhK g h L).filter fun p=>decide (p.1 ≠ d)
structure Mod (K:aj) (mg:Str->Option ae) (base:aP):Prop where
 kin:K.In base
 glob:base.Ns bz mg
 blt:∃ mb,base.Ns builtinsNs mb/\∀ x:Str,x ≠ "__name__"->mb x=a8 x
 nolimit:base.NoLimit
structure Cx where
 prog:aJ
 w:aR
 K:aj
 mg:Str->Option ae
 base:aP
 A:ba
 N:List Str
 s₀:ai
 H₀:Hp
 env:Env
 outer:List Env
 stack:List Env
 ex:List af
 fn:Str->Bool
 calm:Bool
 pn:List (af × Obj)
 xe:ae->ai->Prop
def frs (l:List Env):List af:=l.filterMap (·.frame)
abbrev Cx.fs (X:Cx):List af:=frs X.outer
def Vis (sc:b9) (x:Str):Prop:=sc.names.lookup x=some .local \/ sc.names.lookup x=some .cell \/ sc.names.lookup x=some .free
def Loc (sc:b9) (x:Str):Prop:=sc.names.lookup x=some .local \/ sc.names.lookup x=some .cell
def zmP (env:Env) (h:aP) (m:Str->Option ae) (x:Str) (u:ae):Prop:=
 (env.kindOf x=some .local/\m x=some u) \/ ((env.kindOf x=some .cell \/ env.kindOf x=some .free)/\∃ c,env.cells.lookup x=some c/\h.IsCell c (some u))
structure Cx.Ok (X:Cx):Prop where
 mod:Mod X.K X.mg X.base
 kind:X.env.scope.kind=.function
 glob:X.env.globals=bz
 blt:X.env.builtins=builtinsNs
 above:X.s₀.heap.objs.size <= X.env.locals
 inj:∀ x y c,X.env.cells.lookup x=some c->X.env.cells.lookup y=some c->x=y
 has:∀ x,(X.env.kindOf x=some .cell \/ X.env.kindOf x=some .free)->∃ c,X.env.cells.lookup x=some c
 cab:∀ x c,X.fn x=true->X.env.cells.lookup x=some c->X.s₀.heap.objs.size <= c
 hd:X.calm=true->X.A.handled=none
 frames:X.A.frames=some X.stack
 stk:X.stack=X.outer \/ (X.stack=X.env :: X.outer/\X.env.frame=some X.env.locals)
 exf:∀ b ∈ X.ex,b ≠ X.env.locals/\∀ x c,X.env.cells.lookup x=some c->c ≠ b
 bs:∀ b o,X.base.get? b=some o->X.s₀.heap.get? b=some o/\X.H₀ b=none
 bsz:X.base.objs.size <= X.s₀.heap.objs.size
 noex:∀ b o,X.base.get? b=some o->b ∉ X.ex
 exfs:∀ b ∈ X.ex,b ∉ X.fs
 funs:X.s₀.heap.FunFrames X.base X.outer
 frf:∀ b ∈ X.fs,X.H₀ b=none
structure Inv (X:Cx) (pins:List (af × Obj)) (σ:List (Option V)) (H:Hp) (s:ai):Prop where
 ok:X.Ok
 os:s.os=X.s₀.os
 bare:fi s.gens
 base:Un X.fs X.ex X.H₀ H X.s₀.heap s.heap
 loc:∃ m,s.heap.Ns X.env.locals m/\∀ (i:Nat) (x:Str) (v:V),X.N[i]?=some x->σ[i]?=some (some v)->Vis X.env.scope x->∃ u,RelV v u/\zmP X.env s.heap m x u
 cell:∀ x c,X.env.cells.lookup x=some c->∃ v,s.heap.IsCell c v
 free:H X.env.locals=none
 freeC:∀ x c,X.env.cells.lookup x=some c->H c=none
 pin:∀ p ∈ X.pn ++ pins,s.heap.get? p.1=some p.2/\H p.1=none/\p.1 ≠ X.env.locals/\p.1 ∉ X.fs/\∀ v,p.2.data ≠ .cell v
 hok:HOk X.prog X.w H s.heap
 len:σ.length=X.N.length
 tk:0 < s.toks
section
variable {X:Cx} {pins:List (af × Obj)} {σ:List (Option V)} {H H':Hp} {s:ai} {h':aP}
theorem Cx.Ok.nofr (ok:X.Ok) (e:X.base.get? b=some o):b ∉ X.fs:=fun hb=>by
 have:=(ok.funs.mem hb).1
 rw [e] at this;cases this
theorem Inv.bs (I:Inv X pins σ H s):∀ b o,X.base.get? b=some o->s.heap.get? b=some o/\H b=none:=fun b o e=>
 ⟨I.base.keep b o (I.ok.bs b o e).1 (I.ok.bs b o e).2 (I.ok.nofr e) (I.ok.noex b o e),I.base.free b o (I.ok.bs b o e).1 (I.ok.bs b o e).2 (I.ok.noex b o e)⟩
theorem Inv.bk (I:Inv X pins σ H s):∀ b o,X.base.get? b=some o->s.heap.get? b=some o:=fun b o e=>(I.bs b o e).1
theorem Inv.mod (I:Inv X pins σ H s):Mod X.K X.mg X.base:=I.ok.mod
theorem Inv.kIn (I:Inv X pins σ H s):X.K.In s.heap:=I.ok.mod.kin.keeps I.bk
theorem Inv.nolimit (I:Inv X pins σ H s):s.heap.NoLimit:=I.ok.mod.nolimit.keeps I.bk
theorem Inv.fr (I:Inv X pins σ H s):∃ m,Fr X.base X.env.locals s.heap m:=
 let ⟨m,hn,_⟩:=I.loc
 ⟨m,hn,I.bk,bb I.ok.bsz I.ok.above⟩
theorem Inv.lt (I:Inv X pins σ H s):X.env.locals < s.heap.objs.size:=let ⟨_,hn,_⟩:=I.loc;hn.lt
theorem Inv.sz (I:Inv X pins σ H s):X.s₀.heap.objs.size <= s.heap.objs.size:=bb I.ok.above (eI I.lt)
theorem Inv.nofs (I:Inv X pins σ H s) (h:s.heap.objs.size <= a):a ∉ X.fs:=fun hb=>by
 obtain ⟨_,o,ho,_⟩:=I.ok.funs.mem hb
 exact absurd (aN (aF ho) (bb I.sz h)) (bE _)
theorem Inv.cne (I:Inv X pins σ H s):∀ x c,X.env.cells.lookup x=some c->c ≠ X.env.locals:=fun x c e z=>by
 obtain ⟨v,o,ho,hd⟩:=I.cell x c e
 obtain ⟨m,⟨o',es,ep,ho',hd',_⟩,_⟩:=I.loc
 rw [z,ho'] at ho;cases ho;rw [hd'] at hd;cases hd
theorem Inv.funs (I:Inv X pins σ H s):s.heap.FunFrames X.base X.outer:=by
 have all:∀ (l:List Env),(∀ b ∈ frs l,b ∈ X.fs)->X.s₀.heap.FunFrames X.base l->s.heap.FunFrames X.base l:=by
  intro l
  induction l with
  | nil=>intro _ _;trivial
  | cons env r ih=>
   intro hs hl
   obtain ⟨hk,⟨L,o,hf,hn,ho,hd⟩,hr⟩:=hl
   have hL:L ∈ X.fs:=hs L (by unfold frs;rw [cT,hf];exact aH)
   obtain ⟨sl,e⟩:=I.base.slot L o ho (I.ok.frf L hL) hL fun z=>I.ok.exfs L z hL
   exact ⟨hk,⟨L,_,hf,hn,e,hd⟩,ih (fun b hb=>hs b (by unfold frs;rw [cT,hf];exact au _ hb)) hr⟩
 exact all X.outer (fun _ hb=>hb) I.ok.funs
theorem Inv.stack (I:Inv X pins σ H s):s.heap.FunFrames X.base X.stack:=by
 rcases I.ok.stk with e|⟨e,hf⟩
 ·rw [e];exact I.funs
 ·rw [e]
  obtain ⟨m,hn,_⟩:=I.loc
  refine .cons (by rw [I.ok.kind];decide) hf hn ?_ I.funs
  exact gF (bb I.ok.bsz I.ok.above)
theorem Inv.stkSub (I:Inv X pins σ H s):∀ b ∈ frs X.stack,b ∈ X.env.locals :: X.fs:=fun b hb=>by
 rcases I.ok.stk with e|⟨e,hf⟩
 ·rw [e] at hb;exact au _ hb
 ·rw [e] at hb
  unfold frs at hb
  rw [cT,hf] at hb
  exact hb
theorem Inv.stkFree (I:Inv X pins σ H s):∀ b ∈ frs X.stack,H b=none:=fun b hb=>by
 rcases av.mp (I.stkSub b hb) with e|hb
 ·rw [e];exact I.free
 ·obtain ⟨_,o,ho,_⟩:=I.ok.funs.mem hb
  exact I.base.free b o ho (I.ok.frf b hb) fun z=>I.ok.exfs b z hb
theorem Inv.step {g':Array lg} {t':Nat} {d':Drawn} {ch:List af} (I:Inv X pins σ H s)
  (hch:∀ b ∈ ch,(b ∈ X.ex \/ X.s₀.heap.objs.size <= b)/\b ≠ X.env.locals/\(∀ x c,X.env.cells.lookup x=some c->c ≠ b)/\∀ p ∈ X.pn ++ pins,p.1 ≠ b)
  (keep:∀ b o,b ≠ X.env.locals->b ∉ X.fs->b ∉ ch->s.heap.get? b=some o->H b=none->h'.get? b=some o)
  (slot:∀ b o,b ≠ X.env.locals->b ∈ X.fs->b ∉ ch->s.heap.get? b=some o->H b=none->∃ sl,h'.get? b=some { o with slots:=sl }) (free:∀ b o,b ∉ ch->s.heap.get? b=some o->H b=none->H' b=none)
  (there:∀ b o,b ∉ ch->s.heap.get? b=some o->∃ o',h'.get? b=some o')
  (tups:∀ b xs,H b=some (.tup xs)->H' b=some (.tup xs)) (frzs:∀ b o u,H b=some (.frz o u)->H' b=some (.frz o u)) (tbls:∀ b ps,H b=some (.tbl ps)->∃ more,H' b=some (.tbl (ps ++ more)))
  (ns:∀ m,s.heap.Ns X.env.locals m->h'.Ns X.env.locals m) (hok:HOk X.prog X.w H' h') (hg:fi g') (ht:0 < t'):
  Inv X pins σ H' { s with heap:=h',gens:=g',drawn:=d',toks:=t' }:=by
 have neL:∀ b o,X.s₀.heap.get? b=some o->b ≠ X.env.locals:=fun b o e=>aX (aN (aF e) I.ok.above)
 have neC:∀ b o,X.s₀.heap.get? b=some o->b ∉ X.ex->b ∉ ch:=fun b o e hx hb=>by
  rcases (hch b hb).1 with z|z
  ·exact hx z
  ·exact absurd (aN (aF e) z) (bE _)
 have cellK:∀ x c,X.env.cells.lookup x=some c->∀ v,s.heap.IsCell c v->h'.IsCell c v:=fun x c e v ⟨o,ho,hd⟩=>by
  have nch:c ∉ ch:=fun z=>(hch c z).2.2.1 x c e rfl
  by_cases hc:c ∈ X.fs
  ·obtain ⟨sl,q⟩:=slot c o (I.cne x c e) hc nch ho (I.freeC x c e)
   exact ⟨_,q,hd⟩
  ·exact ⟨o,keep c o (I.cne x c e) hc nch ho (I.freeC x c e),hd⟩
 refine ⟨I.ok,I.os,hg,⟨fun b o e n hb hx=>?_,fun b o e n hb hx=>?_,fun b o e n hx=>?_,fun b o e hx=>?_,fun b xs e=>tups b xs (I.base.tups b xs e),fun b o xs e=>frzs b o xs (I.base.frzs b o xs e),fun b ps e=>?_⟩,?_,fun x c e=>?_,?_,fun x c e=>?_,fun p hp=>?_,hok,I.len,ht⟩
 ·exact keep b o (neL b o e) hb (neC b o e hx) (I.base.keep b o e n hb hx) (I.base.free b o e n hx)
 ·obtain ⟨sl,e1⟩:=I.base.slot b o e n hb hx
  obtain ⟨sl',e2⟩:=slot b _ (neL b o e) hb (neC b o e hx) e1 (I.base.free b o e n hx)
  exact ⟨sl',e2⟩
 ·obtain ⟨o',e1⟩:=I.base.there b o e hx
  exact free b o' (neC b o e hx) e1 (I.base.free b o e n hx)
 ·obtain ⟨o',e1⟩:=I.base.there b o e hx
  exact there b o' (neC b o e hx) e1
 ·obtain ⟨m1,e1⟩:=I.base.tbls b ps e
  obtain ⟨m2,e2⟩:=tbls b _ e1
  exact ⟨m1 ++ m2,by rw [e2,kq]⟩
 ·obtain ⟨m,hn,hl⟩:=I.loc
  refine ⟨m,ns m hn,fun i x v e1 e2 e3=>?_⟩
  obtain ⟨u,r,l⟩:=hl i x v e1 e2 e3
  refine ⟨u,r,?_⟩
  rcases l with l|⟨k,c,e,z⟩
  ·exact .inl l
  ·exact .inr ⟨k,c,e,cellK x c e _ z⟩
 ·obtain ⟨v,z⟩:=I.cell x c e
  exact ⟨v,cellK x c e v z⟩
 ·obtain ⟨m,⟨o,_,_,ho,_⟩,_⟩:=I.loc
  exact free _ o (fun z=>(hch _ z).2.1 rfl) ho I.free
 ·obtain ⟨v,o,ho,hd⟩:=I.cell x c e
  exact free c o (fun z=>(hch c z).2.2.1 x c e rfl) ho (I.freeC x c e)
 ·obtain ⟨e,n,ne,nf,d⟩:=I.pin p hp
  have nch:p.1 ∉ ch:=fun z=>(hch p.1 z).2.2.2 p hp rfl
  exact ⟨keep p.1 p.2 ne nf nch e n,free p.1 p.2 nch e n,ne,nf,d⟩
theorem Inv.un {t':Nat} (I:Inv X pins σ H s) (u:Un X.fs [] H H' s.heap h') (hok:HOk X.prog X.w H' h') (ht:0 < t':=by first|exact cB _|exact Inv.tk ‹_›|assumption|omega):Inv X pins σ H' { s with heap:=h',toks:=t' }:=by
 obtain ⟨m,⟨o,es,ep,ho,r⟩,_⟩:=id I.loc
 obtain ⟨sl,hL⟩:=u.any ho I.free (by simp)
 exact I.step (g':=s.gens) (d':=s.drawn) (ch:=[]) (fun _ z=>nomatch z) (fun b o _ hb _ e n=>u.keep b o e n hb (by simp)) (fun b o _ hb _ e n=>u.slot b o e n hb (by simp)) (fun b o _ e n=>u.free b o e n (by simp)) (fun b o _ e=>u.there b o e (by simp)) u.tups u.frzs u.tbls (fun m' hm=>by
  obtain ⟨o',es',ep',ho',r'⟩:=hm
  rw [ho] at ho';cases ho'
  exact ⟨_,es',ep',hL,r'⟩) hok I.bare ht
theorem Inv.call {g':Array lg} {t':Nat} {d':Drawn} {ch:List af} (I:Inv X pins σ H s) (u:Un (frs X.stack) ch H H' s.heap h') (hok:HOk X.prog X.w H' h') (hg:fi g')
  (hch:∀ b ∈ ch,(b ∈ X.ex \/ X.s₀.heap.objs.size <= b)/\b ≠ X.env.locals/\(∀ x c,X.env.cells.lookup x=some c->c ≠ b)/\∀ p ∈ X.pn ++ pins,p.1 ≠ b) (ht:0 < t':=by first|exact cB _|exact Inv.tk ‹_›|assumption|omega):
  Inv X pins σ H' { s with heap:=h',gens:=g',drawn:=d',toks:=t' }:=by
 obtain ⟨m,⟨o,es,ep,ho,r⟩,_⟩:=id I.loc
 obtain ⟨sl,hL⟩:=u.any ho I.free fun z=>(hch _ z).2.1 rfl
 exact I.step (ch:=ch) hch (fun b o hL hb hc e n=>u.keep b o e n (fun z=>(av.mp (I.stkSub b z)).elim hL hb) hc) (fun b o _ _ hc e n=>u.any e n hc) (fun b o hc e n=>u.free b o e n hc) (fun b o hc e=>u.there b o e hc) u.tups u.frzs u.tbls (fun m' hm=>by
  obtain ⟨o',es',ep',ho',r'⟩:=hm
  rw [ho] at ho';cases ho'
  exact ⟨_,es',ep',hL,r'⟩) hok hg ht
theorem Inv.turned {t':Nat} {it:af} (I:Inv X pins σ H s) (k:∀ b o,b ≠ it->s.heap.get? b=some o->h'.get? b=some o) (hn:H it=none) (hL:it ≠ X.env.locals)
  (h1:it ∈ X.ex \/ X.s₀.heap.objs.size <= it) (h2:∀ x c,X.env.cells.lookup x=some c->c ≠ it) (h3:∀ p ∈ X.pn ++ pins,p.1 ≠ it) (ht:0 < t':=by first|exact cB _|exact Inv.tk ‹_›|assumption|omega):Inv X pins σ H { s with heap:=h',toks:=t' }:=by
 have nit:∀ b u,H b=some u->b ≠ it:=fun b u e z=>by rw [z,hn] at e;cases e
 refine I.step (g':=s.gens) (d':=s.drawn) (ch:=[it]) (fun b hb=>?_) (fun b o _ _ hc e _=>k b o (fun z=>hc (by simp [z])) e) (fun b o _ _ hc e _=>⟨o.slots,k b o (fun z=>hc (by simp [z])) e⟩) (fun _ _ _ _ n=>n)
  (fun b o hc e=>⟨o,k b o (fun z=>hc (by simp [z])) e⟩) (fun _ _ e=>e) (fun _ _ _ e=>e) (fun b ps e=>⟨#[],by rw [e];simp⟩) (fun m hm=>?_) (fun b u e=>?_) I.bare ht
 ·have e:b=it:=by simpa using hb
  subst e
  exact ⟨h1,hL,h2,h3⟩
 ·obtain ⟨o,es,ep,ho,r⟩:=hm
  exact ⟨o,es,ep,k _ o (bo hL) ho,r⟩
 ·refine (I.hok b u e).stay (fun c v hc q=>k c v ?_ q) (fun _ q=>q) fun _ _ q=>q
  rcases hc with z|z
  ·rw [z];exact nit b u e
  ·exact nit c _ z
theorem Inv.tok (I:Inv X pins σ H s) (t:Nat) (ht:0 < t:=by first|exact cB _|exact Inv.tk ‹_›|assumption|omega):Inv X pins σ H { s with toks:=t }:=I.un (h':=s.heap) (t':=t) Un.refl I.hok
theorem Inv.kept (I:Inv X pins σ H s) (k:∀ b u,s.heap.get? b=some u->h'.get? b=some u) (ht:0 < t':=by first|exact cB _|exact Inv.tk ‹_›|assumption|omega):Inv X pins σ H { s with heap:=h',toks:=t' }:=I.un (Un.kept k) (I.hok.kept k)
theorem Inv.laid {a:af} {o:HO} {t':Nat} (I:Inv X pins σ H s) (k:∀ b u,s.heap.get? b=some u->h'.get? b=some u) (hp:s.heap.objs.size <= a) (new:mi X.prog X.w (upd H a o) h' a o) (ht:0 < t':=by first|exact cB _|exact Inv.tk ‹_›|assumption|omega):
  Inv X pins σ (upd H a o) { s with heap:=h',toks:=t' }:=I.un (Un.laid k hp (I.hok.fresh hp)) (I.hok.laid k hp new)
theorem Inv.write (I:Inv X pins σ H s) (mu:Mut (H x)) (he:e=x \/ H e=some (.own x)) (k:∀ b u,b ≠ e->s.heap.get? b=some u->h'.get? b=some u) (heo:∃ u,h'.get? e=some u)
  (new:mi X.prog X.w (upd H x o) h' x o) (ht:0 < t':=by first|exact cB _|exact Inv.tk ‹_›|assumption|omega):Inv X pins σ (upd H x o) { s with heap:=h',toks:=t' }:=I.un (Un.write mu he k heo) (I.hok.write mu he k heo new)
theorem Inv.weak (I:Inv X pins σ H s) (hl:σ'.length=σ.length) (w:∀ (i:Nat) v,σ'[i]?=some (some v)->σ[i]?=some (some v)):Inv X pins σ' H s:=
 ⟨I.ok,I.os,I.bare,I.base,let ⟨m,hn,hl'⟩:=I.loc;⟨m,hn,fun i x v e1 e2 e3=>hl' i x v e1 (w i v e2) e3⟩,I.cell,I.free,I.freeC,I.pin,I.hok,hl.trans I.len,I.tk⟩
theorem Inv.pins_of (I:Inv X pins σ H s) (h:∀ p ∈ pins',s.heap.get? p.1=some p.2/\H p.1=none/\p.1 ≠ X.env.locals/\p.1 ∉ X.fs/\∀ v,p.2.data ≠ .cell v):Inv X pins' σ H s:=
 ⟨I.ok,I.os,I.bare,I.base,I.loc,I.cell,I.free,I.freeC,fun p hp=>(bg.mp hp).elim (fun z=>I.pin p (cK _ z)) (h p),I.hok,I.len,I.tk⟩
theorem z7F {N:List Str} (hN:N.Nodup) {i j:Nat} {x:Str} (a:N[i]?=some x) (b:N[j]?=some x):i=j:=by
 obtain ⟨h1,e1⟩:=ao.mp a
 obtain ⟨h2,e2⟩:=ao.mp b
 exact (iW hN).mp (e1.trans e2.symm)
theorem z8F {M:jh} {A:ba} {E:ae->ai->Prop} {i:Nat} {x:Str} {v:V} {u:ae} {Q:Unit->ai->Prop} (I:Inv X pins σ H s) (hN:X.N.Nodup) (hi:X.N[i]?=some x) (hx:Loc X.env.scope x) (r:RelV v u)
  (h:∀ s',Inv X pins (σ.set i (some v)) H s'->(∃ a,cr a s.heap s'.heap/\(a=X.env.locals \/ X.env.cells.lookup x=some a))->Q () s') (hf:X.fn x=true \/ X.env.scope.names.lookup x=some .local:=by first|exact .inl rfl|exact .inr rfl|assumption):ar M A (storeName X.env x u) Q E s:=by
 obtain ⟨m,hn,hl⟩:=id I.loc
 have hcls:(X.env.scope.kind == .class || (X.env.scope.kind == .module && X.env.locals != X.env.globals))=false:=by rw [I.ok.kind];rfl
 have hiσ:i < σ.length:=by rw [I.len];exact (ao.mp hi).1
 have cne:=I.cne
 have tracked:∀ {a:af} {h':aP},(∃ o,s.heap.get? a=some o/\H a=none)->cr a s.heap h'->HOk X.prog X.w H h':=fun {a h'} ha hs b ob e=>by
  obtain ⟨_,_,hfree⟩:=ha
  refine (I.hok b ob e).stay (fun c w' hc q=>(hs.2 c ?_).trans q) (fun _ q=>q) fun _ _ q=>q
  rintro rfl
  rcases hc with rfl|hc
  ·rw [hfree] at e;cases e
  ·rw [hfree] at hc;cases hc
 rcases hx with hk|hk
 ·refine wpAny_storeName_local hk hn (fun h' hn' hs=>?_) hcls
  obtain ⟨oL,_,_,hoL,_⟩:=id hn
  refine h _ ⟨I.ok,I.os,I.bare,⟨fun b o e n hb hx=>?_,fun b o e n hb hx=>?_,I.base.free,fun b o e hx=>?_,I.base.tups,I.base.frzs,I.base.tbls⟩,⟨_,hn',fun j y v' e1 e2 e3=>?_⟩,fun y c e=>?_,I.free,I.freeC,fun p hp=>?_,tracked ⟨oL,hoL,I.free⟩ hs,by simpa using I.len,cB _⟩ ⟨_,hs,.inl rfl⟩
  ·exact (hs.2 b (aX (aN (aF e) I.ok.above))).trans (I.base.keep b o e n hb hx)
  ·obtain ⟨sl,e1⟩:=I.base.slot b o e n hb hx
   exact ⟨sl,(hs.2 b (aX (aN (aF e) I.ok.above))).trans e1⟩
  ·obtain ⟨o',e1⟩:=I.base.there b o e hx
   exact ⟨o',(hs.2 b (aX (aN (aF e) I.ok.above))).trans e1⟩
  ·by_cases hj:j=i
   ·subst hj
    rw [hi] at e1;cases e1
    rw [aT hiσ] at e2
    cases e2
    exact ⟨u,r,.inl ⟨hk,by simp⟩⟩
   ·rw [aY (bo hj)] at e2
    obtain ⟨u',r',q⟩:=hl j y v' e1 e2 e3
    refine ⟨u',r',?_⟩
    rcases q with ⟨k,e⟩|⟨k,c,e,z⟩
    ·refine .inl ⟨k,?_⟩
     have:y ≠ x:=fun e=>hj (z7F hN e1 (e ▸ hi))
     simp [this,e]
    ·exact .inr ⟨k,c,e,z.sameBut hs (cne y c e)⟩
  ·obtain ⟨w',z⟩:=I.cell y c e
   exact ⟨w',z.sameBut hs (cne y c e)⟩
  ·obtain ⟨e,n,ne,nf,d⟩:=I.pin p hp
   exact ⟨(hs.2 p.1 ne).trans e,n,ne,nf,d⟩
 ·have hfn:X.fn x=true:=by
   rcases hf with z|z
   ·exact z
   ·rw [z] at hk;cases hk
  obtain ⟨c,hc⟩:=I.ok.has x (.inl hk)
  obtain ⟨w',z⟩:=I.cell x c hc
  refine wpAny_storeName_cell I.ok.kind hk hc z (fun h' hc' hs=>?_)
  obtain ⟨oc,hoc,hocd⟩:=id z
  refine h { s with heap:=h' } ⟨I.ok,I.os,I.bare,⟨fun b o e n hb hx=>?_,fun b o e n hb hx=>?_,I.base.free,fun b o e hx=>?_,I.base.tups,I.base.frzs,I.base.tbls⟩,⟨m,hn.sameBut hs (bo (cne x c hc)),fun j y v' e1 e2 e3=>?_⟩,fun y c' e=>?_,I.free,I.freeC,fun p hp=>?_,tracked ⟨oc,hoc,I.freeC x c hc⟩ hs,by simpa using I.len,I.tk⟩ ⟨c,hs,.inr hc⟩
  ·exact (hs.2 b (aX (aN (aF e) (I.ok.cab x c hfn hc)))).trans (I.base.keep b o e n hb hx)
  ·obtain ⟨sl,e1⟩:=I.base.slot b o e n hb hx
   exact ⟨sl,(hs.2 b (aX (aN (aF e) (I.ok.cab x c hfn hc)))).trans e1⟩
  ·obtain ⟨o',e1⟩:=I.base.there b o e hx
   exact ⟨o',(hs.2 b (aX (aN (aF e) (I.ok.cab x c hfn hc)))).trans e1⟩
  ·by_cases hj:j=i
   ·subst hj
    rw [hi] at e1;cases e1
    rw [aT hiσ] at e2
    cases e2
    exact ⟨u,r,.inr ⟨.inl hk,c,hc,hc'⟩⟩
   ·rw [aY (bo hj)] at e2
    obtain ⟨u',r',q⟩:=hl j y v' e1 e2 e3
    refine ⟨u',r',?_⟩
    rcases q with q|⟨k,c',e,z'⟩
    ·exact .inl q
    ·refine .inr ⟨k,c',e,z'.sameBut hs ?_⟩
     rintro rfl
     exact hj (z7F hN e1 (I.ok.inj _ _ _ e hc ▸ hi))
  ·by_cases hcc:c'=c
   ·subst hcc;exact ⟨_,hc'⟩
   ·obtain ⟨w2,z2⟩:=I.cell y c' e
    exact ⟨w2,z2.sameBut hs hcc⟩
  ·obtain ⟨e,n,ne,nf,d⟩:=I.pin p hp
   refine ⟨(hs.2 p.1 ?_).trans e,n,ne,nf,d⟩
   intro q
   rw [q,hoc] at e
   have q':oc=p.2:=bN e
   exact d w' (by rw [<- q'];exact hocd)
theorem z64 (I:Inv X pins σ H s) (hN:X.N.Nodup) (hi:X.N[i]?=some x) (hx:Loc X.env.scope x) (r:RelV v u)
  (h:∀ s',Inv X pins (σ.set i (some v)) H s'->Q () s') (hf:X.fn x=true \/ X.env.scope.names.lookup x=some .local:=by first|exact .inl rfl|exact .inr rfl|assumption):ar M A (storeName X.env x u) Q E s:=
 z8F I hN hi hx r (fun s' I' _=>h s' I') hf
theorem Inv.call' (I:Inv X pins σ H s) (ho:s'.os=s.os) (u:Un (frs X.stack) ch H H' s.heap s'.heap) (hok:HOk X.prog X.w H' s'.heap) (hg:fi s'.gens)
  (hch:∀ b ∈ ch,(b ∈ X.ex \/ X.s₀.heap.objs.size <= b)/\b ≠ X.env.locals/\(∀ x c,X.env.cells.lookup x=some c->c ≠ b)/\∀ p ∈ X.pn ++ pins,p.1 ≠ b) (ht:0 < s'.toks:=by first|exact cB _|exact Inv.tk ‹_›|assumption|omega):Inv X pins σ H' s':=by
 obtain ⟨h',g',d',t',o'⟩:=s'
 have e:o'=s.os:=ho
 subst e
 exact I.call (g':=g') (t':=t') (d':=d') u hok hg hch
end
abbrev XK:=ae->Option af->Hp->Prop
abbrev St:=List (Option V)
abbrev VK:=V->Hp->Prop
abbrev TE:=St->Hp->VK->Prop
abbrev TT:=St->Hp->(Bool->Hp->Prop)->Prop
abbrev TA:=St->Hp->(List V->Hp->Prop)->Prop
structure zd0 where
 nx:St->Hp->Prop
 rt:VK
 bk:St->Hp->Prop:=fun _ _=>False
 ct:St->Hp->Prop:=fun _ _=>False
abbrev TS:=zd0->St->Hp->Prop
def EP (X:Cx) (pins:List (af × Obj)) (σ:St) (Q:VK) (u:ae) (s':ai):Prop:=∃ v H',Inv X pins σ H' s'/\RelV v u/\Q v H'
def TP (X:Cx) (pins:List (af × Obj)) (σ:St) (Q:Bool->Hp->Prop) (b:Bool) (s':ai):Prop:=∃ H',Inv X pins σ H' s'/\Q b H'
def AP (X:Cx) (pins:List (af × Obj)) (σ:St) (Q:List V->Hp->Prop) (us:List ae) (s':ai):Prop:=∃ vs H',Inv X pins σ H' s'/\ma vs us/\Q vs H'
def SP (X:Cx) (pins:List (af × Obj)) (D:zd0) (f:Flow) (s':ai):Prop:=
 match f with
 | .next=>∃ σ' H',Inv X pins σ' H' s'/\D.nx σ' H'
 | .brk=>∃ σ' H',Inv X pins σ' H' s'/\D.bk σ' H'
 | .cont=>∃ σ' H',Inv X pins σ' H' s'/\D.ct σ' H'
 | .ret u=>∃ v σ' H',Inv X pins σ' H' s'/\RelV v u/\D.rt v H'
def PE (X:Cx) (e:aK) (t:TE):Prop:=
 ∀ (pins:List (af × Obj)) (s:ai) (σ:St) (H:Hp) (Q:VK),Inv X pins σ H s->t σ H Q->ar (ay X.prog X.w) X.A (eval e X.env) (EP X pins σ Q) X.xe s
def PT (X:Cx) (e:aK) (t:TT):Prop:=
 ∀ (pins:List (af × Obj)) (s:ai) (σ:St) (H:Hp) (Q:Bool->Hp->Prop),Inv X pins σ H s->t σ H Q->ar (ay X.prog X.w) X.A (isTrue e X.env (eval e X.env)) (TP X pins σ Q) X.xe s
def PW (X:Cx) (e:aK) (t:TT):Prop:=
 ∀ (whole:Sem ae) (pins:List (af × Obj)) (s:ai) (σ:St) (H:Hp) (Q:Bool->Hp->Prop),Inv X pins σ H s->t σ H Q->ar (ay X.prog X.w) X.A (isTrue e X.env whole) (TP X pins σ Q) X.xe s
theorem PW.pt (h:PW X e t):PT X e t:=h _
def PA (X:Cx) (es:List aK) (t:TA):Prop:=
 ∀ (pos:Pos) (pins:List (af × Obj)) (s:ai) (σ:St) (H:Hp) (Q:List V->Hp->Prop),Inv X pins σ H s->t σ H Q->ar (ay X.prog X.w) X.A (spliced (backTo pos (aD es X.env))) (AP X pins σ Q) X.xe s
def PS (X:Cx) (st:cu) (t:TS):Prop:=
 ∀ (pins:List (af × Obj)) (s:ai) (σ:St) (H:Hp) (D:zd0),Inv X pins σ H s->t D σ H->ar (ay X.prog X.w) X.A (exec st X.env) (SP X pins D) X.xe s
def PSs (X:Cx) (st:List cu) (t:TS):Prop:=
 ∀ (pins:List (af × Obj)) (s:ai) (σ:St) (H:Hp) (D:zd0),Inv X pins σ H s->t D σ H->ar (ay X.prog X.w) X.A (execs st X.env) (SP X pins D) X.xe s
theorem thn {α:Type} {t:Sem α} {Q Q':α->ai->Prop} {M:jh} {A:ba} {E:ae->ai->Prop} {s:ai} (h:ar M A t Q E s) (hQ:∀ a s,Q a s->Q' a s):ar M A t Q' E s:=c7 h hQ fun _ _ x=>x
section
variable {X:Cx}
theorem bin {a b:aK} {ta tb:TE} (ha:PE X a ta) (hb:PE X b tb) {pins:List (af × Obj)} {s:ai} {σ:St} {H:Hp} {R:V->V->Hp->Prop} (I:Inv X pins σ H s) (h:ta σ H fun x H1=>tb σ H1 fun y H2=>R x y H2)
  {α:Type} {Q:α->ai->Prop} {f:ae->ae->Sem α}
  (hf:∀ v u s2 x y H2,Inv X pins σ H2 s2->RelV x v->RelV y u->R x y H2->ar (ay X.prog X.w) X.A (f v u) Q X.xe s2):
  ar (ay X.prog X.w) X.A (eval a X.env) (fun v s₁=>ar (ay X.prog X.w) X.A (eval b X.env) (fun u s₂=>ar (ay X.prog X.w) X.A (f v u) Q X.xe s₂) X.xe s₁) X.xe s:=by
 refine thn (ha pins s σ H _ I h) fun v s1 ⟨x,H1,I1,r1,q1⟩=>?_
 refine thn (hb pins s1 σ H1 _ I1 q1) fun u s2 ⟨y,H2,I2,r2,q2⟩=>?_
 exact hf v u s2 x y H2 I2 r1 r2 q2
def ziT (i:Nat):TE:=fun σ H Q=>∃ v,σ[i]?=some (some v)/\Q v H
def tC (v:V):TE:=fun _ H Q=>Q v H
theorem z5D (hN:X.N[i]?=some x) (hv:Vis X.env.scope x) (hd:(x == ("__debug__":Str))=false:=by decide) (hcd:(x == ("__classdict__":Str))=false:=by decide):PE X (.Name x pos) (ziT i):=by
 intro pins s σ H Q I h
 obtain ⟨v,e,h⟩:=h
 obtain ⟨m,hn,hl⟩:=I.loc
 obtain ⟨u,r,l⟩:=hl i x v hN e hv
 have fin:EP X pins σ Q u s:=⟨v,H,I,r,h⟩
 rcases l with ⟨hk,hm⟩|⟨hk,c,hc,hcell⟩
 ·exact gG (jO I.ok.kind hk hn hm fin) hd
 ·rcases hk with hk|hk
  ·exact gG (kg I.ok.kind hk hc hcell fin) hd
  ·exact gG (kh I.ok.kind hk hc hcell fin hcd) hd
theorem zgi:PE X (.Constant (.int i) j pos) (tC (.int i)):=fun _ _ _ H _ I h=>wpAny_Constant_int ⟨.int i,H,I.tok _,⟨_,rfl⟩,h⟩
theorem zlE:PE X (.Constant (.bool b) j pos) (tC (.bl b)):=fun _ _ _ H _ I h=>Constant_bool ⟨.bl b,H,I,rfl,h⟩
theorem zcL:PE X (.Constant .none j pos) (tC .non):=fun _ _ _ H _ I h=>Constant_none ⟨.non,H,I,rfl,h⟩
theorem zg5:PE X (.Constant (.str x) j pos) (tC (.str x)):=fun _ _ _ H _ I h=>il ⟨.str x,H,I.tok _,⟨_,rfl⟩,h⟩
def Gl (X:Cx) (x:Str):Prop:=X.env.kindOf x=some .globalImplicit
theorem z58 (I:Inv X pins σ H s) (hg:Gl X x) (hm:X.mg x=some u) (h:Q u s)
  (hd:(x == ("__debug__":Str))=false:=by decide):ar (ay X.prog X.w) X.A (eval (.Name x pos) X.env) Q E s:=
 iy I.ok.kind hg (Calls.loadGlobal_global (by rw [I.ok.glob];exact I.mod.glob.keeps I.bk) hm h) hd
theorem z7A (I:Inv X pins σ H s) (hg:Gl X x) (hm:X.mg x=none) (hv:a8 x=some u) (h:Q u s)
  (hn:x ≠ "__name__":=by decide) (hd:(x == ("__debug__":Str))=false:=by decide):ar (ay X.prog X.w) X.A (eval (.Name x pos) X.env) Q E s:=by
 obtain ⟨mb,h1,h2⟩:=I.mod.blt
 exact iy I.ok.kind hg (Calls.loadGlobal_builtin (by rw [I.ok.glob];exact I.mod.glob.keeps I.bk) hm (by rw [I.ok.blt];exact h1.keeps I.bk) ((h2 x hn).trans hv) h) hd
theorem z6L (hg:Gl X x) (hm:X.mg x=some u) (r:RelV v u) (hd:(x == ("__debug__":Str))=false:=by decide):PE X (.Name x pos) (tC v):=
 fun _ _ _ H _ I h=>z58 I hg hm ⟨v,H,I,r,h⟩ hd
theorem z8p (hg:Gl X x) (hm:X.mg x=none) (hv:a8 x=some u) (r:RelV v u) (hn:x ≠ "__name__":=by decide) (hd:(x == ("__debug__":Str))=false:=by decide):PE X (.Name x pos) (tC v):=
 fun _ _ _ H _ I h=>z7A I hg hm hv ⟨v,H,I,r,h⟩ hn hd
variable {a b:aK} {ta tb:TE} {pos:Pos}
def PC (X:Cx) (op:CmpOp) (a b:aK) (t:TE):Prop:=
 ∀ (pins:List (af × Obj)) (s:ai) (σ:St) (H:Hp) (Q:VK),Inv X pins σ H s->t σ H Q->
  ar (ay X.prog X.w) X.A (eval a X.env) (fun v s₁=>ar (ay X.prog X.w) X.A (eval b X.env) (fun u s₂=>ar (ay X.prog X.w) X.A (b0 op v u) (EP X pins σ Q) X.xe s₂) X.xe s₁) X.xe s
theorem zaA (b:aK) (h:op ≠ .In) (h2:op ≠ .NotIn):behindInMarks op b=false:=by
 have e1:(op == CmpOp.In)=false:=by cases op <;> first|rfl|exact absurd rfl h
 have e2:(op == CmpOp.NotIn)=false:=by cases op <;> first|rfl|exact absurd rfl h2
 cases b <;> simp [behindInMarks,e1,e2]
def tB (t:TE):TT:=fun σ H Q=>t σ H fun x H1=>∃ c,x=.bl c/\Q c H1
theorem zkg (h:PC X op a b t) (h1:behindInMarks op b=false:=by first|exact zaA _ (by decide) (by decide)|rfl):PE X (.Compare a [op] [b] pos) t:=fun pins s σ H Q I hw=>wpAny_Compare1 (h pins s σ H Q I hw) h1
theorem zl4 {op:CmpOp} {t:TE} (h:PC X op a b t) (h1:behindInMarks op b=false:=by first|exact zaA _ (by decide) (by decide)|rfl):PT X (.Compare a [op] [b] pos) (tB t):=by
 intro pins s σ H Q I hw
 refine jy (thn (h pins s σ H _ I hw) fun v s1 h1=>thn h1 fun u s2 h2=>thn h2 fun c s3 ⟨x,H1,I1,r1,q1⟩=>?_) h1
 obtain ⟨d,rfl,q⟩:=q1
 cases r1
 exact cQ ⟨H1,I1,q⟩
variable {tA tB':TT} {z2C:List aK}
def zmE (t u:TT):TT:=fun σ H Q=>t σ H fun c H1=>if c=true then u σ H1 Q else Q false H1
def tOr (t u:TT):TT:=fun σ H Q=>t σ H fun c H1=>if c=true then Q true H1 else u σ H1 Q
def zmV (t:TT):TT:=fun σ H Q=>t σ H fun c H1=>Q (!c) H1
theorem zi8 (ha:PT X a tA):PW X (.BoolOp .And [a] pos) tA:=by
 intro wh pins s σ H Q I h
 refine isTrue_and (thn (ha pins s σ H Q I h) fun c s1 e=>?_)
 cases c with
 | true=>exact isTrue_and_nil e
 | false=>exact e
theorem zj1 (ha:PT X a tA):PW X (.BoolOp .Or [a] pos) tA:=by
 intro wh pins s σ H Q I h
 refine isTrue_or (thn (ha pins s σ H Q I h) fun c s1 e=>?_)
 cases c with
 | false=>exact isTrue_or_nil e
 | true=>exact e
theorem zj3 (ha:PT X a tA) (hb:PW X (.BoolOp .And (b :: z2C) pos) tB'):PW X (.BoolOp .And (a :: b :: z2C) pos) (zmE tA tB'):=by
 intro wh pins s σ H Q I h
 refine isTrue_and (thn (ha pins s σ H _ I h) fun c s1 ⟨H1,I1,q1⟩=>?_)
 cases c with
 | true=>exact hb wh pins s1 σ H1 Q I1 q1
 | false=>exact ⟨H1,I1,q1⟩
theorem zlU (ha:PT X a tA) (hb:PW X (.BoolOp .Or (b :: z2C) pos) tB'):PW X (.BoolOp .Or (a :: b :: z2C) pos) (tOr tA tB'):=by
 intro wh pins s σ H Q I h
 refine isTrue_or (thn (ha pins s σ H _ I h) fun c s1 ⟨H1,I1,q1⟩=>?_)
 cases c with
 | true=>exact ⟨H1,I1,q1⟩
 | false=>exact hb wh pins s1 σ H1 Q I1 q1
theorem ziX (ha:PT X a tA):PT X (.UnaryOp .Not a pos) (zmV tA):=by
 intro pins s σ H Q I h
 exact isTrue_not (ha pins s σ H (fun c H1=>Q (!c) H1) I h)
def zlR (ta tb:TE):TE:=fun σ H Q=>ta σ H fun x H1=>∃ c,x=.bl c/\if c=true then tb σ H1 Q else Q (.bl false) H1
def zmY (ta tb:TE):TE:=fun σ H Q=>ta σ H fun x H1=>∃ c,x=.bl c/\if c=true then Q (.bl true) H1 else tb σ H1 Q
def zll (ta:TE):TE:=fun σ H Q=>ta σ H fun x H1=>∃ c,x=.bl c/\Q (.bl (!c)) H1
theorem zjT (h:PE X a t):PE X (.BoolOp op [a] pos) t:=fun pins s σ H Q I hw=>BoolOp_one (h pins s σ H Q I hw)
theorem zjZ (ha:PE X a ta) (hb:PE X (.BoolOp .And (b :: z2C) pos) tb):PE X (.BoolOp .And (a :: b :: z2C) pos) (zlR ta tb):=by
 intro pins s σ H Q I h
 refine BoolOp_and (thn (ha pins s σ H _ I h) fun v s1 ⟨x,H1,I1,r1,q1⟩=>?_)
 obtain ⟨c,rfl,q1⟩:=q1
 cases r1
 refine cQ ?_
 cases c with
 | true=>exact hb pins s1 σ H1 Q I1 q1
 | false=>exact ⟨.bl false,H1,I1,rfl,q1⟩
theorem zlL (ha:PE X a ta) (hb:PE X (.BoolOp .Or (b :: z2C) pos) tb):PE X (.BoolOp .Or (a :: b :: z2C) pos) (zmY ta tb):=by
 intro pins s σ H Q I h
 refine BoolOp_or (thn (ha pins s σ H _ I h) fun v s1 ⟨x,H1,I1,r1,q1⟩=>?_)
 obtain ⟨c,rfl,q1⟩:=q1
 cases r1
 refine cQ ?_
 cases c with
 | false=>exact hb pins s1 σ H1 Q I1 q1
 | true=>exact ⟨.bl true,H1,I1,rfl,q1⟩
theorem zj9 (ha:PE X a ta):PE X (.UnaryOp .Not a pos) (zll ta):=by
 intro pins s σ H Q I h
 refine UnaryOp_ (thn (ha pins s σ H _ I h) fun v s1 ⟨x,H1,I1,r1,q1⟩=>?_)
 obtain ⟨c,rfl,q1⟩:=q1
 cases r1
 exact not_of (cQ ⟨.bl (!c),H1,I1,rfl,q1⟩)
end
def SqL (K:aj) (H:Hp) (a:af) (xs:List V):Prop:=
 Rd H a (.lst xs) \/
  ∃ (o:Obj) (its:Array ae) (n:Nat),K.lookup a=some o/\o.cls=.type "list"/\o.dict=none/\o.data=.seq its n/\its.size <= sizeLine/\ma xs its.toList
def SqT (K:aj) (H:Hp) (a:af) (xs:List V):Prop:=
 Rd H a (.tup xs) \/
  ∃ (o:Obj) (its:Array ae) (n:Nat),K.lookup a=some o/\o.cls=.type "tuple"/\o.data=.seq its n/\its.size <= sizeLine/\ma xs its.toList
def zmF:ae->Option V
 | .none=>some .non
 | .bool b=>some (.bl b)
 | .int i _=>some (.int i)
 | .str x _=>some (.str x)
 | .bytes b _=>some (.byt b)
 | .float b _=>some (.flt b)
 | .ref a=>some (.ref a)
 | .type n=>some (.ty n)
 | _=>none
theorem RelV.abs (r:RelV x u):zmF u=some x:=by
 cases x with
 | non=>cases r;rfl
 | bl _=>cases r;rfl
 | int _=>obtain ⟨t,rfl⟩:=r;rfl
 | str _=>obtain ⟨t,rfl⟩:=r;rfl
 | byt _=>obtain ⟨t,rfl⟩:=r;rfl
 | flt _=>obtain ⟨t,rfl⟩:=r;rfl
 | ref _=>cases r;rfl
 | ty _=>cases r;rfl
theorem RelV.inj (r:RelV x u) (q:RelV y u):x=y:=bN (r.abs.symm.trans q.abs)
theorem ma.inj:∀ {xs ys:List V} {us:List ae},ma xs us->ma ys us->xs=ys
 | _,_,_,.nil,.nil=>rfl
 | _,_,_,.cons r t,.cons r' t'=>by rw [r.inj r',ma.inj t t']
section
variable {X:Cx} {pins:List (af × Obj)} {σ:St} {H:Hp} {s:ai} {a:af} {xs ys:List V}
theorem SqL.of {K:aj} (h:H a=some (.lst xs)):SqL K H a xs:=.inl (.inl h)
theorem SqT.of {K:aj} (h:H a=some (.tup xs)):SqT K H a xs:=.inl (.inl h)
theorem Inv.list (I:Inv X pins σ H s) (h:SqL X.K H a xs):∃ its:List ae,ma xs its/\PlainL s.heap a its.toArray/\xs.length <= sizeLine:=by
 rcases h with h|⟨o,its,n,hk,hc,hd,hs,hz,r⟩
 ·obtain ⟨z,its,n,r,e⟩:=h.ok I.hok
  exact ⟨its,r,⟨_,n,e,rfl,rfl,rfl⟩,z⟩
 ·refine ⟨its.toList,r,⟨o,n,I.kIn a o hk,hc,hd,by simpa using hs⟩,?_⟩
  have e:=r.length
  simp only [ck] at e
  omega
theorem Inv.tuple (I:Inv X pins σ H s) (h:SqT X.K H a xs):∃ its:List ae,ma xs its/\IsTup s.heap a its.toArray/\xs.length <= sizeLine:=by
 rcases h with h|⟨o,its,n,hk,hc,hs,hz,r⟩
 ·obtain ⟨z,its,r,p⟩:=h.ok I.hok
  exact ⟨its,r,p.tup,z⟩
 ·refine ⟨its.toList,r,⟨o,I.kIn a o hk,hc,n,by simpa using hs⟩,?_⟩
  have e:=r.length
  simp only [ck] at e
  omega
theorem Inv.list_inj (I:Inv X pins σ H s) (h:SqL X.K H a xs) (h':SqL X.K H a ys):xs=ys:=by
 obtain ⟨its,r,⟨o,n,e,_,_,d⟩,_⟩:=I.list h
 obtain ⟨its',r',⟨o',n',e',_,_,d'⟩,_⟩:=I.list h'
 rw [e] at e';cases e'
 rw [d] at d'
 injection d' with d1 _
 have:its=its':=by simpa using congrArg kr d1
 subst this
 exact r.inj r'
theorem Inv.tuple_inj (I:Inv X pins σ H s) (h:SqT X.K H a xs) (h':SqT X.K H a ys):xs=ys:=by
 obtain ⟨its,r,⟨o,e,_,n,d⟩,_⟩:=I.tuple h
 obtain ⟨its',r',⟨o',e',_,n',d'⟩,_⟩:=I.tuple h'
 rw [e] at e';cases e'
 rw [d] at d'
 injection d' with d1 _
 have:its=its':=by simpa using congrArg kr d1
 subst this
 exact r.inj r'
end
abbrev Cx.wish (X:Cx) (E:ae->ai->Prop):Cx:={ X with xe:=E }
abbrev Cx.nox (X:Cx):Cx:=X.wish fun _ _=>False
theorem Cx.Ok.wish {X:Cx} (ok:X.Ok) (E:ae->ai->Prop):(X.wish E).Ok:=
 ⟨ok.mod,ok.kind,ok.glob,ok.blt,ok.above,ok.inj,ok.has,ok.cab,ok.hd,ok.frames,ok.stk,ok.exf,ok.bs,ok.bsz,ok.noex,ok.exfs,ok.funs,ok.frf⟩
theorem Cx.Ok.unwish {X:Cx} {E:ae->ai->Prop} (ok:(X.wish E).Ok):X.Ok:=
 ⟨ok.mod,ok.kind,ok.glob,ok.blt,ok.above,ok.inj,ok.has,ok.cab,ok.hd,ok.frames,ok.stk,ok.exf,ok.bs,ok.bsz,ok.noex,ok.exfs,ok.funs,ok.frf⟩
section
variable {X:Cx} {pins:List (af × Obj)} {σ:St} {H:Hp} {s:ai} {E:ae->ai->Prop}
theorem Inv.wish (I:Inv X pins σ H s) (E:ae->ai->Prop):Inv (X.wish E) pins σ H s:=⟨I.ok.wish E,I.os,I.bare,I.base,I.loc,I.cell,I.free,I.freeC,I.pin,I.hok,I.len,I.tk⟩
theorem Inv.unwish (I:Inv (X.wish E) pins σ H s):Inv X pins σ H s:=⟨I.ok.unwish,I.os,I.bare,I.base,I.loc,I.cell,I.free,I.freeC,I.pin,I.hok,I.len,I.tk⟩
theorem SP.unwish {D:zd0} {f:Flow} {s':ai} (h:SP (X.wish E) pins D f s'):SP X pins D f s':=by
 cases f with
 | next=>obtain ⟨σ',H',I,q⟩:=h;exact ⟨σ',H',I.unwish,q⟩
 | brk=>obtain ⟨σ',H',I,q⟩:=h;exact ⟨σ',H',I.unwish,q⟩
 | cont=>obtain ⟨σ',H',I,q⟩:=h;exact ⟨σ',H',I.unwish,q⟩
 | ret u=>obtain ⟨v,σ',H',I,r,q⟩:=h;exact ⟨v,σ',H',I.unwish,r,q⟩
theorem PE.nox (h:PE X.nox e t):PE X e t:=fun pins s σ H Q I hw=>
 c7 (h pins s σ H Q (I.wish _) hw) (fun _ _ ⟨v,H',I',r,q⟩=>⟨v,H',I'.unwish,r,q⟩) fun _ _ z=>ak z
theorem PT.nox (h:PT X.nox e t):PT X e t:=fun pins s σ H Q I hw=>
 c7 (h pins s σ H Q (I.wish _) hw) (fun _ _ ⟨H',I',q⟩=>⟨H',I'.unwish,q⟩) fun _ _ z=>ak z
theorem PSs.nox {st:List cu} {t:TS} (h:PSs X.nox st t):PSs X st t:=fun pins s σ H D I hw=>
 c7 (h pins s σ H D (I.wish _) hw) (fun _ _ q=>q.unwish) fun _ _ z=>ak z
end
section
variable {X:Cx} {st:cu} {z2C:List cu} {t u:TS} {e:aK} {te:TE} {pos:Pos}
def zjK:TS:=fun D σ H=>D.nx σ H
def zmO (t u:TS):TS:=fun D σ H=>t { D with nx:=u D } σ H
theorem zc6:PSs X [] zjK:=fun _ _ σ H _ I h=>eS ⟨σ,H,I,h⟩
theorem z2N (h1:PS X st t) (h2:PSs X z2C u):PSs X (st :: z2C) (zmO t u):=by
 intro pins s σ H D I h
 refine fk (thn (h1 pins s σ H { D with nx:=u D } I h) fun f s1 q=>?_)
 cases f with
 | next=>
  obtain ⟨σ',H',I',q⟩:=q
  exact h2 pins s1 σ' H' D I' q
 | ret v=>exact q
 | brk=>exact q
 | cont=>exact q
theorem zce (h1:PS X st t):PSs X [st] t:=by
 intro pins s σ H D I h
 refine fk (thn (h1 pins s σ H D I h) fun f s1 q=>?_)
 cases f with
 | next=>exact eS q
 | ret v=>exact q
 | brk=>exact q
 | cont=>exact q
theorem zik:PS X (.Pass pos) zjK:=fun _ _ σ H _ I h=>wpAny_Pass ⟨σ,H,I,h⟩
theorem Inv.quiet {pins:List (af × Obj)} {σ:St} {H:Hp} {s:ai} (I:Inv X pins σ H s):interactive X.env=false:=by simp [interactive,I.ok.kind]
def zcM (te:TE):TS:=fun D σ H=>te σ H fun _ H1=>D.nx σ H1
theorem z6K (he:PE X e te) (hs:swapsWith e none pos.line X.env=pure false:=by rfl):PS X (.Expr e pos) (zcM te):=by
 intro pins s σ H D I h
 exact wpAny_Expr_any (thn (he pins s σ H _ I h) fun v s1 ⟨x,H1,I1,r1,q1⟩=>⟨σ,H1,I1,q1⟩) I.quiet hs
def zmy (te:TE):TS:=fun D σ H=>te σ H D.rt
theorem zgc (he:PE X e te):PS X (.Return (some e) pos) (zmy te):=by
 intro pins s σ H D I h
 exact wpAny_Return_some (thn (he pins s σ H _ I h) fun v s1 ⟨x,H1,I1,r1,q1⟩=>⟨x,σ,H1,I1,r1,q1⟩)
def zmL (c:TT) (t u:TS):TS:=fun D σ H=>c σ H fun b H1=>if b=true then t D σ H1 else u D σ H1
theorem zjX {c:aK} {a b:List cu} {tc:TT} (hc:PT X c tc) (ha:PSs X a t) (hb:PSs X b u):PS X (.If c a b pos) (zmL tc t u):=by
 intro pins s σ H D I h
 refine wpAny_If (thn (hc pins s σ H _ I h) fun d s1 ⟨H1,I1,q1⟩=>?_)
 cases d with
 | true=>exact ha pins s1 σ H1 D I1 q1
 | false=>exact hb pins s1 σ H1 D I1 q1
def zkC:TS:=fun _ _ _=>False
theorem zdV:PSs X sts zkC:=fun _ _ _ _ _ _ h=>h.elim
end
abbrev TG:=V->St->Hp->(St->Hp->Prop)->Prop
abbrev TGs:=List V->St->Hp->(St->Hp->Prop)->Prop
def PG (X:Cx) (target:aK) (t:TG):Prop:=
 ∀ (pins:List (af × Obj)) (s:ai) (σ:St) (H:Hp) (v:V) (u:ae) (Q:St->Hp->Prop),Inv X pins σ H s->RelV v u->t v σ H Q->
  ar (ay X.prog X.w) X.A (assign target X.env u) (fun _ s'=>∃ σ' H',Inv X pins σ' H' s'/\Q σ' H') X.xe s
def PGs (X:Cx) (ts:List aK) (t:TGs):Prop:=
 ∀ (pins:List (af × Obj)) (s:ai) (σ:St) (H:Hp) (vs:List V) (us:List ae) (Q:St->Hp->Prop),Inv X pins σ H s->ma vs us->t vs σ H Q->
  ar (ay X.prog X.w) X.A (assignInOrder ((fq ts X.env).map (·.2)) us) (fun _ s'=>∃ σ' H',Inv X pins σ' H' s'/\Q σ' H') X.xe s
abbrev zlC:=V->V->V->Hp->(Hp->Prop)->Prop
def zmx (X:Cx) (t:zlC):Prop:=
 ∀ (pins:List (af × Obj)) (s:ai) (σ:St) (H:Hp) (o i v:V) (ov iv u:ae) (Q:Hp->Prop),Inv X pins σ H s->RelV o ov->RelV i iv->RelV v u->t o i v H Q->
  ar (ay X.prog X.w) X.A (setItem ov iv u) (fun _ s'=>∃ H',Inv X pins σ H' s'/\Q H') X.xe s
section
variable {X:Cx} {pos:Pos}
def za3 (i:Nat):TG:=fun v σ H Q=>Q (σ.set i (some v)) H
theorem z84 (hN:X.N.Nodup) (hi:X.N[i]?=some x) (hx:Loc X.env.scope x) (hf:X.fn x=true \/ X.env.scope.names.lookup x=some .local:=by first|exact .inl rfl|exact .inr rfl|assumption):PG X (.Name x pos) (za3 i):=by
 intro pins s σ H v u Q I r h
 exact wpAny_assign_Name (z64 I hN hi hx r (fun s' I'=>⟨_,H,I',h⟩) hf)
def zmf:TGs:=fun vs σ H Q=>vs=[]/\Q σ H
def zhx (t:TG) (u:TGs):TGs:=fun vs σ H Q=>∃ v r,vs=v :: r/\t v σ H fun σ' H'=>u r σ' H' Q
theorem zhz:PGs X [] zmf:=by
 intro pins s σ H vs us Q I r h
 obtain ⟨e,h⟩:=h
 subst e
 cases r
 exact assignInOrder_nil ⟨σ,H,I,h⟩
theorem zaL {e:aK} {es:List aK} {t:TG} {u:TGs} (h1:PG X e t) (h2:PGs X es u)
  (hs:(fq (e :: es) X.env).map (·.2)=assign e X.env :: (fq es X.env).map (·.2):=by rfl):PGs X (e :: es) (zhx t u):=by
 intro pins s σ H vs us Q I r h
 obtain ⟨v,vr,e1,h⟩:=h
 subst e1
 cases r with
 | cons r rr=>
  rw [hs]
  refine assignInOrder_cons (thn (h1 pins s σ H _ _ _ I r h) fun _ s1 ⟨σ1,H1,I1,q1⟩=>?_)
  exact h2 pins s1 σ1 H1 _ _ Q I1 rr q1
def zmp (K:aj) (n:Nat) (t:TGs):TG:=fun v σ H Q=>∃ a xs,v=.ref a/\SqT K H a xs/\xs.length=n/\t xs σ H Q
theorem zjb (hc:X.calm=true) (h:PGs X es t)
  (hn:(fq es X.env).length=n:=by rfl) (hst:(fq es X.env).findIdx? (·.1)=none:=by rfl):PG X (.Tuple es k pos) (zmp X.K n t):=by
 intro pins s σ H v u Q I r hw
 obtain ⟨a,xs,e1,hq,hl,hw⟩:=hw
 subst e1
 cases r
 obtain ⟨its,rv,ht,hz⟩:=I.tuple hq
 refine assign_Tuple_tuple (I.ok.hd hc) ht (by simp [hn,<- hl,rv.length]) hst fun h' hx=>?_
 have I1:Inv X pins σ H { s with heap:=h' }:=I.kept (t':=s.toks) fun b o e=>hx b o (aX (aF e)) e
 exact h pins _ σ H xs _ Q I1 (by simpa using rv) hw
def zfl (to ti:TE) (t:zlC):TG:=fun v σ H Q=>to σ H fun o H1=>ti σ H1 fun i H2=>t o i v H2 fun H3=>Q σ H3
theorem zl6 {o i:aK} {to ti:TE} {t:zlC} (ho:PE X o to) (hi:PE X i ti) (hs:zmx X t)
  (ha:∀ v,assign (.Subscript o i pos) X.env v=(do
   let ov <- holding [v] (eval o X.env)
   let iv <- holding [v,ov] (eval i X.env)
   standAt pos
   holding [v,ov,iv] (setItem ov iv v)
   release [v,ov,iv] []):=by intro _;rfl):PG X (.Subscript o i pos) (zfl to ti t):=by
 intro pins s σ H v u Q I r h
 rw [ha]
 refine aa (bL (thn (ho pins s σ H _ I h) fun ov s1 ⟨x,H1,I1,r1,q1⟩=>?_))
 refine aa (bL (thn (hi pins s1 σ H1 _ I1 q1) fun iv s2 ⟨y,H2,I2,r2,q2⟩=>?_))
 refine aa (eQ (aa (bL (thn (hs pins s2 σ H2 x y v ov iv u _ I2 r1 r2 r q2) fun _ s3 ⟨H3,I3,q3⟩=>?_))))
 exact wpAny_release ⟨σ,H3,I3,q3⟩
def zl7 (te:TE) (g:TG):TS:=fun D σ H=>te σ H fun x H1=>g x σ H1 D.nx
theorem zdw {tg e:aK} {te:TE} {g:TG} (he:PE X e te) (hg:PG X tg g) (hs:fv [tg] e pos.line X.env=pure false:=by rfl) (hw:fw [tg] e X.env=pure none:=by rfl)
  (h1:(fq [tg] X.env).map (·.2)=[assign tg X.env]:=by rfl):PS X (.Assign [tg] e pos) (zl7 te g):=by
 intro pins s σ H D I h
 refine wpAny_Assign_stores (thn (he pins s σ H _ I h) fun v s1 ⟨x,H1,I1,r1,q1⟩=>?_) hs hw
 rw [h1]
 exact thn (hg pins s1 σ H1 x v _ I1 r1 q1) fun _ s2 q=>q
theorem zaU {i:Nat} {x:Str} {e:aK} {te:TE} {pos':Pos} (hN:X.N.Nodup) (hi:X.N[i]?=some x) (hx:Loc X.env.scope x) (he:PE X e te) (hs:swapsWith e (some (.Name x pos')) pos.line X.env=pure false:=by rfl) (hf:X.fn x=true \/ X.env.scope.names.lookup x=some .local:=by first|exact .inl rfl|exact .inr rfl|assumption):
  PS X (.Assign [.Name x pos'] e pos) (zl7 te (za3 i)):=by
 intro pins s σ H D I h
 refine wpAny_Assign_Name (thn (he pins s σ H _ I h) fun v s1 ⟨y,H1,I1,r1,q1⟩=>?_) hs
 exact z64 I1 hN hi hx r1 (fun s2 I2=>⟨_,H1,I2,q1⟩) hf
end
section
variable {X:Cx} {pos:Pos}
def zj6 (c:TT) (tb:TS):TS:=fun D σ H=>∃ W:Nat->St->Hp->Prop,(∃ m,W m σ H)/\∀ m σ H,W m σ H->
 c σ H fun b H1=>if b=true then ∃ N:St->Hp->Prop,(∀ σ' H',N σ' H'->∃ m',m' < m/\W m' σ' H')/\tb { D with nx:=N,ct:=N,bk:=D.nx } σ H1 else D.nx σ H1
theorem zfz {c:aK} {body:List cu} {tc:TT} {tb:TS} (hp:ji (ay X.prog X.w) X.A X.env X.xe) (hc:PT X c tc) (hb:PSs X body tb):PS X (.While c body [] pos) (zj6 tc tb):=by
 intro pins s σ H D I h
 obtain ⟨W,⟨m0,w0⟩,turn⟩:=h
 refine wpAny_While (codeAny_whileLoop (fun n s'=>∃ σ' H',Inv X pins σ' H' s'/\W n σ' H') ?_ m0 ⟨σ,H,I,w0⟩)
 rintro n s1 ⟨σ1,H1,I1,w1⟩
 refine dZ hp (thn (hc pins s1 σ1 H1 _ I1 (turn n σ1 H1 w1)) fun b s2 ⟨H2,I2,q2⟩=>?_)
 cases b with
 | true=>
  obtain ⟨N,hN,q2⟩:=q2
  rw [if_pos rfl]
  refine dZ hp (thn (hb pins s2 σ1 H2 _ I2 q2) fun f s3 q3=>?_)
  cases f with
  | next=>
   obtain ⟨σ3,H3,I3,n3⟩:=q3
   obtain ⟨m',hm,w3⟩:=hN σ3 H3 n3
   exact ⟨m',hm,σ3,H3,I3,w3⟩
  | cont=>
   obtain ⟨σ3,H3,I3,n3⟩:=q3
   obtain ⟨m',hm,w3⟩:=hN σ3 H3 n3
   exact ⟨m',hm,σ3,H3,I3,w3⟩
  | brk=>exact q3
  | ret v=>exact q3
 | false=>
  rw [if_neg bH]
  exact eS ⟨σ1,H2,I2,q2⟩
end
structure It where
 go:Nat->Hp->Prop
 yld:Nat->Hp->V->Hp->Prop
 stop:Nat->Hp->Prop
def z8u (X:Cx) (pins:List (af × Obj)) (H:Hp) (b:af):Prop:=
 H b=none/\b ≠ X.env.locals/\b ∉ X.fs/\(b ∈ X.ex \/ X.s₀.heap.objs.size <= b)/\(∀ x c,X.env.cells.lookup x=some c->c ≠ b)/\∀ p ∈ X.pn ++ pins,p.1 ≠ b
theorem Inv.fpOk (I:Inv X pins σ H s) (hb:s.heap.objs.size <= b) (hn:H' b=none):z8u X pins H' b:=by
 refine ⟨hn,cM (aN I.lt hb),I.nofs hb,.inr (bb I.sz hb),fun x c e z=>?_,fun p hp z=>?_⟩
 ·obtain ⟨v,q⟩:=I.cell x c e
  exact absurd (aN q.lt (by rw [z];exact hb)) (bE _)
 ·exact absurd (aN (aF (I.pin p hp).1) (by rw [z];exact hb)) (bE _)
structure zdJ (P:aJ) (w:aR) (K:aj) (tg:aK) (J:It) (fp:List af) (it:af) (tn:Nat->aP->Prop):Prop where
 mem:it ∈ fp
 obj:∀ i h,tn i h->∀ b ∈ fp,∃ o,h.get? b=some o/\∀ v,o.data ≠ .cell v
 keep:∀ i h h',tn i h->(∀ b ∈ fp,∀ o,h.get? b=some o->h'.get? b=some o)->tn i h'
 item:∀ (X:Cx),X.prog=P->X.w=w->X.K=K->X.calm=true->∀ (i:Nat) (pins:List (af × Obj)) (s:ai) (σ:St) (H:Hp) (E:ae->ai->Prop),Inv X pins σ H s->(∀ b ∈ fp,z8u X pins H b)->tn i s.heap->J.go i H->
  ar (ay P w) X.A (pyNext (.ref it)) (fun r s1=>∃ u,r=some u/\
   ar (ay P w) X.A (letOwnedTupleGo tg (.ref it) u) (fun _ s2=>∃ x H',Inv X pins σ H' s2/\RelV x u/\J.yld i H x H'/\tn (i + 1) s2.heap/\∀ b ∈ fp,H' b=none) E s1) E s
 done:∀ (X:Cx),X.prog=P->X.w=w->X.K=K->X.calm=true->∀ (i:Nat) (pins:List (af × Obj)) (s:ai) (σ:St) (H:Hp) (E:ae->ai->Prop),Inv X pins σ H s->(∀ b ∈ fp,z8u X pins H b)->tn i s.heap->J.stop i H->
  ar (ay P w) X.A (pyNext (.ref it)) (fun r s1=>r=none/\Inv X pins σ H s1) E s
 self:∀ (A:ba) (i:Nat) (s:ai) (Q:ae->ai->Prop) (E:ae->ai->Prop),tn i s.heap->Q (.ref it) s->ar (ay P w) A (pyIter (.ref it)) Q E s
abbrev TI:=St->Hp->(It->Hp->Prop)->Prop
def PIE (X:Cx) (pins:List (af × Obj)) (σ:St) (tg:aK) (R:It->Hp->Prop) (itv:ae) (s2:ai):Prop:=
 ∃ (it:af) (fp:List af) (tn:Nat->aP->Prop) (J:It) (H':Hp),itv=.ref it/\Inv X pins σ H' s2/\zdJ X.prog X.w X.K tg J fp it tn/\tn 0 s2.heap/\(∀ b ∈ fp,z8u X pins H' b)/\R J H'
def PI (X:Cx) (tg iter:aK) (wi:TI):Prop:=
 ∀ (pins:List (af × Obj)) (s:ai) (σ:St) (H:Hp) (R:It->Hp->Prop),Inv X pins σ H s->wi σ H R->
  ar (ay X.prog X.w) X.A (eval iter X.env) (fun v s1=>ar (ay X.prog X.w) X.A (pyIter v) (PIE X pins σ tg R) X.xe s1) X.xe s
theorem zew (ho:s.heap.get? it=some o) (hc:o.cls=.type n) (hd:o.data=.fields vs)
  (hn:["enumerate", "zip", "dict_itemiterator", "dict_reverseitemiterator", "odict_iterator", "itertools.zip_longest", "itertools.pairwise"].contains n=false) (hQ:Q () s):ar M A (letOwnedTupleGo tg (.ref it) u) Q E s:=by
 unfold letOwnedTupleGo
 cases tg <;> first
  | exact am hQ
  | (cases u <;> first
    | exact am hQ
    | (refine aa (wpAny_load ho ?_)
       rw [hc,hd]
       show ar M A (if (["enumerate", "zip", "dict_itemiterator", "dict_reverseitemiterator", "odict_iterator", "itertools.zip_longest", "itertools.pairwise"].contains n && vs[0]? == some (bj _))=true then _ else _) Q E s
       rw [if_neg (by intro h;rw [hn,Bool.false_and] at h;cases h)]
       exact am hQ))
def Itl (K:aj) (a:af):It:=
 ⟨fun i H=>∃ xs x,SqL K H a xs/\xs[i]?=some x,fun i H x H'=>H'=H/\∀ xs,SqL K H a xs->xs[i]?=some x,fun i H=>∃ xs,SqL K H a xs/\xs.length <= i⟩
def Itt (K:aj) (a:af):It:=
 ⟨fun i H=>∃ xs x,SqT K H a xs/\xs[i]?=some x,fun i H x H'=>H'=H/\∀ xs,SqT K H a xs->xs[i]?=some x,fun i H=>∃ xs,SqT K H a xs/\xs.length <= i⟩
def Itr (lo:Int) (n:Nat):It:=⟨fun i _=>i < n,fun i H x H'=>H'=H/\x=.int (lo + i),fun i _=>n <= i⟩
theorem z9g {P:aJ} {w:aR} {K:aj} {tg:aK} (a it:af):zdJ P w K tg (Itl K a) [it] it (fun i h=>h.IsListIter it a i) where
 mem:=by simp
 obj:=fun i h st b hb=>by
  have e:b=it:=by simpa using hb
  subst e
  obtain ⟨o,e,c,d⟩:=st
  exact ⟨o,e,fun v z=>by rw [d] at z;cases z⟩
 keep:=fun i h h' st k=>st.at fun o e=>k it (by simp) o e
 item:=by
  intro X hP hw hK hc i pins s σ H E I hf st hg
  subst hP hw hK
  obtain ⟨xs,x,hq,hx⟩:=hg
  obtain ⟨its,rv,p,hz⟩:=I.list hq
  obtain ⟨u,hu,ru⟩:=rv.get hx
  obtain ⟨f0,f1,f2,f3,f4,f5⟩:=hf it (by simp)
  refine wpAny_pyNext_list_item st p.isList (x:=u) (by simpa using hu) fun h' st' sb=>?_
  have I1:Inv X pins σ H { s with heap:=h' }:=I.turned (t':=s.toks) (fun b o hb e=>(sb.2 b hb).trans e) f0 f1 f3 f4 f5
  obtain ⟨o,e,c,d⟩:=id st'
  exact ⟨u,rfl,zew (s:={ s with heap:=h' }) e c d (by decide) ⟨x,H,I1,ru,⟨rfl,fun ys hy=>by rw [I.list_inj hy hq];exact hx⟩,st',fun b hb=>(hf b hb).1⟩⟩
 done:=by
  intro X hP hw hK hc i pins s σ H E I hf st hg
  subst hP hw hK
  obtain ⟨xs,hq,hx⟩:=hg
  obtain ⟨its,rv,p,hz⟩:=I.list hq
  obtain ⟨f0,f1,f2,f3,f4,f5⟩:=hf it (by simp)
  have hl:=rv.length
  exact wpAny_pyNext_list_end (I.ok.hd hc) st p.isList (by simp;omega) fun h' eb=>⟨rfl,I.turned (t':=s.toks) (fun b o hb e=>eb b o hb e) f0 f1 f3 f4 f5⟩
 self:=fun _ _ _ _ _ st h=>wpAny_pyIter_listiter st h
theorem zbW {P:aJ} {w:aR} {K:aj} {tg:aK} (a it:af):zdJ P w K tg (Itt K a) [it] it (fun i h=>h.IsTupleIter it a i) where
 mem:=by simp
 obj:=fun i h st b hb=>by
  have e:b=it:=by simpa using hb
  subst e
  obtain ⟨o,e,c,d⟩:=st
  exact ⟨o,e,fun v z=>by rw [d] at z;cases z⟩
 keep:=fun i h h' st k=>st.at fun o e=>k it (by simp) o e
 item:=by
  intro X hP hw hK hc i pins s σ H E I hf st hg
  subst hP hw hK
  obtain ⟨xs,x,hq,hx⟩:=hg
  obtain ⟨its,rv,p,hz⟩:=I.tuple hq
  obtain ⟨u,hu,ru⟩:=rv.get hx
  obtain ⟨f0,f1,f2,f3,f4,f5⟩:=hf it (by simp)
  refine wpAny_pyNext_tuple_item st (show s.heap.IsTuple a its.toArray from p) (x:=u) (by simpa using hu) fun h' st' sb=>?_
  have I1:Inv X pins σ H { s with heap:=h' }:=I.turned (t':=s.toks) (fun b o hb e=>(sb.2 b hb).trans e) f0 f1 f3 f4 f5
  obtain ⟨o,e,c,d⟩:=id st'
  exact ⟨u,rfl,zew (s:={ s with heap:=h' }) e c d (by decide) ⟨x,H,I1,ru,⟨rfl,fun ys hy=>by rw [I.tuple_inj hy hq];exact hx⟩,st',fun b hb=>(hf b hb).1⟩⟩
 done:=by
  intro X hP hw hK hc i pins s σ H E I hf st hg
  subst hP hw hK
  obtain ⟨xs,hq,hx⟩:=hg
  obtain ⟨its,rv,p,hz⟩:=I.tuple hq
  obtain ⟨f0,f1,f2,f3,f4,f5⟩:=hf it (by simp)
  have hl:=rv.length
  exact wpAny_pyNext_tuple_end (I.ok.hd hc) st (show s.heap.IsTuple a its.toArray from p) (by simp;omega) fun h' eb=>⟨rfl,I.turned (t':=s.toks) (fun b o hb e=>eb b o hb e) f0 f1 f3 f4 f5⟩
 self:=fun _ _ _ _ _ st h=>wpAny_pyIter_tupleiter st h
theorem zbM {P:aJ} {w:aR} {K:aj} {tg:aK} (it:af) (lo:Int) (n:Nat):zdJ P w K tg (Itr lo n) [it] it (fun i h=>IsRangeIter h it (lo + (i:Nat) * 1) ((n:Int) - (i:Nat)) 1) where
 mem:=by simp
 obj:=fun i h st b hb=>by
  have e:b=it:=by simpa using hb
  subst e
  exact ⟨_,st,fun v z=>by
   have z':Data.fields _=Data.cell v:=z
   cases z'⟩
 keep:=fun i h h' st k=>k it (by simp) _ st
 item:=by
  intro X hP hw hK hc i pins s σ H E I hf st hg
  subst hP hw hK
  obtain ⟨f0,f1,f2,f3,f4,f5⟩:=hf it (by simp)
  have W:=Walks.range (prog:=X.prog) (w:=X.w) (I.ok.hd hc) it lo 1 n
  refine d0 I.tk (W.item i s _ _ hg st fun v h' tk hv st' kk htk=>?_)
  have htk:0 < tk:=htk
  obtain ⟨t,rfl⟩:=hv
  have I1:Inv X pins σ H { s with heap:=h',toks:=tk }:=I.turned (fun b o hb e=>kk b o (by simpa using hb) e) f0 f1 f3 f4 f5
  refine ⟨_,rfl,zew (s:={ s with heap:=h',toks:=tk }) (n := "range_iterator") st' rfl rfl (by decide) ⟨.int (lo + i),H,I1,⟨t,?_⟩,⟨rfl,rfl⟩,st',fun b hb=>(hf b hb).1⟩⟩
  rw [Int.mul_one]
 done:=by
  intro X hP hw hK hc i pins s σ H E I hf st hg
  subst hP hw hK
  obtain ⟨f0,f1,f2,f3,f4,f5⟩:=hf it (by simp)
  exact wpAny_pyNext_range_end (I.ok.hd hc) st (by have:n <= i:=hg;omega) fun h' eb=>⟨rfl,I.turned (t':=s.toks) (fun b o hb e=>eb b o hb e) f0 f1 f3 f4 f5⟩
 self:=fun _ _ _ _ _ st h=>wpAny_pyIter_rangeiter st h
section
variable {X:Cx} {tg:aK}
theorem zex {pins:List (af × Obj)} {σ:St} {H:Hp} {s:ai} {R:It->Hp->Prop} {E:ae->ai->Prop} {lo hi:Int} {t u v:Tok} {tk:Nat} (I:Inv X pins σ H s) (h1:-(2 ^ 62) <= lo) (h2:lo < 2 ^ 62) (h3:-(2 ^ 62) <= hi) (h4:hi < 2 ^ 62)
  (q:R (Itr lo (hi - lo).toNat) H) (htk:0 < tk):ar (ay X.prog X.w) X.A (pyIter (.ref s.heap.objs.size)) (PIE X pins σ tg R) E { s with heap:=s.heap.push { cls:=.type "range",data:=.fields #[.int lo t,.int hi u,.int 1 v] },toks:=tk }:=by
 refine wpAny_pyIter_range (IsRange.new ..) (small_one h1 h2 h3 h4) ?_
 have I1:Inv X pins σ H { s with heap:=s.heap.push { cls:=.type "range",data:=.fields #[.int lo t,.int hi u,.int 1 v] },toks:=tk }:=I.kept fun b o e=>ah _ e
 refine ⟨(s.heap.push { cls:=.type "range",data:=.fields #[.int lo t,.int hi u,.int 1 v] }).objs.size,[(s.heap.push { cls:=.type "range",data:=.fields #[.int lo t,.int hi u,.int 1 v] }).objs.size],_,_,H,rfl,
  I1.kept (t':=tk) fun b o e=>ah _ e,zbM _ lo (hi - lo).toNat,?_,fun b hb=>?_,q⟩
 ·have e1:lo + ((0:Nat):Int) * 1=lo:=by simp
  have e2:(((hi - lo).toNat:Nat):Int) - ((0:Nat):Int)=Builtin.Range.rangeSize lo hi 1:=by rw [rangeSize_one];split <;> omega
  show IsRangeIter _ _ (lo + ((0:Nat):Int) * 1) ((((hi - lo).toNat:Nat):Int) - ((0:Nat):Int)) 1
  rw [e1,e2]
  exact aC _ rfl
 ·have e:b=(s.heap.push { cls:=.type "range",data:=.fields #[.int lo t,.int hi u,.int 1 v] }).objs.size:=by simpa using hb
  subst e
  exact I1.fpOk (aB _) (I1.hok.fresh (aB _))
def zlI (ta:TA):TI:=fun σ H R=>ta σ H fun vs H1=>∃ j:Int,vs=[.int j]/\-(2 ^ 62) <= j/\j < 2 ^ 62/\R (Itr 0 j.toNat) H1
theorem zcg {a:aK} {ta:TA} {p pos:Pos} (hg:Gl X "range") (hm:X.mg "range" = none) (ha:PA X [a] ta) (hs:aD [a] X.env=[(false,eval a X.env)]:=by rfl):PI X tg (.Call (.Name "range" p) [a] [] pos) (zlI ta):=by
 intro pins s σ H R I h
 refine jL (z7A I hg hm boot_range (dS (thn (ha pos pins s σ H _ I h) fun us s1 ⟨vs,H1,I1,r1,q1⟩=>?_) hs rfl))
 obtain ⟨j,e,q1,q2,q⟩:=q1
 subst e
 cases r1 with
 | cons r rr=>
  cases rr
  obtain ⟨t,rfl⟩:=r
  exact call_range_1 (zex I1 (by omega) (by omega) q1 q2 (by simpa using q) (by first|exact cB _|exact I1.tk))
def zmK (wi:TI) (g:TG) (tb:TS):TS:=fun D σ H=>wi σ H fun J H1=>∃ W:Nat->Nat->St->Hp->Prop,(∃ m,W 0 m σ H1)/\∀ i m σ H,W i m σ H->
 (J.stop i H/\D.nx σ H) \/ (J.go i H/\∃ N:St->Hp->Prop,(∀ σ' H',N σ' H'->∃ m',m' < m/\W (i + 1) m' σ' H')/\∀ x H',J.yld i H x H'->g x σ H' fun σ2 H2=>tb { D with nx:=N,ct:=N,bk:=D.nx } σ2 H2)
def z8N (fp:List af) (h:aP):List (af × Obj):=fp.filterMap fun b=>(h.get? b).map fun o=>(b,o)
theorem z4d (hb:b ∈ fp) (e:h.get? b=some o):(b,o) ∈ z8N fp h:=im.mpr ⟨b,hb,by rw [e];rfl⟩
theorem zdg (hp:p ∈ z8N fp h):p.1 ∈ fp/\h.get? p.1=some p.2:=by
 obtain ⟨b,hb,e⟩:=im.mp hp
 cases q:h.get? b with
 | none=>rw [q] at e;cases e
 | some o=>
  rw [q] at e
  have e':(b,o)=p:=bN e
  subst e'
  exact ⟨hb,q⟩
theorem Inv.pinned (I:Inv X pins σ H s) (hf:∀ b ∈ fp,z8u X pins H b) (ho:∀ b ∈ fp,∃ o,s.heap.get? b=some o/\∀ v,o.data ≠ .cell v):Inv X (pins ++ z8N fp s.heap) σ H s:=
 I.pins_of fun p hp=>(bg.mp hp).elim (fun z=>I.pin p (bw _ z)) fun z=>by
  obtain ⟨hb,e⟩:=zdg z
  obtain ⟨f0,f1,f2,_⟩:=hf p.1 hb
  obtain ⟨o,e',d⟩:=ho p.1 hb
  rw [e] at e';cases e'
  exact ⟨e,f0,f1,f2,d⟩
theorem Inv.unpinned (I:Inv X (pins ++ pl) σ H s):Inv X pins σ H s:=I.pins_of fun p hp=>I.pin p (bw _ (cK _ hp))
theorem zjY (hp:ji (ay X.prog X.w) X.A X.env X.xe) (hc:X.calm=true) (hi:PI X tg iter wi) (hg:PG X tg g) (hb:PSs X body tb)
  (hs:∀ x,cb iter X.env x=pure x:=by intro _;rfl):PS X (.For tg iter body [] pos) (zmK wi g tb):=by
 intro pins s σ H D I h
 refine wpAny_For (thn (hi pins s σ H _ I h) fun v s1 h1=>thn h1 fun itv s2 h2=>?_) hs
 obtain ⟨it,fp,tn,J,H2,e,I2,T,st2,f2,W,⟨m0,w0⟩,turn⟩:=h2
 subst e
 -- what stays true of the iterator's objects through the loop
 have stat:∀ {H':Hp},(∀ b ∈ fp,H' b=none)->∀ b ∈ fp,z8u X pins H' b:=fun hn b hb=>⟨hn b hb,(f2 b hb).2⟩
 refine codeAny_forLoop_any (fun n s'=>∃ i σ' H',Inv X pins σ' H' s'/\tn i s'.heap/\(∀ b ∈ fp,H' b=none)/\W i n σ' H') ?_ m0 ⟨0,σ,H2,I2,st2,fun b hb=>(f2 b hb).1,w0⟩
 rintro n s3 ⟨i,σ3,H3,I3,st3,fr3,w3⟩
 rcases turn i n σ3 H3 w3 with ⟨stop,qn⟩|⟨go,N,hN,step⟩
 ·refine dZ hp (thn (T.done X rfl rfl rfl hc i pins s3 σ3 H3 X.xe I3 (stat fr3) st3 stop) fun r s4 ⟨hr,I4⟩=>?_)
  subst hr
  exact eS ⟨σ3,H3,I4,qn⟩
 ·refine dZ hp (thn (T.item X rfl rfl rfl hc i pins s3 σ3 H3 X.xe I3 (stat fr3) st3 go) fun r s4 ⟨u,hr,h4⟩=>?_)
  subst hr
  refine dZ hp (thn h4 fun _ s5 ⟨x,H5,I5,r5,y5,st5,fr5⟩=>?_)
  have I5':=I5.pinned (stat fr5) (T.obj _ _ st5)
  refine dZ hp (thn (hg _ s5 σ3 H5 x u _ I5' r5 (step x H5 y5)) fun _ s6 ⟨σ6,H6,I6,q6⟩=>?_)
  refine dZ hp (thn (hb _ s6 σ6 H6 _ I6 q6) fun f s7 q7=>?_)
  have again:∀ {σ7:St} {H7:Hp},Inv X (pins ++ z8N fp s5.heap) σ7 H7 s7->N σ7 H7->∃ m,m < n/\∃ i σ' H',Inv X pins σ' H' s7/\tn i s7.heap/\(∀ b ∈ fp,H' b=none)/\W i m σ' H':=fun {σ7 H7} I7 n7=>by
   obtain ⟨m',hm,w7⟩:=hN σ7 H7 n7
   refine ⟨m',hm,i + 1,σ7,H7,I7.unpinned,T.keep _ _ _ st5 fun b hb o e=>(I7.pin (b,o) (bw _ (bw _ (z4d hb e)))).1,fun b hb=>?_,w7⟩
   obtain ⟨o,e,d⟩:=T.obj _ _ st5 b hb
   exact (I7.pin (b,o) (bw _ (bw _ (z4d hb e)))).2.1
  cases f with
  | next=>obtain ⟨σ7,H7,I7,n7⟩:=q7;exact again I7 n7
  | cont=>obtain ⟨σ7,H7,I7,n7⟩:=q7;exact again I7 n7
  | brk=>obtain ⟨σ7,H7,I7,q7⟩:=q7;exact ⟨σ7,H7,I7.unpinned,q7⟩
  | ret v=>obtain ⟨x7,σ7,H7,I7,r7,q7⟩:=q7;exact ⟨x7,σ7,H7,I7.unpinned,r7,q7⟩
end
abbrev R2:=V->V->Hp->VK->Prop
def OpR (X:Cx) (f:ae->ae->Sem ae) (r:R2):Prop:=
 ∀ (pins:List (af × Obj)) (s:ai) (σ:St) (H:Hp) (x y:V) (v u:ae) (Q:VK),Inv X pins σ H s->RelV x v->RelV y u->r x y H Q->
  ar (ay X.prog X.w) X.A (f v u) (EP X pins σ Q) X.xe s
def UnR (X:Cx) (f:ae->Sem ae) (r:V->Hp->VK->Prop):Prop:=
 ∀ (pins:List (af × Obj)) (s:ai) (σ:St) (H:Hp) (x:V) (v:ae) (Q:VK),Inv X pins σ H s->RelV x v->r x H Q->
  ar (ay X.prog X.w) X.A (f v) (EP X pins σ Q) X.xe s
def mj (X:Cx) (f:ae) (r:List V->Hp->VK->Prop):Prop:=
 ∀ (pins:List (af × Obj)) (s:ai) (σ:St) (H:Hp) (xs:List V) (us:List ae) (Q:VK),Inv X pins σ H s->ma xs us->r xs H Q->
  ar (ay X.prog X.w) X.A (call f us) (EP X pins σ Q) X.xe s
def zmZ (X:Cx) (r:V->Hp->(Bool->Hp->Prop)->Prop):Prop:=
 ∀ (pins:List (af × Obj)) (s:ai) (σ:St) (H:Hp) (x:V) (v:ae) (Q:Bool->Hp->Prop),Inv X pins σ H s->RelV x v->r x H Q->
  ar (ay X.prog X.w) X.A (truthy v) (TP X pins σ Q) X.xe s
def tOp (r:R2) (ta tb:TE):TE:=fun σ H Q=>ta σ H fun x H1=>tb σ H1 fun y H2=>r x y H2 Q
def tUn (r:V->Hp->VK->Prop) (ta:TE):TE:=fun σ H Q=>ta σ H fun x H1=>r x H1 Q
def rI (C:Int->Int->Prop) (g:Int->Int->V):R2:=fun x y H Q=>∃ i j,x=.int i/\y=.int j/\C i j/\Q (g i j) H
def rI0 (g:Int->Int->V):R2:=fun x y H Q=>∃ i j,x=.int i/\y=.int j/\Q (g i j) H
def rU (g:Int->V):V->Hp->VK->Prop:=fun x H Q=>∃ i,x=.int i/\Q (g i) H
section
variable {X:Cx} {a b:aK} {ta tb:TE} {pos:Pos}
theorem zmb (ha:PE X a ta) (hb:PE X b tb) {pins:List (af × Obj)} {s:ai} {σ:St} {H:Hp} {R:V->V->Hp->Prop} (I:Inv X pins σ H s)
  (h:ta σ H fun x H1=>tb σ H1 fun y H2=>R x y H2) {Q:ae->ai->Prop} {f:ae->ae->Sem ae}
  (hf:∀ v u s2 x y H2,Inv X pins σ H2 s2->RelV x v->RelV y u->R x y H2->ar (ay X.prog X.w) X.A (f v u) Q X.xe s2):
  ar (ay X.prog X.w) X.A (eval a X.env) (fun v s₁=>ar (ay X.prog X.w) X.A (eval b X.env) (fun u s₂=>ar (ay X.prog X.w) X.A (f v u) Q X.xe s₂) X.xe s₁) X.xe s:=by
 refine thn (ha pins s σ H _ I h) fun v s1 ⟨x,H1,I1,r1,q1⟩=>?_
 refine thn (hb pins s1 σ H1 _ I1 q1) fun u s2 ⟨y,H2,I2,r2,q2⟩=>?_
 exact hf v u s2 x y H2 I2 r1 r2 q2
theorem zlV {op:Operator} {r:R2} (ho:OpR X (cU op) r) (ha:PE X a ta) (hb:PE X b tb):PE X (.BinOp a op b pos) (tOp r ta tb):=by
 intro pins s σ H Q I h
 exact wpAny_BinOp (zmb ha hb I h fun v u s2 x y H2 I2 rx ry q=>ho pins s2 σ H2 x y v u Q I2 rx ry q)
theorem zlW (ho:UnR X (unaryOp op) r) (ha:PE X a ta):PE X (.UnaryOp op a pos) (tUn r ta):=by
 intro pins s σ H Q I h
 exact UnaryOp_ (thn (ha pins s σ H _ I h) fun v s1 ⟨x,H1,I1,r1,q1⟩=>ho pins s1 σ H1 x v Q I1 r1 q1)
theorem opI {f:ae->ae->Sem ae} {C:Int->Int->Prop} {g:Int->Int->Int}
  (rule:∀ (i j:Int) (t u:Tok) (s:ai) (Q:ae->ai->Prop) (E:ae->ai->Prop),C i j->Q (.int (g i j) s.toks) { s with toks:=s.toks + 1 }->ar (ay X.prog X.w) X.A (f (.int i t) (.int j u)) Q E s):
  OpR X f (rI C fun i j=>.int (g i j)):=by
 intro pins s σ H x y v u Q I rx ry h
 obtain ⟨i,j,rfl,rfl,hc,q⟩:=h
 obtain ⟨t,rfl⟩:=rx
 obtain ⟨t',rfl⟩:=ry
 exact rule i j t t' s _ _ hc ⟨.int (g i j),H,I.tok _,⟨_,rfl⟩,q⟩
theorem zlv {f:ae->ae->Sem ae} {g:Int->Int->Int}
  (rule:∀ (i j:Int) (t u:Tok) (s:ai) (Q:ae->ai->Prop) (E:ae->ai->Prop),Q (.int (g i j) s.toks) { s with toks:=s.toks + 1 }->ar (ay X.prog X.w) X.A (f (.int i t) (.int j u)) Q E s):
  OpR X f (rI0 fun i j=>.int (g i j)):=by
 intro pins s σ H x y v u Q I rx ry h
 obtain ⟨i,j,rfl,rfl,q⟩:=h
 obtain ⟨t,rfl⟩:=rx
 obtain ⟨t',rfl⟩:=ry
 exact rule i j t t' s _ _ ⟨.int (g i j),H,I.tok _,⟨_,rfl⟩,q⟩
theorem zlQ {f:ae->ae->Sem ae} {g:Int->Int->Bool}
  (rule:∀ (i j:Int) (t u:Tok) (s:ai) (Q:ae->ai->Prop) (E:ae->ai->Prop),Q (.bool (g i j)) s->ar (ay X.prog X.w) X.A (f (.int i t) (.int j u)) Q E s):
  OpR X f (rI0 fun i j=>.bl (g i j)):=by
 intro pins s σ H x y v u Q I rx ry h
 obtain ⟨i,j,rfl,rfl,q⟩:=h
 obtain ⟨t,rfl⟩:=rx
 obtain ⟨t',rfl⟩:=ry
 exact rule i j t t' s _ _ ⟨.bl (g i j),H,I,rfl,q⟩
def zmA (i j:Int):Prop:=0 < j/\j < 1073741824
def zl9 (i j:Int):Prop:=0 <= j/\j <= 1000000/\i.natAbs < 2 ^ 64
def mJ (i j:Int):Prop:=(-(2 ^ 64) < i/\i < 2 ^ 64) \/ (-(2 ^ 64) < j/\j < 2 ^ 64)
theorem mJ.ok (h:mJ i j):IntMulOk i j:=by
 rcases h with ⟨h1,h2⟩|⟨h1,h2⟩
 ·exact .of_left (intBits_le_64 h1 h2)
 ·exact .of_right (intBits_le_64 h1 h2)
theorem zbB (k:Nat):(0:Int) <= 2 ^ k:=by
 rw [two_pow_cast]
 exact Int.natCast_nonneg _
theorem zl3:OpR X (cU .Add) (rI0 fun i j=>.int (i + j)):=zlv fun _ _ _ _ _ _ _ q=>add_int q
theorem zkX:OpR X (cU .Sub) (rI0 fun i j=>.int (i - j)):=zlv fun _ _ _ _ _ _ _ q=>sub_int q
theorem ziZ:OpR X (cU .Mult) (rI mJ fun i j=>.int (i * j)):=opI fun _ _ _ _ _ _ _ hc q=>mul_int q hc.ok
theorem zgU:OpR X (cU .FloorDiv) (rI zmA fun i j=>.int (i / j)):=opI fun i j _ _ _ _ _ hc q=>by
 have h1:(0:Int) < j:=hc.1
 have h2:j < 1073741824:=hc.2
 exact floordiv_int (by omega) (by rw [iz i (by omega)];exact q) (.inl (PyProof.noPylong_small (by omega)))
theorem zkE:OpR X (cU .Mod) (rI (fun _ j=>0 < j) fun i j=>.int (i % j)):=opI fun i j _ _ _ _ _ hc q=>by
 have h1:(0:Int) < j:=hc
 exact mod_int' (by omega) (by rw [Int.fmod_eq_emod_of_nonneg i (by omega)];exact q)
theorem zkb:OpR X (cU .Pow) (rI zl9 fun i j=>.int (i ^ j.toNat)):=opI fun _ _ _ _ _ _ _ hc q=>pow_int_small hc.1 hc.2.1 hc.2.2 q
theorem zko:OpR X (cU .LShift) (rI zl9 fun i j=>.int (i * 2 ^ j.toNat)):=opI fun _ _ _ _ _ _ _ hc q=>lshift_int_small hc.1 hc.2.1 hc.2.2 q
theorem zk8:OpR X (cU .RShift) (rI (fun _ j=>0 <= j) fun i j=>.int (i / 2 ^ j.toNat)):=opI fun i j _ _ _ _ _ hc q=>
 rshift_int hc (by rw [iz i (zbB _)];exact q)
theorem zku:OpR X (cU .BitAnd) (rI0 fun i j=>.int (jz i j)):=zlv fun _ _ _ _ _ _ _ q=>and_int q
theorem unI {f:ae->Sem ae} {g:Int->Int}
  (rule:∀ (i:Int) (t:Tok) (s:ai) (Q:ae->ai->Prop) (E:ae->ai->Prop),Q (.int (g i) s.toks) { s with toks:=s.toks + 1 }->ar (ay X.prog X.w) X.A (f (.int i t)) Q E s):
  UnR X f (rU fun i=>.int (g i)):=by
 intro pins s σ H x v Q I rx h
 obtain ⟨i,rfl,q⟩:=h
 obtain ⟨t,rfl⟩:=rx
 exact rule i t s _ _ ⟨.int (g i),H,I.tok _,⟨_,rfl⟩,q⟩
theorem zkT:UnR X (unaryOp .USub) (rU fun i=>.int (-i)):=unI fun _ _ _ _ _ q=>neg_int q
end
section
variable {X:Cx} {a b c:aK} {ta tb tc:TE} {pos:Pos}
theorem zb5 (I:Inv X pins σ H s) (q:Q (.bl k) H) (e:k=k'):EP X pins σ Q (.bool k') s:=by
 subst e
 exact ⟨.bl k,H,I,rfl,q⟩
theorem zh4:OpR X (b0 .Lt) (rI0 fun i j=>.bl (decide (i < j))):=zlQ fun _ _ _ _ _ _ _ q=>lt_int q
theorem zgF:OpR X (b0 .LtE) (rI0 fun i j=>.bl (decide (i <= j))):=zlQ fun _ _ _ _ _ _ _ q=>le_int q
theorem zj5:OpR X (b0 .GtE) (rI0 fun i j=>.bl (decide (j <= i))):=zlQ fun _ _ _ _ _ _ _ q=>ge_int q
theorem zdI:OpR X (b0 .Lt) (fun x y H Q=>∃ i j,x=.str i/\y=.str j/\Q (.bl (decide (i.cps.toList < j.cps.toList))) H):=by
 intro pins s σ H x y v u Q I rx ry h
 obtain ⟨i,j,rfl,rfl,q⟩:=h
 obtain ⟨t,rfl⟩:=rx
 obtain ⟨t',rfl⟩:=ry
 exact lt_str (zb5 I q rfl)
theorem zdZ:OpR X (b0 .In) (fun x y H Q=>∃ i j,x=.str i/\y=.str j/\Q (.bl (!(bR j i 0 j.length 1).isEmpty)) H):=by
 intro pins s σ H x y v u Q I rx ry h
 obtain ⟨i,j,rfl,rfl,q⟩:=h
 obtain ⟨t,rfl⟩:=rx
 obtain ⟨t',rfl⟩:=ry
 exact in_str (zb5 I q rfl)
theorem zkl:OpR X (b0 .Is) (fun x y H Q=>y=.non/\Q (.bl (decide (x=.non))) H):=by
 intro pins s σ H x y v u Q I rx ry h
 obtain ⟨rfl,q⟩:=h
 cases ry
 refine is_none_gen (zb5 I q ?_)
 cases x <;> first
  | (cases rx;rfl)
  | (obtain ⟨t,rfl⟩:=rx;rfl)
theorem z8V:OpR X (b0 .NotIn) (fun x y H Q=>∃ i j,x=.str i/\y=.str j/\Q (.bl (!(!(bR j i 0 j.length 1).isEmpty))) H):=by
 intro pins s σ H x y v u Q I rx ry h
 obtain ⟨i,j,rfl,rfl,q⟩:=h
 obtain ⟨t,rfl⟩:=rx
 obtain ⟨t',rfl⟩:=ry
 exact notIn_str (zb5 I q rfl)
theorem OpR.or (h:OpR X f r) (h':OpR X f r'):OpR X f (fun x y H Q=>r x y H Q \/ r' x y H Q):=by
 intro pins s σ H x y v u Q I rx ry q
 rcases q with q|q
 ·exact h pins s σ H x y v u Q I rx ry q
 ·exact h' pins s σ H x y v u Q I rx ry q
theorem z3o (b:aK) (h:op ≠ .In:=by decide) (h2:op ≠ .NotIn:=by decide):behindInMarks op b=false:=by
 have e1:(op == CmpOp.In)=false:=by cases op <;> first|rfl|exact absurd rfl h
 have e2:(op == CmpOp.NotIn)=false:=by cases op <;> first|rfl|exact absurd rfl h2
 cases b <;> simp [behindInMarks,e1,e2]
theorem zch {op:CmpOp} {r:R2} (ho:OpR X (b0 op) r) (ha:PE X a ta) (hb:PE X b tb) (hm:behindInMarks op b=false):PE X (.Compare a [op] [b] pos) (tOp r ta tb):=by
 intro pins s σ H Q I h
 exact wpAny_Compare1 (zmb ha hb I h fun v u s2 x y H2 I2 rx ry q=>ho pins s2 σ H2 x y v u Q I2 rx ry q) hm
def zio (t:TE):TT:=fun σ H Q=>t σ H fun x H'=>∃ k,x=.bl k/\Q k H'
theorem zcs (ho:OpR X (b0 op) r) (ha:PE X a ta) (hb:PE X b tb) (hm:behindInMarks op b=false):PT X (.Compare a [op] [b] pos) (zio (tOp r ta tb)):=by
 intro pins s σ H Q I h
 refine jy (thn (ha pins s σ H _ I h) fun v s1 ⟨x,H1,I1,r1,q1⟩=>thn (hb pins s1 σ H1 _ I1 q1) fun u s2 ⟨y,H2,I2,r2,q2⟩=>
  thn (ho pins s2 σ H2 x y v u _ I2 r1 r2 q2) fun c s3 ⟨z,H3,I3,r3,k,e,q3⟩=>?_) hm
 subst e
 cases r3
 exact cQ ⟨H3,I3,q3⟩
def zkc (r r':R2) (ta tb tc:TE):TE:=fun σ H Q=>ta σ H fun x H1=>tb σ H1 fun y H2=>r x y H2 fun z H3=>∃ k,z=.bl k/\
 (if k=true then tc σ H3 fun w' H4=>r' y w' H4 Q else Q (.bl false) H3)
theorem zf1 (ho:OpR X (b0 op) r) (ho':OpR X (b0 op') r') (ha:PE X a ta) (hb:PE X b tb) (hc:PE X c tc)
  (hm:lastMarks [op,op'] [b,c]=false:=by with_unfolding_all rfl):PE X (.Compare a [op,op'] [b,c] pos) (zkc r r' ta tb tc):=by
 intro pins s σ H Q I h
 refine Compare_chain (thn (ha pins s σ H _ I h) fun v s1 ⟨x,H1,I1,r1,q1⟩=>chain_link (thn (hb pins s1 σ H1 _ I1 q1) fun u s2 ⟨y,H2,I2,r2,q2⟩=>
  thn (ho pins s2 σ H2 x y v u _ I2 r1 r2 q2) fun d s3 ⟨z,H3,I3,r3,k,e,q3⟩=>?_)) hm
 subst e
 cases r3
 refine cQ ?_
 cases k with
 | false=>exact ite_ff ⟨.bl false,H3,I3,rfl,q3⟩
 | true=>exact ite_tt (chain_last (thn (hc pins s3 σ H3 _ I3 q3) fun w' s4 ⟨z',H4,I4,r4,q4⟩=>ho' pins s4 σ H4 y z' u w' Q I4 r2 r4 q4))
def zmu (K:aj) (x:V) (H:Hp) (k:Bool):Prop:=
 match x with
 | .non=>k=false
 | .bl b=>k=b
 | .int i=>k=(i != 0)
 | .str y=>y.length <= sizeLine/\k=((y.length:Int) != 0)
 | .byt y=>y.size <= sizeLine/\k=((y.size:Int) != 0)
 | .ref p=>(∃ xs,SqL K H p xs/\k = !xs.isEmpty) \/ (∃ xs,SqT K H p xs/\k = !xs.isEmpty) \/ ∃ kvs,H p=some (.dK kvs)/\k = !kvs.isEmpty
 | _=>False
theorem zbS {κ:Type} {kvs:List (κ × V)} {vs:List (κ × ae)} (r:KV kvs vs):(!vs.isEmpty) = !kvs.isEmpty:=by
 cases r <;> rfl
theorem z7v {xs:List V} {its:List ae} (r:ma xs its):(!its.toArray.isEmpty) = !xs.isEmpty:=by
 cases r <;> simp
theorem z7u:(sizeLine:Nat) < 2 ^ 63:=by rw [eF];decide
theorem zkq:zmZ X (fun x H Q=>∃ k,zmu X.K x H k/\Q k H):=by
 intro pins s σ H x v Q I rx h
 obtain ⟨k,e,q⟩:=h
 have hl:=z7u
 have hs:sizeLine=16777216:=eF
 cases x with
 | non=>
  cases rx
  have e':k=false:=e
  subst e'
  exact truthy_none ⟨H,I,q⟩
 | bl b=>
  cases rx
  have e':k=b:=e
  subst e'
  exact cQ ⟨H,I,q⟩
 | int i=>
  obtain ⟨t,rfl⟩:=rx
  have e':k=(i != 0):=e
  subst e'
  exact PySem.P.truthy_int ⟨H,I,q⟩
 | str y=>
  obtain ⟨t,rfl⟩:=rx
  obtain ⟨hy,e'⟩:y.length <= sizeLine/\k=((y.length:Int) != 0):=e
  subst e'
  exact PySem.P.truthy_str (by omega) ⟨H,I.tok _,q⟩
 | byt y=>
  obtain ⟨t,rfl⟩:=rx
  obtain ⟨hy,e'⟩:y.size <= sizeLine/\k=((y.size:Int) != 0):=e
  subst e'
  exact PySem.W.truthy_bytes (by omega) ⟨H,I.tok _,q⟩
 | ref p=>
  cases rx
  have e':(∃ xs,SqL X.K H p xs/\k = !xs.isEmpty) \/ (∃ xs,SqT X.K H p xs/\k = !xs.isEmpty) \/ ∃ kvs,H p=some (.dK kvs)/\k = !kvs.isEmpty:=e
  rcases e' with ⟨xs,hx,e'⟩|⟨xs,hx,e'⟩|⟨kvs,hx,e'⟩
  ·subst e'
   obtain ⟨its,r,pl,hz⟩:=I.list hx
   have hlen:=r.length
   exact wpAny_truthy_list pl.isList (by simp only [aA];omega) ⟨H,I.tok _,by rw [z7v r];exact q⟩
  ·subst e'
   obtain ⟨its,r,pl,hz⟩:=I.tuple hx
   have hlen:=r.length
   exact truthy_tuple pl (by simp only [aA];omega) ⟨H,I.tok _,by rw [z7v r];exact q⟩
  ·subst e'
   obtain ⟨hz,hS,vs,r,m⟩:kvs.length <= sizeLine/\(p == sysModules)=false/\∃ vs,KV kvs vs/\s.heap.DictOf (z2d X.prog X.w) p vs:=I.hok p _ hx
   have hlen:kvs.length=vs.length:=jY r
   exact wpAny_truthy_dict hS m (by omega) ⟨H,I.tok _,by rw [zbS r];exact q⟩
 | _=>exact (show False from e).elim
theorem zes (ha:PE X a ta) (he:∀ whole,isTrue a X.env whole=(do let v <- whole;standAt a.pos;holding [v] (truthy v))):
  PT X a (fun σ H Q=>ta σ H fun x H'=>∃ k,zmu X.K x H' k/\Q k H'):=by
 intro pins s σ H Q I h
 exact isTrue_plain (thn (ha pins s σ H _ I h) fun v s1 ⟨x,H1,I1,r1,q1⟩=>zkq pins s1 σ H1 x v Q I1 r1 q1) (he _)
theorem zbK:OpR X (cU .Add) (fun x y H Q=>∃ i j,x=.str i/\y=.str j/\i.length + j.length <= sizeLine/\Q (.str (i ++ j)) H):=by
 intro pins s σ H x y v u Q I rx ry h
 obtain ⟨i,j,rfl,rfl,hz,q⟩:=h
 obtain ⟨t,rfl⟩:=rx
 obtain ⟨t',rfl⟩:=ry
 exact d0 I.tk (add_str (fun t' tk htk=>⟨.str (i ++ j),H,I.tok _ htk,⟨_,rfl⟩,q⟩) hz)
theorem z4R (r:ma [x] us):∃ u,us=[u]/\RelV x u:=by
 cases r with
 | cons r1 r2=>cases r2;exact ⟨_,rfl,r1⟩
theorem za5 (r:ma [x,y] us):∃ u w',us=[u,w']/\RelV x u/\RelV y w':=by
 cases r with
 | cons r1 r2=>
  cases r2 with
  | cons r3 r4=>cases r4;exact ⟨_,_,rfl,r1,r3⟩
theorem zcq (hc:X.calm=true):mj X (.builtin "max") (fun xs H Q=>∃ i j,xs=[.int i,.int j]/\Q (.int (if j > i then j else i)) H):=by
 intro pins s σ H xs us Q I r h
 obtain ⟨i,j,rfl,q⟩:=h
 obtain ⟨u,w',rfl,⟨t,rfl⟩,⟨t',rfl⟩⟩:=za5 r
 refine d0 I.tk (max_two_ints (I.ok.hd hc) fun h' tk k htk=>⟨_,H,I.kept k htk,?_,q⟩)
 by_cases hj:j > i
 ·rw [if_pos hj,if_pos hj];exact ⟨_,rfl⟩
 ·rw [if_neg hj,if_neg hj];exact ⟨_,rfl⟩
theorem zcS (hc:X.calm=true):mj X (.builtin "min") (fun xs H Q=>∃ i j,xs=[.int i,.int j]/\Q (.int (if j < i then j else i)) H):=by
 intro pins s σ H xs us Q I r h
 obtain ⟨i,j,rfl,q⟩:=h
 obtain ⟨u,w',rfl,⟨t,rfl⟩,⟨t',rfl⟩⟩:=za5 r
 refine d0 I.tk (min_two_ints (I.ok.hd hc) fun h' tk k htk=>⟨_,H,I.kept k htk,?_,q⟩)
 by_cases hj:j < i
 ·rw [if_pos hj,if_pos hj];exact ⟨_,rfl⟩
 ·rw [if_neg hj,if_neg hj];exact ⟨_,rfl⟩
theorem zdk:mj X (.type "int") (fun xs H Q=>(∃ i,xs=[.int i]/\Q (.int i) H) \/ ∃ k,xs=[.bl k]/\Q (.int (if k then 1 else 0)) H):=by
 intro pins s σ H xs us Q I r h
 rcases h with ⟨i,rfl,q⟩|⟨k,rfl,q⟩
 ·obtain ⟨u,rfl,t,rfl⟩:=z4R r
  exact call_int_int ⟨.int i,H,I,⟨_,rfl⟩,q⟩
 ·obtain ⟨u,rfl,r1⟩:=z4R r
  cases r1
  exact call_int_bool ⟨.int (if k then 1 else 0),H,I.tok _,⟨_,rfl⟩,q⟩
theorem z92:mj X (.type "str") (fun xs H Q=>∃ i,xs=[.int i]/\i.natAbs.log2 < 1920/\Q (.str (toString i)) H):=by
 intro pins s σ H xs us Q I r h
 obtain ⟨i,rfl,hz,q⟩:=h
 obtain ⟨u,rfl,t,rfl⟩:=z4R r
 exact PySem.P.str_of_int hz ⟨.str _,H,I.tok _,⟨_,rfl⟩,q⟩
def zmo (K:aj) (x:V) (H:Hp) (n:Nat):Prop:=
 match x with
 | .str y=>y.length <= sizeLine/\n=y.length
 | .byt y=>y.size <= sizeLine/\n=y.size
 | .ref p=>(∃ xs,SqL K H p xs/\n=xs.length) \/ ∃ xs,SqT K H p xs/\n=xs.length
 | _=>False
theorem zer:mj X (.builtin "len") (fun xs H Q=>∃ x n,xs=[x]/\zmo X.K x H n/\Q (.int n) H):=by
 intro pins s σ H xs us Q I r h
 obtain ⟨x,n,rfl,e,q⟩:=h
 obtain ⟨u,rfl,rx⟩:=z4R r
 have hl:=z7u
 have hs:sizeLine=16777216:=eF
 cases x with
 | str y=>
  obtain ⟨t,rfl⟩:=rx
  obtain ⟨hy,e'⟩:y.length <= sizeLine/\n=y.length:=e
  subst e'
  exact len_str (by omega) ⟨.int _,H,I.tok _,⟨_,rfl⟩,q⟩
 | byt y=>
  obtain ⟨t,rfl⟩:=rx
  obtain ⟨hy,e'⟩:y.size <= sizeLine/\n=y.size:=e
  subst e'
  exact PySem.W.len_bytes (by omega) ⟨.int _,H,I.tok _,⟨_,rfl⟩,q⟩
 | ref p=>
  cases rx
  have e':(∃ xs,SqL X.K H p xs/\n=xs.length) \/ ∃ xs,SqT X.K H p xs/\n=xs.length:=e
  rcases e' with ⟨xs,hx,e'⟩|⟨xs,hx,e'⟩
  ·subst e'
   obtain ⟨its,r',pl,hz⟩:=I.list hx
   have hlen:=r'.length
   exact Calls.call_len_list pl.isList (by simp only [aA];omega) ⟨.int xs.length,H,I.tok _,⟨_,by simp only [aA];rw [hlen]⟩,q⟩
  ·subst e'
   obtain ⟨its,r',pl,hz⟩:=I.tuple hx
   have hlen:=r'.length
   exact len_tuple pl (by simp only [aA];omega) ⟨.int xs.length,H,I.tok _,⟨_,by simp only [aA];rw [hlen]⟩,q⟩
 | _=>exact (show False from e).elim
end
structure zn6 (h:aP) (x dx C:af) (mA:Str->Option ae):Prop where
 obj:h.get? x=some (lz C dx)
 ns:h.Ns1 dx mA
 ne:dx ≠ x
section
end
theorem mz.some_of (r:mz (some v) o):∃ u,o=some u/\RelV v u:=by
 cases o with
 | none=>exact (show False from r).elim
 | some u=>exact ⟨u,rfl,r⟩
structure Cls (K:aj) (C:af):Prop where
 pg:lh K C Str.empty=true
 hd:PySem.W.hasDictIn K C=true
 po:PySem.W.plainOver K C=true
 sa:cO K (.ref C) "__setattr__" = some (some (.builtin "object.__setattr__"))
theorem Cls.get {K:aj} {C:af} (c:Cls K C) (f:Str):lh K C f=true:=c.pg
structure Con (K:aj) (C:af) (f:Str) (v:V) (u:ae):Prop where
 at_:cO K (.ref C) f=some (some u)
 rel:RelV v u
 get:fZ K u "__get__" = some none
 cp:PySem.W.copiedNames.contains f=false
structure zn5 (K:aj) (C:af) (m:Str) (f:af):Prop where
 at_:cO K (.ref C) m=some (some (.ref f))
 fn:lR K (.ref f)=true
 kp:cC K (.ref f)=true
section
end
section
variable {H:Hp}
inductive zcp (K:aj) (H:Hp):V->ae->Prop where
 | non:zcp K H .non (.type "NoneType")
 | bl (x:Bool):zcp K H (.bl x) (.type "bool")
 | int (i:Int):zcp K H (.int i) (.type "int")
 | str (x:Str):zcp K H (.str x) (.type "str")
 | flt (x:UInt64):zcp K H (.flt x) (.type "float")
 | lst {a:af} {xs:List V} (e:H a=some (.lst xs)):zcp K H (.ref a) (.type "list")
 | frz {a:af} {o:Obj} {xs:List V} (e:H a=some (.frz o (.lst xs))):zcp K H (.ref a) (.type "list")
 | tup {a:af} {xs:List V} (e:H a=some (.tup xs)):zcp K H (.ref a) (.type "tuple")
 | dK {a:af} {kvs:List (Key × V)} (e:H a=some (.dK kvs)):zcp K H (.ref a) (.type "dict")
 | dT {a:af} {kvs:List (List Key × V)} (e:H a=some (.dT kvs)):zcp K H (.ref a) (.type "dict")
 | ins {a C dx:af} {fs:List (Str × V)} (e:H a=some (.ins C dx fs)) (cl:Cls K C) (ha:cO K (.ref C) "__class__" = some (some (.builtin "object.__class__")))
   (hn:fZ K (.builtin "object.__class__") "__get__" = some (some (.builtin "getset_descriptor.__get__"))) (htk:jj K (.builtin "object.__class__")=some true)
   (hm:gj K C (.type "object")=some true):zcp K H (.ref a) (.ref C)
end
structure me (k:Nat) (A:ba):Prop where
 hd:A.handled=none
 dp:A.depth + 3 * k + 5 < recursionLimit
 un:A.units + 16 * k + 200 < cLine
theorem me.mono (r:me k A) (h:j <= k):me j A:=⟨r.hd,by have:=r.dp;omega,by have:=r.un;omega⟩
theorem me.deeper (r:me (k + 1) A) (env:Env):me k (A.deeper env):=
 ⟨r.hd,by have:=r.dp;show A.depth + 1 + 3 * k + 5 < _;omega,by have:=r.un;show A.units + 3 + 16 * k + 200 < _;omega⟩
theorem me.depth (r:me k A):A.depth < recursionLimit:=by have:=r.dp;omega
theorem me.units (r:me k A):A.units + 64 < cLine:=by have:=r.un;omega
def ziF:TA:=fun _ H Q=>Q [] H
def zad (ta:TE) (tr:TA):TA:=fun σ H Q=>ta σ H fun x H1=>tr σ H1 fun xs H2=>Q (x :: xs) H2
section
variable {X:Cx} {e:aK} {es:List aK} {te:TE} {t:TA} {pos:Pos}
theorem z3r:PA X [] ziF:=fun _ _ _ _ H Q I h=>f6 ⟨[],H,I,.nil,h⟩
theorem z1P (ha:PE X e te) (hr:PA X es t) (hs:aD (e :: es) X.env=(false,eval e X.env) :: aD es X.env:=by rfl):PA X (e :: es) (zad te t):=by
 intro pos pins s σ H Q I h
 rw [hs]
 show ar _ _ (spliced ((false,eval e X.env) :: backTo pos (aD es X.env))) _ _ s
 refine eU (thn (ha pins s σ H _ I h) fun u s1 ⟨x,H1,I1,r1,q1⟩=>?_)
 exact thn (hr pos pins s1 σ H1 _ I1 q1) fun us s2 ⟨xs,H2,I2,r2,q2⟩=>⟨x :: xs,H2,I2,.cons r1 r2,q2⟩
def zmI (t:TA):TE:=fun σ H Q=>t σ H fun xs H1=>xs.length <= sizeLine/\∀ p,H1 p=none->Q (.ref p) (upd H1 p (.tup xs))
def zlx (t:TA):TE:=fun σ H Q=>t σ H fun xs H1=>xs.length <= sizeLine/\∀ p,H1 p=none->Q (.ref p) (upd H1 p (.lst xs))
theorem zfR (h:PA X es t):PE X (.Tuple es x1 pos) (zmI t):=by
 intro pins s σ H Q I hq
 refine wpAny_Tuple_spliced (thn (h pos pins s σ H _ I hq) fun us s1 ⟨xs,H1,I1,r,z,q⟩=>⟨by rw [<- r.length];exact z,?_⟩)
 have hf:H1 s1.heap.objs.size=none:=I1.hok.fresh (aB _)
 refine ⟨.ref s1.heap.objs.size,upd H1 s1.heap.objs.size (.tup xs),I1.laid (t':=s1.toks) (fun b u e=>ah _ e) (aB _) ?_,rfl,q _ hf⟩
 exact ⟨z,us,r,mw.new _ _⟩
theorem zb1 (h:PA X es t):PE X (.List es pos) (zlx t):=by
 intro pins s σ H Q I hq
 refine wpAny_List_spliced (thn (h pos pins s σ H _ I hq) fun us s1 ⟨xs,H1,I1,r,z,q⟩=>⟨by rw [<- r.length];exact z,?_⟩)
 have hf:H1 s1.heap.objs.size=none:=I1.hok.fresh (aB _)
 refine ⟨.ref s1.heap.objs.size,upd H1 s1.heap.objs.size (.lst xs),I1.laid (t':=s1.toks) (fun b u e=>ah _ e) (aB _) ?_,rfl,q _ hf⟩
 exact ⟨z,us,0,r,aC _ rfl⟩
end
abbrev Sp:=List V->Hp->VK->XK->Prop
abbrev CXT:=List Env->Hp->ai->XK->ae->ai->Prop
structure zg7 (P:aJ) (w:aR) (K:aj) (mg:Str->Option ae) (base:aP) (A:ba) (outer:List Env) (s:ai) (H:Hp):Prop where
 frames:A.frames=some outer
 mod:Mod K mg base
 bs:∀ b o,base.get? b=some o->s.heap.get? b=some o/\H b=none
 bsz:base.objs.size <= s.heap.objs.size
 funs:s.heap.FunFrames base outer
 frf:∀ b ∈ frs outer,H b=none
 hok:HOk P w H s.heap
 bare:fi s.gens
 tk:0 < s.toks
def CE (outer:List Env) (P:aJ) (w:aR) (H:Hp) (s:ai) (Q:VK) (u:ae) (s':ai):Prop:=
 (∃ v H',s'.os=s.os/\fi s'.gens/\Un (frs outer) [] H H' s.heap s'.heap/\HOk P w H' s'.heap/\RelV v u/\Q v H')/\0 < s'.toks
def CR (CX:CXT) (outer:List Env) (P:aJ) (w:aR) (H:Hp) (s:ai) (Q:VK) (E:XK) (r:Result) (s':ai):Prop:=
 match r with
 | .ok (.ret u)=>CE outer P w H s Q u s'
 | .ok _=>False
 | .error e=>CX outer H s E e s'
structure mq (P:aJ) (w:aR) (K:aj) (mg:Str->Option ae) (base:aP) (CX:CXT) (k:Nat) (f:af) (fd:cX) (ps:List Str) (sp:Sp):Prop where
 len:∀ vs H Q E,sp vs H Q E->vs.length=ps.length
 run:∀ (A:ba) (outer:List Env) (s:ai) (H:Hp) (args:Args) (us:List ae) (vs:List V) (Q:VK) (E:XK),me k A->zg7 P w K mg base A outer s H->gx s fd args (ps.zip us)->ma vs us->sp vs H Q E->
  codeAny (ay P w) A (.call (.ref f) args) (CR CX outer P w H s Q E) s
theorem mq.mono {P:aJ} {w:aR} {K:aj} {mg:Str->Option ae} {base:aP} {CX:CXT} {j k:Nat} {f:af} {fd:cX} {ps:List Str} {sp:Sp} (F:mq P w K mg base CX j f fd ps sp) (h:j <= k):
  mq P w K mg base CX k f fd ps sp:=⟨F.len,fun A outer s H args us vs Q E hr=>F.run A outer s H args us vs Q E (hr.mono h)⟩
theorem mq.imp {P:aJ} {w:aR} {K:aj} {mg:Str->Option ae} {base:aP} {CX:CXT} {k:Nat} {f:af} {fd:cX} {ps:List Str} {sp sp':Sp} (F:mq P w K mg base CX k f fd ps sp)
  (h:∀ vs H Q E,sp' vs H Q E->sp vs H Q E):mq P w K mg base CX k f fd ps sp':=
 ⟨fun vs H Q E q=>F.len vs H Q E (h _ _ _ _ q),fun A outer s H args us vs Q E hr he hb hv hs=>F.run A outer s H args us vs Q E hr he hb hv (h _ _ _ _ hs)⟩
section
variable {X:Cx} {pins:List (af × Obj)} {σ:St} {H:Hp} {s s':ai}
theorem Inv.env0 (I:Inv X pins σ H s):zg7 X.prog X.w X.K X.mg X.base X.A X.stack s H:=
 ⟨I.ok.frames,I.ok.mod,I.bs,bb I.ok.bsz I.sz,I.stack,I.stkFree,I.hok,I.bare,I.tk⟩
theorem Inv.after (I:Inv X pins σ H s) (h:CE X.stack X.prog X.w H s Q u s'):EP X pins σ Q u s':=by
 obtain ⟨⟨v,H',os,bare,un,hok,r,q⟩,htk⟩:=h
 obtain ⟨hh,g,d,t,os'⟩:=s'
 obtain rfl:os'=s.os:=os
 exact ⟨v,H',I.call (h':=hh) (g':=g) (d':=d) (t':=t) (ch:=[]) un hok bare (fun b z=>absurd z (by simp)) htk,r,q⟩
end
def zlT (sp:Sp) (dvs:List V) (E:XK) (t:TA):TE:=fun σ H Q=>t σ H fun vs H1=>sp (vs ++ dvs) H1 Q E
def Binds (K:aj) (fd:cX) (ps:List Str) (ds:List ae):Prop:=
 ∀ (s:ai) (us:List ae),K.In s.heap->(us ++ ds).length=ps.length->gx s fd ⟨us,[]⟩ (ps.zip (us ++ ds))
theorem Binds.all {K:aj} {fd:cX} {ps:List Str} (h:∀ us:List ae,us.length=ps.length->bindArgs fd ⟨us,[]⟩=pure (ps.zip us)):Binds K fd ps []:=fun s us _ hl=>by
 rw [dh] at hl ⊢
 exact .of_eq (h us hl)
def z7p (CX:CXT) (X:Cx) (E:XK):Prop:=∀ (pins:List (af × Obj)) (σ:St) (H:Hp) (s:ai) (e:ae) (s':ai),Inv X pins σ H s->CX X.stack H s E e s'->X.xe e s'
section
variable {X:Cx} {CX:CXT} {k:Nat} {f C:af} {fd:cX} {ps:List Str} {sp:Sp} {dvs:List V} {ds:List ae} {E:XK} {x:Str} {p pos:Pos} {e:aK} {es:List aK} {t:TA}
theorem zk6 (F:mq X.prog X.w X.K X.mg X.base CX k f fd ps sp) (hr:me k X.A) (hb:Binds X.K fd ps ds) (hd:ma dvs ds) (hx:z7p CX X E)
  (I:Inv X pins σ H s) (r:ma vs us) (h:sp (vs ++ dvs) H Q E):ar (ay X.prog X.w) X.A (call (.ref f) us) (EP X pins σ Q) X.xe s:=by
 have r2:ma (vs ++ dvs) (us ++ ds):=r.append hd
 have hl:(us ++ ds).length=ps.length:=by rw [<- r2.length];exact F.len _ _ _ _ h
 refine gH (dU (F.run X.A X.stack s H ⟨us,[]⟩ (us ++ ds) (vs ++ dvs) Q E hr I.env0 (hb s us I.kIn hl) r2 h) fun r s' hq=>?_)
 cases r with
 | error e=>exact hx pins σ H s e s' I hq
 | ok fl=>
  cases fl with
  | ret u=>exact I.after hq
  | next=>exact ak hq
  | brk=>exact ak hq
  | cont=>exact ak hq
theorem zgW (F:mq X.prog X.w X.K X.mg X.base CX k f fd ps sp) (hr:me k X.A) (hg:Gl X x) (hm:X.mg x=some (.ref f)) (hk:cC X.K (.ref f)=true) (hb:Binds X.K fd ps ds) (hd:ma dvs ds) (hx:z7p CX X E)
  (ha:PA X (e :: es) t) (hdb:(x == ("__debug__":Str))=false:=by decide) (he:aD (e :: es) X.env=(false,eval e X.env) :: aD es X.env:=by rfl) (hpl:(backTo pos (aD es X.env)).any (·.1)=false:=by rfl):
  PE X (.Call (.Name x p) (e :: es) [] pos) (zlT sp dvs E t):=by
 intro pins s σ H Q I h
 refine dW (z58 I hg hm ?_ hdb)
 refine io (h₀:=X.base) I.ok.mod.kin hk (thn (ha pos pins s σ H _ I h) fun us s1 ⟨vs,H1,I1,r,q⟩=>⟨I1.kIn,?_⟩) he hpl
 exact zk6 F hr hb hd hx I1 r q
structure Mk (K:aj) (C f:af):Prop where
 makes:PySem.W.makesIn K C=true
 init:cO K (.ref C) "__init__" = some (some (.ref f))
 fn:lR K (.ref f)=true
 kp:cC K (.ref C)=true
end
section
variable {fd:cX} {ps ks:List Str}
structure zmB (K:aj) (fd:cX) (ps ks:List Str) (g:List ae->List ae->List ae) (gV:List V->List V->List V):Prop where
 to:∀ (s:ai) (us ws:List ae),K.In s.heap->(g us ws).length=ps.length->gx s fd ⟨us,ks.zip ws⟩ (ps.zip (g us ws))
 rel:∀ {vs:List V} {us:List ae} {zs:List V} {ws:List ae},ma vs us->ma zs ws->ma (gV vs zs) (g us ws)
end
structure z13 (N P:List Str) (sc:b9):Prop where
 kind:sc.kind=.function
 co:sc.isCoroutine=false
 gen:sc.isGenerator=false
 nd:N.Nodup
 pre:N.take P.length=P
 par:∀ x ∈ P,sc.names.lookup x=some .local \/ sc.names.lookup x=some .cell
 nofree:∀ y ∈ sc.names,y.2 ≠ .free
theorem z9n {kindOf:Str->Option cD} {x:Str}:∀ {binds:List (Str × ae)} {m:Str->Option ae},(∀ v,(x,v) ∉ binds)->bindL kindOf binds m x=m x
 | [],_,_=>rfl
 | (n,v) :: r,m,h=>by
  unfold bindL
  rw [z9n fun w hw=>h w (au _ hw)]
  split
  ·have:x ≠ n:=by rintro rfl;exact h v aH
   simp [this]
  ·rfl
theorem z9f {kindOf:Str->Option cD} {x:Str}:∀ {binds:List (Str × ae)} {m:Str->Option ae},(∀ v,(x,v) ∉ binds)->bindC kindOf binds m x=m x
 | [],_,_=>rfl
 | (n,v) :: r,m,h=>by
  unfold bindC
  rw [z9f fun w hw=>h w (au _ hw)]
  split
  ·rfl
  ·have:x ≠ n:=by rintro rfl;exact h v aH
   simp [this]
theorem z9z {kindOf:Str->Option cD} {x:Str} {v:ae}:∀ {P:List Str} {vs:List ae} {i:Nat} {m:Str->Option ae},P.Nodup->P[i]?=some x->vs[i]?=some v->kindOf x=some .local->
  bindL kindOf (P.zip vs) m x=some v
 | [],_,_,_,_,h,_,_=>by simp at h
 | _ :: _,[],_,_,_,_,h,_=>by simp at h
 | p :: P,w :: vs,0,m,nd,h1,h2,hk=>by
  simp at h1 h2;subst h1;subst h2
  show bindL kindOf ((p,w) :: P.zip vs) m p=_
  unfold bindL
  rw [z9n fun v hv=>(bO.mp nd).1 (gJ hv).1,if_pos hk]
  simp
 | p :: P,w :: vs,i + 1,m,nd,h1,h2,hk=>by
  show bindL kindOf ((p,w) :: P.zip vs) m x=_
  unfold bindL
  exact z9z (i:=i) (bO.mp nd).2 (by simpa using h1) (by simpa using h2) hk
theorem z9I {kindOf:Str->Option cD} {x:Str} {v:ae}:∀ {P:List Str} {vs:List ae} {i:Nat} {m:Str->Option ae},P.Nodup->P[i]?=some x->vs[i]?=some v->kindOf x ≠ some .local->
  bindC kindOf (P.zip vs) m x=some v
 | [],_,_,_,_,h,_,_=>by simp at h
 | _ :: _,[],_,_,_,_,h,_=>by simp at h
 | p :: P,w :: vs,0,m,nd,h1,h2,hk=>by
  simp at h1 h2;subst h1;subst h2
  show bindC kindOf ((p,w) :: P.zip vs) m p=_
  unfold bindC
  rw [z9f fun v hv=>(bO.mp nd).1 (gJ hv).1,if_neg hk]
  simp
 | p :: P,w :: vs,i + 1,m,nd,h1,h2,hk=>by
  show bindC kindOf ((p,w) :: P.zip vs) m x=_
  unfold bindC
  exact z9I (i:=i) (bO.mp nd).2 (by simpa using h1) (by simpa using h2) hk
def start (N:List Str) (vs:List V):St:=vs.map some ++ aq (N.length - vs.length) none
def zeE (CX:CXT) (P:aJ) (w:aR) (K:aj) (mg:Str->Option ae) (base:aP) (N:List Str) (qual:Str) (scope:b9) (f:af) (cd:ae) (A:ba) (outer:List Env) (s:ai) (H:Hp) (E:XK):Cx where
 prog:=P
 w:=w
 K:=K
 mg:=mg
 base:=base
 A:=A.deeper (envOfC qual scope s.heap.objs.size f cd)
 N:=N
 s₀:=s
 H₀:=H
 env:=envOfC qual scope s.heap.objs.size f cd
 outer:=outer
 stack:=envOfC qual scope s.heap.objs.size f cd :: outer
 ex:=[]
 calm:=true
 fn:=fun _=>true
 pn:=[]
 xe:=fun e s'=>ar (ay P w) (A.deeper (envOfC qual scope s.heap.objs.size f cd)) (leaving (envOfC qual scope s.heap.objs.size f cd) e) (fun _ s''=>CX outer H s E e s'') (fun e' s''=>CX outer H s E e' s'') s'
theorem zbm {sc:b9} {n:Nat} {x:Str} (h:sc.names.lookup x=some .cell):∃ c,(bP n sc.names []).lookup x=some c:=by
 have q:=e9 sc.names n [] (.inl h)
 exact iX.mp q
theorem z9J {CX:CXT} {P:aJ} {w:aR} {K:aj} {mg:Str->Option ae} {base:aP} {N ps:List Str} {qual:Str} {scope:b9} {f:af} {cd:ae} {A:ba} {outer:List Env} {s s1:ai} {H:Hp} {E:XK} {us:List ae} {vs:List V}
  (S:z13 N ps scope) (hd:A.handled=none) (e0:zg7 P w K mg base A outer s H) (hl:vs.length=ps.length) (r:ma vs us)
  (x:InCallC s s.heap.objs.size (bindL (envOfC qual scope s.heap.objs.size f cd).kindOf (ps.zip us) fun _=>none) (bP (s.heap.objs.size + 1) scope.names []) (bindC (envOfC qual scope s.heap.objs.size f cd).kindOf (ps.zip us) fun _=>none) s1) (htk:0 < s1.toks):
  Inv (zeE CX P w K mg base N qual scope f cd A outer s H E) [] (start N vs) H s1:=by
 have hpl:ps.length <= N.length:=by have:=congrArg k9 S.pre;rw [dJ] at this;omega
 obtain ⟨h1,tk,rfl,hk⟩:=x.done
 have noA:∀ b:af,b ∉ (zeE CX P w K mg base N qual scope f cd A outer s H E).ex:=fun b z=>absurd (show b ∈ ([]:List af) from z) (by simp)
 refine ⟨⟨e0.mod,S.kind,rfl,rfl,aB _,fun y z c h1 h2=>?_,fun y hy=>?_,fun y c _ h=>?_,fun _=>hd,jP e0.frames,.inr ⟨rfl,rfl⟩,fun b z=>absurd z (noA b),e0.bs,e0.bsz,fun b _ _=>noA b,fun b z=>absurd z (noA b),e0.funs,e0.frf⟩,
  rfl,e0.bare,Un.kept hk,⟨_,x.toInCall.ns,fun i y v h1 h2 h3=>?_⟩,fun y c h=>⟨_,x.cell y c h⟩,e0.hok.fresh (aB _),fun y c h=>?_,fun p hp=>absurd (show p ∈ ([]:List (af × Obj)) from hp) (by simp),e0.hok.kept hk,?_,htk⟩
 ·exact name_of_addr x.apart (be h1) (be h2)
 ·have hy:scope.names.lookup y=some .cell \/ scope.names.lookup y=some .free:=hy
  rcases hy with hy|hy
  ·exact zbm hy
  ·exact absurd rfl (S.nofree _ (be hy))
 ·exact eI (x.above y c (be h))
 ·have hi:i < vs.length:=by
   unfold start at h2
   by_cases hi:i < vs.length
   ·exact hi
   ·rw [bp (by simpa using hi)] at h2
    rw [dH] at h2
    split at h2 <;> cases h2
  have ha:vs[i]?=some v:=by
   unfold start at h2
   rw [aL (by simpa using hi),bc] at h2
   cases e:vs[i]? with
   | none=>rw [e] at h2;cases h2
   | some a=>rw [e] at h2;cases h2;rfl
  obtain ⟨u,hu,rv⟩:=r.get ha
  have hp:ps[i]?=some y:=by
   rw [<- S.pre,List.getElem?_take_of_lt (by omega)];exact h1
  have ndP:ps.Nodup:=by rw [<- S.pre];exact S.nd.sublist (List.take_sublist _ _)
  refine ⟨u,rv,?_⟩
  rcases S.par y (aW hp) with k|k
  ·exact .inl ⟨k,z9z ndP hp hu k⟩
  ·obtain ⟨c,e⟩:=zbm (n:=s.heap.objs.size + 1) k
   refine .inr ⟨.inl k,c,e,?_⟩
   have q:=x.cell y c e
   rw [z9I ndP hp hu (by show scope.names.lookup y ≠ _;rw [k];decide)] at q
   exact q
 ·exact e0.hok.fresh (eI (x.above y c (be h)))
 ·unfold start
  show _=N.length
  rw [aE,az,gy]
  omega
theorem z1d {CX:CXT} {P:aJ} {w:aR} {K:aj} {mg:Str->Option ae} {base:aP} {k:Nat} {f:af} {name qual:Str} {params:dX} {body:List cu} {scope:b9} {dV kV doc pm cdv ct oc:ae} {an od:Option af}
  {osl:Array (Option ae)} {N ps:List Str} {sp:Sp} (lk:K.lookup f=some ⟨oc,od,.func (bA name qual params body scope dV kV doc pm an cdv ct),osl⟩) (hcd:dk K cdv qual=true) (S:z13 N ps scope)
  (len:∀ vs H Q E,sp vs H Q E->vs.length=ps.length)
  (hbody:∀ (A:ba) (outer:List Env) (s:ai) (H:Hp) (vs:List V) (Q:VK) (E:XK),me k (A.deeper (envOfC qual scope s.heap.objs.size f cdv))->sp vs H Q E->
   ∃ t,PSs (zeE CX P w K mg base N qual scope f cdv A outer s H E) body t/\t { nx:=fun _ H'=>Q .non H',rt:=Q } (start N vs) H):
  mq P w K mg base CX (k + 1) f (bA name qual params body scope dV kV doc pm an cdv ct) ps sp:=by
 refine ⟨len,fun A outer s H args us vs Q E hr e0 hb r hsp=>?_⟩
 have hl:=len _ _ _ _ hsp
 have KX:K.In s.heap:=e0.mod.kin.keeps fun b o e=>(e0.bs b o e).1
 have lim:s.heap.NoLimit:=e0.mod.nolimit.keeps fun b o e=>(e0.bs b o e).1
 have hkind:∀ y ∈ ps.zip us,scope.names.lookup y.1=some .local \/ (scope.names.lookup y.1=some .cell/\((bP (s.heap.objs.size + 1) scope.names []).lookup y.1).isSome=true):=fun ⟨n,v⟩ hy=>by
  rcases S.par n (gJ hy).1 with q|q
  ·exact .inl q
  ·exact .inr ⟨q,e9 _ _ _ (.inl q)⟩
 refine jA hr.depth (KX _ _ lk) rfl S.co S.gen rfl (ku KX hcd) (hb _ _ _ _ ?_)
 refine d0 e0.tk (iA S.kind hkind fun env he s1 x htk=>?_)
 subst he
 refine ⟨lim.keeps x.toInCall.keep,codeAny_func ?_⟩
 obtain ⟨t,ht,hq⟩:=hbody A outer s H vs Q E (hr.deeper _) hsp
 have I:Inv (zeE CX P w K mg base N qual scope f cdv A outer s H E) [] (start N vs) H s1:=z9J S hr.hd e0 hl r x htk
 refine c7 (ht [] s1 (start N vs) H _ I hq) (fun fl s' hs=>?_) fun e s' hs=>hs
 have fin:∀ {σ':St} {H':Hp} {v:V} {u:ae},Inv (zeE CX P w K mg base N qual scope f cdv A outer s H E) [] σ' H' s'->RelV v u->Q v H'->CE outer P w H s Q u s':=
  fun {σ' H' v u} J rv q=>⟨⟨v,H',J.os,J.bare,J.base,J.hok,rv,q⟩,J.tk⟩
 cases fl with
 | ret u=>
  obtain ⟨v,σ',H',J,rv,q⟩:=hs
  exact fin J rv q
 | next=>
  obtain ⟨σ',H',J,q⟩:=hs
  exact fin (v:=V.non) (u:=cj) J rfl q
 | brk=>
  obtain ⟨_,_,_,q⟩:=hs
  exact ak q
 | cont=>
  obtain ⟨_,_,_,q⟩:=hs
  exact ak q
section
variable {X:Cx} {x:Str} {p pos:Pos} {e:aK} {es:List aK} {t:TA} {id T:String} {r:List V->Hp->VK->Prop}
def tCB (r:List V->Hp->VK->Prop) (t:TA):TE:=fun σ H Q=>t σ H fun vs H1=>r vs H1 Q
theorem z49 (hc:mj X (.builtin id) r) (hg:Gl X x) (hm:X.mg x=none) (hv:a8 x=some (.builtin id)) (ha:PA X (e :: es) t) (hn:x ≠ "__name__":=by decide) (hdb:(x == ("__debug__":Str))=false:=by decide)
  (he:aD (e :: es) X.env=(false,eval e X.env) :: aD es X.env:=by rfl) (hpl:(backTo pos (aD es X.env)).any (·.1)=false:=by rfl):PE X (.Call (.Name x p) (e :: es) [] pos) (tCB r t):=by
 intro pins s σ H Q I h
 refine dW (z7A I hg hm hv ?_ hn hdb)
 exact PyProof.Rows.callWith_builtin1 (thn (ha pos pins s σ H _ I h) fun us s1 ⟨vs,H1,I1,r1,q1⟩=>hc pins s1 σ H1 vs us Q I1 r1 q1) he hpl
theorem z9C (hc:mj X (.type T) r) (hg:Gl X x) (hm:X.mg x=none) (hv:a8 x=some (.type T)) (ha:PA X (e :: es) t) (hn:x ≠ "__name__":=by decide) (hdb:(x == ("__debug__":Str))=false:=by decide)
  (he:aD (e :: es) X.env=(false,eval e X.env) :: aD es X.env:=by rfl) (hpl:(backTo pos (aD es X.env)).any (·.1)=false:=by rfl):PE X (.Call (.Name x p) (e :: es) [] pos) (tCB r t):=by
 intro pins s σ H Q I h
 refine dW (z7A I hg hm hv ?_ hn hdb)
 exact dS (thn (ha pos pins s σ H _ I h) fun us s1 ⟨vs,H1,I1,r1,q1⟩=>hc pins s1 σ H1 vs us Q I1 r1 q1) he hpl
end
end L2
namespace HT
open PySem PyProof.Rows
section
open PySem.SeqAt
open PySem.AutoSeq1 (wpAny_loadPart')
open PySem.MeetsSeq PySem.MeetsSeq2 PySem.MeetsSeq3
end
section
variable {prog:aJ} {w:aR} {A:ba} {E:ae->ai->Prop} {s:ai}
theorem cat_tup (ht:IsTup s.heap t vs.toArray) (hb:IsTup s.heap b ws.toArray) (hv:vs ≠ [])
  (h1:ws=[]->Q (.ref t) s) (h2:ws ≠ []->Q (.ref s.heap.objs.size) { s with heap:=s.heap.push { cls:=.type "tuple",data:=.seq (vs ++ ws).toArray } })
  (hsz:vs.length + ws.length <= sizeLine):ar (ay prog w) A (cU .Add (.ref t) (.ref b)) Q E s:=by
 obtain ⟨⟨cls,dd,data,sl⟩,ho,hc,n,hd⟩:=id ht
 obtain ⟨⟨cls2,dd2,data2,sl2⟩,ho2,hc2,n2,hd2⟩:=id hb
 simp only at hc hd hc2 hd2
 subst hc hd hc2 hd2
 have e:vs.toArray ++ ws.toArray=(vs ++ ws).toArray:=by simp
 by_cases hw:ws=[]
 ·exact ip ⟨_,ho,rfl⟩ ⟨_,ho2,rfl⟩ iY jZ ge fW (fK _ _)
   (tuple_addW1 t b vs.toArray ws.toArray n n2 dd dd2 sl sl2 (by simpa using hv) (by simp [hw])) ⟨ho,ho2,h1 hw⟩
 ·refine ip ⟨_,ho,rfl⟩ ⟨_,ho2,rfl⟩ iY jZ ge fW (fK _ _)
   (tuple_addW2 t b vs.toArray ws.toArray n n2 dd dd2 sl sl2 (by simpa using hv) (by simpa using hw) (by rw [aA,aA];exact hsz)) ⟨ho,ho2,?_⟩
  rw [e]
  exact h2 hw
def sIx (n d:Nat):Option Int->Nat
 | none=>d
 | some v=>if v < 0 then (v + (n:Int)).toNat else min v.toNat n
theorem sIx_none (n d:Nat):sIx n d none=d:=rfl
theorem sIx_nat (n d k:Nat):sIx n d (some (k:Int))=min k n:=by
 show (if (k:Int) < 0 then ((k:Int) + (n:Int)).toNat else min (k:Int).toNat n)=min k n
 rw [if_neg (by omega),eu]
theorem zkk (n d:Nat) (hd:d <= n) (o:Option Int):sIx n d o <= n:=by
 cases o with
 | none=>exact hd
 | some v=>
  show (if v < 0 then (v + (n:Int)).toNat else min v.toNat n) <= n
  by_cases hv:v < 0
  ·rw [if_pos hv];omega
  ·rw [if_neg hv];exact li _ _
theorem zeb (v:Int) (n d:Nat):(if v < 0 then max (v + (n:Int)) 0 else min v (n:Int))=((sIx n d (some v):Nat):Int):=by
 show (if v < 0 then max (v + (n:Int)) 0 else min v (n:Int))=(((if v < 0 then (v + (n:Int)).toNat else min v.toNat n):Nat):Int)
 by_cases hv:v < 0
 ·simp only [if_pos hv];omega
 ·simp only [if_neg hv];omega
theorem zbT (lo hi:Option Int) (n:Nat):fE lo hi 1 (n:Int)=(((sIx n 0 lo:Nat):Int),((sIx n n hi:Nat):Int)):=by
 have h1:¬ ((1:Int) < 0):=by omega
 unfold fE
 simp only [h1,if_false]
 refine jN ?_ ?_
 ·cases lo with
  | none=>rfl
  | some v=>exact zeb v n 0
 ·cases hi with
  | none=>rfl
  | some v=>exact zeb v n n
theorem zbs (i j:Nat):cw (i:Int) (j:Int) 1=j - i:=by
 unfold cw
 have h1:(1:Int) > 0:=by omega
 simp only [h1,if_true,Int.ediv_one]
 split <;> omega
theorem slicePart_ (p:fj v o) (h:Q o s):ar (ay prog w) A (Builtin.Slice.slicePartIndex v) Q E s:=by
 cases p with
 | none=>exact g9 h
 | int i t=>exact slicePart_int h
theorem sliceApplied_gen {sl:af} {vl vu:ae} {lo hi:Option Int} {n:Nat} {Q:Int × Int × Nat->ai->Prop} (hs:s.heap.IsSliceOf sl vl vu .none) (pl:fj vl lo) (pu:fj vu hi)
  (h:Q (((sIx n 0 lo:Nat):Int),1,sIx n n hi - sIx n 0 lo) s):ar (ay prog w) A (ei (.ref sl) (pure (n:Int))) Q E s:=by
 obtain ⟨os,hos,hcs,hds⟩:=id hs
 unfold ei iO
 refine aa (aa (bd hos hds (x:=vl) rfl (aa (bd hos hds (x:=vu) rfl (aa (bd hos hds (x:=.none) rfl (am ?_)))))))
 refine aa (g9 ?_)
 show ar _ _ (if ((1:Int) == 0)=true then _ else _) _ _ s
 rw [if_neg (by decide)]
 refine aa (slicePart_ pl (aa (slicePart_ pu (aa (am ?_)))))
 show ar _ _ (match fE lo hi 1 (n:Int) with|(lo,hi)=>pure (lo,(1:Int),cw lo hi 1)) _ _ s
 rw [zbT lo hi n]
 show ar _ _ (pure (((sIx n 0 lo:Nat):Int),(1:Int),cw ((sIx n 0 lo:Nat):Int) ((sIx n n hi:Nat):Int) 1)) _ _ s
 rw [zbs]
 exact am h
theorem zf9 (xs:Array ae) (i k:Nat):((aU k).filterMap fun (m:Nat)=>xs[((i:Int) + (m:Int) * 1).toNat]?).toArray=((xs.toList.drop i).take k).toArray:=by
 have e:(fun (m:Nat)=>xs[((i:Int) + (m:Int) * 1).toNat]?)=fun m=>xs[i + m]?:=by
  funext m
  have:((i:Int) + (m:Int) * 1).toNat=i + m:=by omega
  rw [this]
 rw [e]
 have:=pick_run xs i k
 rw [List.filterMap_map] at this
 have e2:((fun x=>xs[x]?) ∘ fun x=>i + x)=fun m=>xs[i + m]?:=rfl
 rw [e2] at this
 rw [this]
theorem getItem_tuple_cut {t sl:af} {items:Array ae} {vl vu:ae} {lo hi:Option Int} {Q:ae->ai->Prop} (ht:IsTup s.heap t items) (hs:s.heap.IsSliceOf sl vl vu .none) (pl:fj vl lo) (pu:fj vu hi)
  (hw:¬ (sIx items.size 0 lo=0/\sIx items.size items.size hi=items.size))
  (h:Q (.ref s.heap.objs.size) { s with heap:=s.heap.push { cls:=.type "tuple",data:=.seq ((items.toList.drop (sIx items.size 0 lo)).take (sIx items.size items.size hi - sIx items.size 0 lo)).toArray } })
  (hsz:items.size <= sizeLine):ar (ay prog w) A (getItem (.ref t) (.ref sl)) Q E s:=by
 have htake:sizeOk (.seq ((items.toList.drop (sIx items.size 0 lo)).take (sIx items.size items.size hi - sIx items.size 0 lo)).toArray):=by
  show ((items.toList.drop (sIx items.size 0 lo)).take (sIx items.size items.size hi - sIx items.size 0 lo)).toArray.size <= sizeLine
  rw [aA,dJ,iZ,ck]
  omega
 have hj:sIx items.size items.size hi <= items.size:=zkk _ _ (aB _) hi
 obtain ⟨os,hos,hcs,hds⟩:=id hs
 have hTs:s.TypeIs (.ref sl) "slice":=⟨os,hos,hcs⟩
 unfold getItem
 try with_reducible refine bL ?_
 first|refine aa (am ?_)|skip
 refine aa (iI ht.typeIs (by decide) ?_)
 refine aa (bB (name:=lx "__getitem__") ht.typeIs bu
  (bF bu ht.typeIs gX ?_ (iq _ _)))
 show ar _ _ (fx (.ref t) >>= _) _ _ s
 refine aa (j0 ht ?_)
 refine aa (fL hTs ?_)
 rw [if_pos (by decide)]
 refine aa (sliceApplied_gen hs pl pu ?_)
 have hno:¬ ((((sIx items.size 0 lo:Nat):Int) == 0 && (1:Int) == 1 && (sIx items.size items.size hi - sIx items.size 0 lo) == items.size)=true):=by
  intro q
  rw [bh,bh] at q
  have q1:((sIx items.size 0 lo:Nat):Int)=0:=eq_of_beq q.1.1
  have q2:sIx items.size items.size hi - sIx items.size 0 lo=items.size:=eq_of_beq q.2
  exact hw ⟨by omega,by omega⟩
 show ar _ _ (if (((sIx items.size 0 lo:Nat):Int) == 0 && (1:Int) == 1 && (sIx items.size items.size hi - sIx items.size 0 lo) == items.size)=true then _ else _) _ _ s
 rw [if_neg hno,zf9]
 first
  | exact aa (m:=bS _) (bn (am ⟨_,rfl,am h⟩) htake)
  | exact aa (m:=bS _) (bn (aa (am (am ⟨_,rfl,am h⟩))) htake)
  | exact aa (aa (m:=bS _) (bn (am (am ⟨_,rfl,am h⟩)) htake))
  | exact aa (aa (m:=bS _) (bn (am ⟨_,rfl,am h⟩) htake))
end
end HT
namespace L2
open PySem PySem.Spec PyProof.Rows
abbrev TO:=St->Hp->(Option Int->Hp->Prop)->Prop
def PO (X:Cx) (e:Option aK) (t:TO):Prop:=
 ∀ (pins:List (af × Obj)) (s:ai) (σ:St) (H:Hp) (Q:Option Int->Hp->Prop),Inv X pins σ H s->t σ H Q->
  ar (ay X.prog X.w) X.A (evalPart e X.env) (fun u s'=>∃ o H',Inv X pins σ H' s'/\fj u o/\Q o H') X.xe s
def zh3:TO:=fun _ H Q=>Q none H
def zm5 (t:TE):TO:=fun σ H Q=>t σ H fun x H1=>∃ i,x=.int i/\Q (some i) H1
section
variable {X:Cx} {e:aK} {te:TE} {lo hi:Option aK} {tl th:TO} {pos p2:Pos}
theorem zgR:PO X none zh3:=by
 intro pins s σ H Q I h
 rw [j4]
 exact am ⟨none,H,I,.none,h⟩
theorem zhc (h:PE X e te):PO X (some e) (zm5 te):=by
 intro pins s σ H Q I hw
 rw [evalPart_some]
 refine thn (h pins s σ H _ I hw) fun u s1 ⟨x,H1,I1,r1,q1⟩=>?_
 obtain ⟨i,rfl,q⟩:=q1
 obtain ⟨t,rfl⟩:=r1
 exact ⟨some i,H1,I1,.int i t,q⟩
def SlR (X:Cx) (r:V->Option Int->Option Int->Hp->VK->Prop):Prop:=
 ∀ (pins:List (af × Obj)) (s:ai) (σ:St) (H:Hp) (x:V) (v vl vu:ae) (lo hi:Option Int) (sl:af) (Q:VK),Inv X pins σ H s->RelV x v->s.heap.IsSliceOf sl vl vu .none->fj vl lo->fj vu hi->r x lo hi H Q->
  ∃ T id,typeLookup (.type T) "__getitem__" = pure (some (.builtin id))/\s.TypeIs v T/\ar (ay X.prog X.w) X.A (getItem v (.ref sl)) (EP X pins σ Q) X.xe s
theorem SlR.or (h:SlR X r) (h':SlR X r'):SlR X (fun x lo hi H Q=>r x lo hi H Q \/ r' x lo hi H Q):=by
 intro pins s σ H x v vl vu lo hi sl Q I rx hs pl pu q
 rcases q with q|q
 ·exact h pins s σ H x v vl vu lo hi sl Q I rx hs pl pu q
 ·exact h' pins s σ H x v vl vu lo hi sl Q I rx hs pl pu q
def tSl (r:V->Option Int->Option Int->Hp->VK->Prop) (te:TE) (tl th:TO):TE:=fun σ H Q=>te σ H fun x H1=>tl σ H1 fun l H2=>th σ H2 fun u H3=>r x l u H3 Q
theorem zev (hr:SlR X r) (he:PE X e te) (hl:PO X lo tl) (hu:PO X hi th):PE X (.Subscript e (.Slice lo hi none p2) pos) (tSl r te tl th):=by
 intro pins s σ H Q I h
 refine jQ (thn (he pins s σ H _ I h) fun v s1 ⟨x,H1,I1,r1,q1⟩=>?_)
 refine wpAny_Slice (thn (hl pins s1 σ H1 _ I1 q1) fun vl s2 ⟨l,H2,I2,pl,q2⟩=>thn (hu pins s2 σ H2 _ I2 q2) fun vu s3 ⟨u,H3,I3,pu,q3⟩=>?_)
 rw [j4]
 refine am ?_
 have I4:Inv X pins σ H3 { s3 with heap:=s3.heap.push { cls:=.type "slice",data:=.fields #[vl,vu,.none] } }:=I3.kept (t':=s3.toks) fun b ob q=>ah _ q
 obtain ⟨T,id,hT,ht,hg⟩:=hr pins { s3 with heap:=s3.heap.push { cls:=.type "slice",data:=.fields #[vl,vu,.none] } } σ H3 x v vl vu l u s3.heap.objs.size Q I4 r1 (kw ..) pl pu q3
 show ar (ay X.prog X.w) X.A (subscriptTail e (.Slice lo hi none p2) v (.ref s3.heap.objs.size)) (EP X pins σ Q) X.xe { s3 with heap:=s3.heap.push { cls:=.type "slice",data:=.fields #[vl,vu,.none] } }
 exact tail_any (ops:=[.ref s3.heap.objs.size,v]) ht hT hg (by with_unfolding_all rfl)
def zgb (xs:List V) (lo hi:Option Int):List V:=(xs.drop (HT.sIx xs.length 0 lo)).take (HT.sIx xs.length xs.length hi - HT.sIx xs.length 0 lo)
theorem z6J (xs:List V) (lo hi:Option Int):(zgb xs lo hi).length <= xs.length:=by
 unfold zgb
 rw [dJ,iZ]
 omega
def zmt (K:aj):V->Option Int->Option Int->Hp->VK->Prop:=fun x lo hi H Q=>∃ a xs,x=.ref a/\SqT K H a xs/\
 ¬ (HT.sIx xs.length 0 lo=0/\HT.sIx xs.length xs.length hi=xs.length)/\∀ p,H p=none->Q (.ref p) (upd H p (.tup (zgb xs lo hi)))
theorem zjg:SlR X (zmt X.K):=by
 intro pins s σ H x v vl vu lo hi sl Q I rx hs pl pu h
 obtain ⟨a,xs,rfl,hx,hw,q⟩:=h
 cases rx
 obtain ⟨its,r,ht,hz⟩:=I.tuple hx
 have hlen:its.toArray.size=xs.length:=by rw [aA];exact r.length.symm
 refine ⟨"tuple",_,bu.lookup,ht.typeIs,?_⟩
 refine HT.getItem_tuple_cut ht hs pl pu (by rw [hlen];exact hw) ?_ (by rw [hlen];exact hz)
 rw [hlen]
 refine ⟨.ref s.heap.objs.size,_,I.laid (t':=s.toks) (o:=.tup (zgb xs lo hi)) (fun b ob q=>ah _ q) (aB _) ?_,rfl,q _ (I.hok.fresh (aB _))⟩
 exact ⟨bb (z6J xs lo hi) hz,_,(r.drop (HT.sIx xs.length 0 lo)).take (HT.sIx xs.length xs.length hi - HT.sIx xs.length 0 lo),mw.new _ _⟩
def zkj (K:aj):R2:=fun x y H Q=>∃ a b xs ys,x=.ref a/\y=.ref b/\SqT K H a xs/\SqT K H b ys/\xs ≠ []/\xs.length + ys.length <= sizeLine/\
 (ys=[]->Q (.ref a) H)/\(ys ≠ []->∀ p,H p=none->Q (.ref p) (upd H p (.tup (xs ++ ys))))
theorem ma.nil_iff (r:ma xs us):us=[] ↔ xs=[]:=by
 cases r with
 | nil=>simp
 | cons _ _=>simp
theorem zi4:OpR X (cU .Add) (zkj X.K):=by
 intro pins s σ H x y v u Q I rx ry h
 obtain ⟨a,b,xs,ys,rfl,rfl,ha,hb,hx,hz,q1,q2⟩:=h
 cases rx
 cases ry
 obtain ⟨its,r1,p1,_⟩:=I.tuple ha
 obtain ⟨its2,r2,p2,_⟩:=I.tuple hb
 refine HT.cat_tup p1 p2 (fun z=>hx (r1.nil_iff.mp z)) (fun z=>⟨.ref a,H,I,rfl,q1 (r2.nil_iff.mp z)⟩) (fun z=>?_) (by rw [<- r1.length,<- r2.length];exact hz)
 refine ⟨.ref s.heap.objs.size,_,I.laid (t':=s.toks) (o:=.tup (xs ++ ys)) (fun b ob q=>ah _ q) (aB _) ?_,rfl,q2 (fun w=>z (r2.nil_iff.mpr w)) _ (I.hok.fresh (aB _))⟩
 exact ⟨by rw [aE];exact hz,_,r1.append r2,mw.new _ _⟩
end
def ixN (n:Nat) (i:Int):Option Nat:=if 0 <= i then (if i < n then some i.toNat else none) else if -(n:Int) <= i then some (i + n).toNat else none
def atI {α:Type} (xs:List α) (i:Int):Option α:=(ixN xs.length i).bind fun j=>xs[j]?
theorem zdu (h:ixN n i=some j):seqIndex? i n=some j/\j < n/\-(n:Int) <= i/\i < n:=by
 unfold ixN at h
 by_cases h0:0 <= i
 ·rw [if_pos h0] at h
  by_cases h1:i < n
  ·rw [if_pos h1] at h
   have e:i.toNat=j:=bN h
   exact ⟨by rw [lb h0 h1,e],by omega,by omega,h1⟩
  ·rw [if_neg h1] at h;cases h
 ·rw [if_neg h0] at h
  by_cases h1:-(n:Int) <= i
  ·rw [if_pos h1] at h
   have e:(i + n).toNat=j:=bN h
   exact ⟨by rw [seqIndex_neg (by omega) h1,e],by omega,h1,by omega⟩
  ·rw [if_neg h1] at h;cases h
theorem zaj {α:Type} {xs:List α} {i:Int} {v:α} (h:atI xs i=some v):∃ j,seqIndex? i xs.length=some j/\xs[j]?=some v/\j < xs.length/\-(xs.length:Int) <= i/\i < xs.length:=by
 unfold atI at h
 cases e:ixN xs.length i with
 | none=>rw [e] at h;cases h
 | some j=>
  rw [e] at h
  obtain ⟨h1,h2,h3,h4⟩:=zdu e
  exact ⟨j,h1,h,h2,h3,h4⟩
theorem atI_nat {α:Type} {xs:List α} {j:Nat} {v:α} (h:xs[j]?=some v):atI xs (j:Int)=some v:=by
 have hj:j < xs.length:=(ao.mp h).1
 have e:ixN xs.length (j:Int)=some j:=by
  unfold ixN
  rw [if_pos (by omega),if_pos (by omega)];simp
 unfold atI;rw [e];exact h
def zd7 (b:aK):Prop:=∀ o i,subscripted b false o i=operate [o,i] (getItem o i)
def IxR (X:Cx) (r:R2):Prop:=
 ∀ (value slice:aK) (pins:List (af × Obj)) (s:ai) (σ:St) (H:Hp) (x y:V) (v u:ae) (Q:VK),Inv X pins σ H s->RelV x v->RelV y u->r x y H Q->
  subscripted slice false v u=operate [v,u] (getItem v u)->ar (ay X.prog X.w) X.A (subscriptTail value slice v u) (EP X pins σ Q) X.xe s
def MtR (X:Cx) (id:String) (r:V->List V->Hp->VK->Prop):Prop:=
 ∀ (pins:List (af × Obj)) (s:ai) (σ:St) (H:Hp) (x:V) (xs:List V) (v:ae) (us:List ae) (Q:VK),Inv X pins σ H s->RelV x v->ma xs us->r x xs H Q->
  ar (ay X.prog X.w) X.A (call (.builtin id) (v :: us)) (EP X pins σ Q) X.xe s
section
variable {X:Cx} {a b:aK} {ta tb:TE} {pos:Pos}
theorem IxR.or (h:IxR X r) (h':IxR X r'):IxR X (fun x y H Q=>r x y H Q \/ r' x y H Q):=by
 intro value slice pins s σ H x y v u Q I rx ry q hs
 rcases q with q|q
 ·exact h value slice pins s σ H x y v u Q I rx ry q hs
 ·exact h' value slice pins s σ H x y v u Q I rx ry q hs
theorem zm9 (hr:IxR X r) (ha:PE X a ta) (hb:PE X b tb) (hs:zd7 b):PE X (.Subscript a b pos) (tOp r ta tb):=by
 intro pins s σ H Q I h
 exact jQ (zmb ha hb I h fun v u s2 x y H2 I2 rx ry q=>hr a b pins s2 σ H2 x y v u Q I2 rx ry q (hs _ _))
def zmv (K:aj):R2:=fun x y H Q=>∃ p xs i v,x=.ref p/\y=.int i/\SqL K H p xs/\atI xs i=some v/\Q v H
def zmi (K:aj):R2:=fun x y H Q=>∃ p xs i v,x=.ref p/\y=.int i/\SqT K H p xs/\atI xs i=some v/\Q v H
def zml:R2:=fun x y H Q=>∃ z i c,x=.str z/\y=.int i/\z.length <= sizeLine/\atI z.cps.toList i=some c/\Q (.str ⟨#[c]⟩) H
theorem mR:IxR X (zmv X.K):=by
 intro value slice pins s σ H x y v u Q I rx ry h hs
 obtain ⟨p,xs,i,z,rfl,rfl,hq,he,q⟩:=h
 cases rx
 obtain ⟨t,rfl⟩:=ry
 obtain ⟨its,r,pl,hz⟩:=I.list hq
 obtain ⟨j,h1,h2,h3,h4,h5⟩:=zaj he
 obtain ⟨w,ew,rw'⟩:=r.get h2
 have hl:=r.length
 have hn:=z7u
 have fin:EP X pins σ Q w s:=⟨z,H,I,rw',q⟩
 by_cases h0:0 <= i
 ·have hj:i.toNat=j:=by
   rw [lb h0 h5] at h1
   exact bN h1
  exact item_listR pl.isList h0 (by omega) (by rw [hj];simpa using ew) fin hs
 ·have hj:(i + (its.toArray.size:Int)).toNat=j:=by
   rw [seqIndex_neg (by omega) h4] at h1
   rw [aA,<- hl]
   exact bN h1
  exact jo (x:=w) pl.isList.typeIs slot_list_getitem.lookup
   (wpAny_getItem_list_neg (Q:=fun r s'=>r=w/\EP X pins σ Q r s') pl.isList (by omega) (by rw [aA] <;> omega) (by omega) (by rw [hj];simpa using ew) ⟨rfl,fin⟩) hs
theorem mT:IxR X (zmi X.K):=by
 intro value slice pins s σ H x y v u Q I rx ry h hs
 obtain ⟨p,xs,i,z,rfl,rfl,hq,he,q⟩:=h
 cases rx
 obtain ⟨t,rfl⟩:=ry
 obtain ⟨its,r,pl,hz⟩:=I.tuple hq
 obtain ⟨j,h1,h2,h3,h4,h5⟩:=zaj he
 obtain ⟨w,ew,rw'⟩:=r.get h2
 have hl:=r.length
 have hn:=z7u
 have fin:EP X pins σ Q w s:=⟨z,H,I,rw',q⟩
 exact jo (x:=w) pl.typeIs bu.lookup
  (getItem_tuple (j:=j) (Q:=fun r s'=>r=w/\EP X pins σ Q r s') pl (by omega) (by omega) (by rw [aA,<- hl];exact h1) (by simpa using ew) ⟨rfl,fin⟩) hs
theorem zkr:IxR X zml:=by
 intro value slice pins s σ H x y v u Q I rx ry h hs
 obtain ⟨z,i,c,rfl,rfl,hz,he,q⟩:=h
 obtain ⟨t,rfl⟩:=rx
 obtain ⟨t',rfl⟩:=ry
 obtain ⟨j,h1,h2,h3,h4,h5⟩:=zaj he
 have hl:z.cps.toList.length=z.length:=by simp [Str.length]
 rw [hl] at h1 h4 h5
 have hn:=z7u
 exact tail_any (jR s z t) slot_str_getitem.lookup (getItem_str (c:=c) (by
  have e1:decide (i < -(2 ^ 63:Int))=false:=decide_eq_false (by omega)
  have e2:decide (i ≥ 2 ^ 63)=false:=decide_eq_false (by omega)
  rw [e1,e2,Bool.or_false]) (by rw [h1];simpa using h2) ⟨.str ⟨#[c]⟩,H,I.tok _,⟨_,rfl⟩,q⟩) hs
def rIx (K:aj):R2:=fun x y H Q=>zmv K x y H Q \/ zmi K x y H Q \/ zml x y H Q
theorem zk0:IxR X (rIx X.K):=mR.or (mT.or zkr)
theorem zbp (its:List ae) (n j:Nat) (u:ae):dB (·.setIfInBounds j u) { cls:=.type "list",data:=.seq its.toArray n } = { cls:=.type "list",data:=.seq (its.set j u).toArray n }:=by
 simp [dB]
theorem Inv.lst {pins:List (af × Obj)} {σ:St} {H:Hp} {s:ai} {p:af} {xs:List V} (I:Inv X pins σ H s) (h:H p=some (.lst xs)):
  ∃ (its:List ae) (n:Nat),ma xs its/\s.heap.get? p=some { cls:=.type "list",data:=.seq its.toArray n }/\xs.length <= sizeLine:=by
 obtain ⟨z,its,n,r,e⟩:=I.hok p _ h
 exact ⟨its,n,r,e,z⟩
theorem Inv.lstUpd {pins:List (af × Obj)} {σ:St} {H:Hp} {s:ai} {p:af} {xs ys:List V} {its its':List ae} {n n':Nat} {f:Obj->Obj} (I:Inv X pins σ H s) (h:H p=some (.lst xs))
  (ho:s.heap.get? p=some { cls:=.type "list",data:=.seq its.toArray n }) (hf:f { cls:=.type "list",data:=.seq its.toArray n } = { cls:=.type "list",data:=.seq its'.toArray n' }) (r:ma ys its') (hz:ys.length <= sizeLine) (t:Nat) (ht:0 < t:=by first|exact cB _|exact Inv.tk ‹_›|assumption|omega):
  Inv X pins σ (upd H p (.lst ys)) { s with heap:=s.heap.update p f,toks:=t }:=by
 have e:(s.heap.update p f).get? p=some { cls:=.type "list",data:=.seq its'.toArray n' }:=by
  rw [bC f ho (by rw [hf] <;> rfl),hf]
 refine I.write (x:=p) (e:=p) (by rw [h];trivial) (.inl rfl) (fun b u hb q=>(bq _ _ (bo hb)).trans q) ⟨_,e⟩ ?_
 exact ⟨hz,its',n',r,e⟩
def zm3:V->V->V->Hp->(Hp->Prop)->Prop:=fun o i v H Q=>∃ p xs k j,o=.ref p/\i=.int k/\H p=some (.lst xs)/\ixN xs.length k=some j/\Q (upd H p (.lst (xs.set j v)))
theorem zeN:zmx X zm3:=by
 intro pins s σ H o i v ov iv u Q I ro ri rv h
 obtain ⟨p,xs,k,j,rfl,rfl,hp,hj,q⟩:=h
 cases ro
 obtain ⟨t,rfl⟩:=ri
 obtain ⟨its,n,r,ho,hz⟩:=I.lst hp
 obtain ⟨h1,h2,h3,h4⟩:=zdu hj
 have hl:=r.length
 have hn:=z7u
 have I':Inv X pins σ (upd H p (.lst (xs.set j v))) { s with heap:=s.heap.update p (dB (·.setIfInBounds j u)) }:=
  I.lstUpd hp ho (zbp its n j u) (r.set rv j) (by rw [bT];exact hz) s.toks
 by_cases h0:0 <= k
 ·have hk:k.toNat=j:=by
   rw [lb h0 h4] at h1
   exact bN h1
  exact PySem.W.ki_setAt ho h0 (by omega) (by rw [aA,<- hl];exact h4) (by rw [hk];exact ⟨_,I',q⟩)
 ·have hk:(k + (its.toArray.size:Int)).toNat=j:=by
   rw [seqIndex_neg (by omega) h3] at h1
   rw [aA,<- hl]
   exact bN h1
  exact PySem.W.ki_setBack ho (by omega) (by rw [aA,<- hl];exact h3) (by omega) (by rw [hk];exact ⟨_,I',q⟩)
theorem z8K (lo hi:Option Int) (n:Nat):(sliceBounds lo hi none n).1=((HT.sIx n 0 lo:Nat):Int)/\(sliceBounds lo hi none n).2.1=((HT.sIx n n hi:Nat):Int)/\(sliceBounds lo hi none n).2.2=1:=by
 refine ⟨?_,?_,rfl⟩
 ·cases lo with
  | none=>simp [sliceBounds,HT.sIx]
  | some i=>
   simp only [sliceBounds,HT.sIx,lj,show (1:Int) > 0 by decide,if_true]
   by_cases h:i < 0
   ·simp only [h,if_true] <;> omega
   ·simp only [h,if_false] <;> omega
 ·cases hi with
  | none=>simp [sliceBounds,HT.sIx]
  | some i=>
   simp only [sliceBounds,HT.sIx,lj,show (1:Int) > 0 by decide,if_true]
   by_cases h:i < 0
   ·simp only [h,if_true] <;> omega
   ·simp only [h,if_false] <;> omega
theorem z7L (its:List ae) (lo hi:Option Int):slicePick its.toArray lo hi none=((its.drop (HT.sIx its.length 0 lo)).take (HT.sIx its.length its.length hi - HT.sIx its.length 0 lo)).toArray:=by
 obtain ⟨h1,h2,h3⟩:=z8K lo hi its.toArray.size
 unfold slicePick
 rw [h1,h2,h3]
 simp only [sliceRange_one,pick_run,aA] <;> rfl
def zmw (K:aj):V->Option Int->Option Int->Hp->VK->Prop:=fun x lo hi H Q=>∃ a xs,x=.ref a/\SqL K H a xs/\∀ p,H p=none->Q (.ref p) (upd H p (.lst (zgb xs lo hi)))
theorem zi7:SlR X (zmw X.K):=by
 intro pins s σ H x v vl vu lo hi sl Q I rx hs pl pu h
 obtain ⟨a,xs,rfl,hx,q⟩:=h
 cases rx
 obtain ⟨its,r,ht,hz⟩:=I.list hx
 have hlen:=r.length
 refine ⟨"list",_,slot_list_getitem.lookup,ht.isList.typeIs,?_⟩
 refine wpAny_getItem_list_slice ht.isList hs pl pu .none (by simp) ?_ (by rw [aA] <;> omega)
 rw [z7L,<- hlen]
 refine ⟨.ref s.heap.objs.size,_,I.laid (t':=s.toks) (o:=.lst (zgb xs lo hi)) (fun b ob q=>ah _ q) (aB _) ?_,rfl,q _ (I.hok.fresh (aB _))⟩
 exact ⟨bb (z6J xs lo hi) hz,_,0,(r.drop (HT.sIx xs.length 0 lo)).take (HT.sIx xs.length xs.length hi - HT.sIx xs.length 0 lo),aC _ rfl⟩
theorem mj.or {f:ae} {r r':List V->Hp->VK->Prop} (h:mj X f r) (h':mj X f r'):mj X f (fun xs H Q=>r xs H Q \/ r' xs H Q):=by
 intro pins s σ H xs us Q I rs q
 rcases q with q|q
 ·exact h pins s σ H xs us Q I rs q
 ·exact h' pins s σ H xs us Q I rs q
theorem z8Z:mj X (.type "list") (fun xs H Q=>∃ p ys,xs=[.ref p]/\(SqL X.K H p ys \/ SqT X.K H p ys)/\∀ l,H l=none->Q (.ref l) (upd H l (.lst ys))):=by
 intro pins s σ H xs us Q I r h
 obtain ⟨p,ys,rfl,hq,q⟩:=h
 obtain ⟨u,rfl,rx⟩:=z4R r
 cases rx
 have fin:∀ (its:List ae),ma ys its->ys.length <= sizeLine->∀ (h':aP) (c':Nat),(∀ b o',s.heap.get? b=some o'->h'.get? b=some o')->
   h'.get? s.heap.objs.size=some { cls:=.type "list",dict:=none,data:=.seq its.toArray c',slots:=#[] }->EP X pins σ Q (.ref s.heap.objs.size) { s with heap:=h' }:=fun its r' hz h' c' kp e=>
  ⟨.ref s.heap.objs.size,_,I.laid (t':=s.toks) kp (aB _) (show mi X.prog X.w _ h' _ (.lst ys) from ⟨hz,its,c',r',e⟩),rfl,q _ (I.hok.fresh (aB _))⟩
 rcases hq with hq|hq
 ·obtain ⟨its,r',pl,hz⟩:=I.list hq
  have hlen:=r'.length
  obtain ⟨o,ho,hc,n,hd⟩:=pl.isList
  exact call_list_seq p (.inl rfl) ho hc hd (fun h' c' kp e=>fin its r' hz h' c' kp e) (by simp only [aA] <;> omega)
 ·obtain ⟨its,r',pl,hz⟩:=I.tuple hq
  have hlen:=r'.length
  obtain ⟨o,ho,hc,n,hd⟩:=pl
  exact call_list_seq p (.inr rfl) ho hc hd (fun h' c' kp e=>fin its r' hz h' c' kp e) (by simp only [aA] <;> omega)
theorem z7S:mj X (.type "tuple") (fun xs H Q=>∃ p ys,xs=[.ref p]/\((SqL X.K H p ys/\∀ l,H l=none->Q (.ref l) (upd H l (.tup ys))) \/ (SqT X.K H p ys/\Q (.ref p) H))):=by
 intro pins s σ H xs us Q I r h
 obtain ⟨p,ys,rfl,h⟩:=h
 obtain ⟨u,rfl,rx⟩:=z4R r
 cases rx
 rcases h with ⟨hq,q⟩|⟨hq,q⟩
 ·obtain ⟨its,r',pl,hz⟩:=I.list hq
  have hlen:=r'.length
  refine call_tuple_list pl.isList (fun h' kp=>?_) (by simp only [aA] <;> omega)
  have I1:Inv X pins σ H { s with heap:=h' }:=I.kept (t':=s.toks) kp
  have I2:Inv X pins σ (upd H h'.objs.size (.tup ys)) { s with heap:=h'.push { cls:=.type "tuple",data:=.seq its.toArray } }:=
   I1.laid (t':=s.toks) (fun b o e=>ah _ e) (aB _) (show mi X.prog X.w _ _ _ (.tup ys) from ⟨hz,its,r',mw.new _ _⟩)
  exact ⟨.ref h'.objs.size,_,I2,rfl,q _ (I1.hok.fresh (aB _))⟩
 ·obtain ⟨its,r',pl,hz⟩:=I.tuple hq
  exact call_tuple_same pl ⟨.ref p,H,I,rfl,q⟩
def tyV (K:aj) (T:String) (x:V) (H:Hp):Prop:=match x with
 | .str _=>T = "str"
 | .int _=>T = "int"
 | .ref p=>(T = "list"/\∃ xs,SqL K H p xs) \/ (T = "tuple"/\∃ o,K.lookup p=some o/\o.cls=.type "tuple"/\o.dict=none) \/
   (T = "dict"/\((∃ kvs,H p=some (.dK kvs)) \/ ∃ kvs,H p=some (.dT kvs))) \/ (T = "set"/\∃ S n,H p=some (.set S n))
 | _=>False
theorem zjk (I:Inv X pins σ H s) (r:RelV x v) (ty:tyV X.K T x H):
  s.TypeIs v T/\∀ a,v=.ref a->∃ ob,s.heap.get? a=some ob/\ob.dict=none:=by
 cases x with
 | str z=>
  obtain ⟨t,rfl⟩:=r
  cases (show T = "str" from ty)
  exact ⟨jR s z t,fun _ e=>nomatch e⟩
 | int i=>
  obtain ⟨t,rfl⟩:=r
  cases (show T = "int" from ty)
  exact ⟨fT s i t,fun _ e=>nomatch e⟩
 | ref p=>
  cases r
  rcases ty with ⟨rfl,xs,hq⟩|⟨rfl,o,hk,hc,hd⟩|⟨rfl,hk⟩|⟨rfl,S,n,hk⟩
  ·obtain ⟨its,_,pl,_⟩:=I.list hq
   refine ⟨pl.isList.typeIs,fun a e=>?_⟩
   cases e
   obtain ⟨o,n,e,c,hd,_⟩:=pl
   exact ⟨o,e,hd⟩
  ·refine ⟨⟨o,I.kIn p o hk,hc⟩,fun a e=>?_⟩
   cases e
   exact ⟨o,I.kIn _ o hk,hd⟩
  ·have z:∃ o,s.heap.get? p=some o/\o.ExactDict:=by
    rcases hk with ⟨kvs,hk⟩|⟨kvs,hk⟩
    ·obtain ⟨_,_,_,_,o,_,_,e,ex,_⟩:=I.hok p _ hk
     exact ⟨o,e,ex⟩
    ·obtain ⟨_,_,_,_,o,_,_,e,ex,_⟩:=I.hok p _ hk
     exact ⟨o,e,ex⟩
   obtain ⟨o,e,ex⟩:=z
   refine ⟨⟨o,e,ex.1⟩,fun a e2=>?_⟩
   cases e2
   exact ⟨o,e,ex.2.1⟩
  ·obtain ⟨o,_,_,_,e,ex,_⟩:=I.hok p _ hk
   refine ⟨⟨o,e,ex.1⟩,fun a e2=>?_⟩
   cases e2
   exact ⟨o,e,ex.2.1⟩
 | _=>exact ak ty
def tBM (K:aj) (T:String) (r:V->List V->Hp->VK->Prop) (to:TE) (t:TA):TE:=fun σ H Q=>to σ H fun x H1=>tyV K T x H1/\t σ H1 fun xs H2=>r x xs H2 Q
variable {o e:aK} {es:List aK} {to:TE} {t:TA} {name:Str} {apos cpos:Pos} {T id:String} {r:V->List V->Hp->VK->Prop}
theorem z91 (pa:PlainAttrs T) (slot:Slot T name id) (hty:typeOf (.builtin id)=pure (.type "method_descriptor")) (hm:MtR X id r) (ho:PE X o to) (ha:PA X (e :: es) t)
  (hbase:attributeBase o name X.env (eval o X.env)=eval o X.env:=by rfl)
  (hfew:((backTo cpos (aD (e :: es) X.env)).all (fun x=>!x.1) && (backToKw cpos (keywordEach [] X.env)).all (fun x=>x.1.isSome)
   && decide ((e :: es).length + ([]:List eG).length + (if ([]:List eG).isEmpty then 0 else 1) < 30))=true:=by rfl)
  (hline:(apos.endLine == cpos.line)=true:=by rfl) (hs:aD (e :: es) X.env=(false,eval e X.env) :: aD es X.env:=by rfl) (hplain:(backTo cpos (aD es X.env)).any (·.1)=false:=by rfl):
  PE X (.Call (.Attribute o name apos) (e :: es) [] cpos) (tBM X.K T r to t):=by
 intro pins s σ H Q I h
 refine jp hbase hfew hline rfl (thn (ho pins s σ H _ I h) fun v s1 ⟨x,H1,I1,r1,ty,q1⟩=>?_)
 obtain ⟨h1,h2⟩:=zjk I1 r1 ty
 refine ⟨T,id,pa,slot,hty,h1,h2,?_⟩
 have hA:=ha cpos pins s1 σ H1 _ I1 q1
 rw [hs] at hA ⊢
 refine jq (by show (false || (backTo cpos (aD es X.env)).any (·.1))=false;rw [hplain] <;> rfl) (gf ?_)
 exact thn hA fun us s2 ⟨vs,H2,I2,r2,q2⟩=>hm pins s2 σ H2 x vs v us Q I2 r1 r2 q2
end
def MtM (X:Cx) (id:String) (r:V->List V->Hp->VK->Prop):Prop:=
 ∀ (pins:List (af × Obj)) (s:ai) (σ:St) (H:Hp) (x:V) (xs:List V) (v:ae) (us:List ae) (Q:VK),Inv X pins σ H s->RelV x v->ma xs us->r x xs H Q->
  ar (ay X.prog X.w) X.A (call (.builtin id) (v :: us)) (EP X pins σ Q) X.xe s
theorem ma.one:∀ {x:V} {us:List ae},ma [x] us->∃ u,us=[u]/\RelV x u
 | _,_,.cons r .nil=>⟨_,rfl,r⟩
theorem ma.eraseIdx:∀ {xs:List V} {us:List ae} (i:Nat),ma xs us->ma (xs.eraseIdx i) (us.eraseIdx i)
 | _,_,_,.nil=>.nil
 | _,_,0,.cons _ t=>t
 | _,_,i + 1,.cons r t=>.cons r (ma.eraseIdx i t)
theorem z8A {α:Type}:∀ (l:List α) (i:Nat),(l.eraseIdx i).length <= l.length
 | [],_=>aB _
 | _ :: _,0=>dQ _
 | _ :: r,i + 1=>Nat.succ_le_succ (z8A r i)
section
variable {X:Cx} {pins:List (af × Obj)} {σ:St} {H:Hp} {s:ai} {l:af} {xs ys:List V}
theorem Inv.lset {its its':List ae} {n:Nat} {f:Array ae->Array ae} {t':Nat} (I:Inv X pins σ H s) (hH:H l=some (.lst xs))
  (e:s.heap.get? l=some { cls:=.type "list",data:=.seq its.toArray n }) (hf:f its.toArray=its'.toArray) (hv:ma ys its') (hz:ys.length <= sizeLine) (ht:0 < t':=by first|exact cB _|exact Inv.tk ‹_›|assumption|omega):
  Inv X pins σ (upd H l (.lst ys)) { s with heap:=s.heap.update l (dB f),toks:=t' }:=by
 have q:=PySem.IsL.update e f
 rw [hf] at q
 refine I.write (x:=l) (e:=l) (by rw [hH];exact trivial) (.inl rfl) (fun b' u hb hu=>(bq s.heap (dB f) (bo hb)).trans hu) ⟨_,q⟩ ?_
 exact ⟨hz,its',_,hv,q⟩
theorem Inv.lnew (I:Inv X pins σ H s) (hv:ma ys its) (hz:ys.length <= sizeLine) (ht:0 < t':=by first|exact cB _|exact Inv.tk ‹_›|assumption|omega):
  Inv X pins σ (upd H s.heap.objs.size (.lst ys)) { s with heap:=s.heap.push { cls:=.type "list",data:=.seq its.toArray },toks:=t' }:=
 I.laid (fun _ _ q=>ah _ q) (aB _) ⟨hz,its,0,hv,aC _ rfl⟩
theorem Inv.fresh (I:Inv X pins σ H s):H s.heap.objs.size=none:=I.hok.fresh (aB _)
theorem Inv.lstM (I:Inv X pins σ H s) (hH:H l=some (.lst xs)):xs.length <= sizeLine/\∃ (its:List ae) (n:Nat),ma xs its/\xs.length=its.length/\s.heap.get? l=some { cls:=.type "list",data:=.seq its.toArray n }:=by
 obtain ⟨z,its,n,r,e⟩:=I.hok l _ hH
 exact ⟨z,its,n,r,r.length,e⟩
theorem zf2 {n:Nat} (h:n <= sizeLine):cY n=false:=by
 unfold cY
 exact decide_eq_false (by omega)
end
section
variable {X:Cx}
def z6F:V->List V->Hp->VK->Prop:=fun x vs H Q=>∃ l xs y,x=.ref l/\vs=[y]/\H l=some (.lst xs)/\xs.length < sizeLine/\Q .non (upd H l (.lst (xs ++ [y])))
theorem z3y:MtM X "list.append" z6F:=by
 intro pins s σ H x vs v us Q I rx rv h
 obtain ⟨l,xs,y,rfl,rfl,hH,hz,q⟩:=h
 cases rx
 obtain ⟨u,rfl,ru⟩:=rv.one
 obtain ⟨z,its,n,r,hl,e⟩:=I.lstM hH
 refine eV c9 ⟨_,e,rfl⟩ F.entry_list_append (F.args_list_append_2 _ _) (PySem.list_append l its.toArray n u (by rw [aA];omega)) ⟨e,?_⟩
 refine ⟨.non,_,I.lset (its':=its ++ [u]) hH e (by simp) (r.append (.cons ru .nil)) ?_,rfl,q⟩
 rw [aE,d7]
 omega
def zjf:V->List V->Hp->VK->Prop:=fun x vs H Q=>∃ l xs i k y,x=.ref l/\vs=[.int i]/\H l=some (.lst xs)/\-(2 ^ 63) <= i/\i < 2 ^ 63/\seqIndex? i xs.length=some k/\xs[k]?=some y/\Q y (upd H l (.lst (xs.eraseIdx k)))
theorem zez:MtM X "list.pop" zjf:=by
 intro pins s σ H x vs v us Q I rx rv h
 obtain ⟨l,xs,i,k,y,rfl,rfl,hH,h1,h2,hk,hy,q⟩:=h
 cases rx
 obtain ⟨u,rfl,ru⟩:=rv.one
 obtain ⟨t,rfl⟩:=ru
 obtain ⟨z,its,n,r,hl,e⟩:=I.lstM hH
 obtain ⟨w,hw,rw'⟩:=r.get hy
 refine eV ky ⟨_,e,rfl⟩ F.entry_list_pop (F.args_list_pop_2 _ _)
  (MeetsSeq.list_pop_at l its.toArray n i t k w (fitsIndex_both h1 h2) (by rw [aA,<- hl];exact hk) (by rw [<- dm];exact hw) (by rw [aA];omega)) ⟨e,?_⟩
 refine ⟨y,_,I.lset (its':=its.eraseIdx k) hH e ?_ (r.eraseIdx k) ?_,rw',q⟩
 ·show its.toArray.eraseIdxIfInBounds k=(its.eraseIdx k).toArray
  rw [List.eraseIdxIfInBounds_toArray]
 ·have:=z8A xs k
  omega
end
section
end
end L2
namespace Att
open PySem PySem.W PySem.Calls PyProof.Rows
theorem z6h:∀ (ns:List Int) (vs:List ae),WellAll P h vs (ns.map lJ)->kO vs ns:=by
 intro ns
 induction ns with
 | nil=>
  intro vs w
  rw [gK] at w
  cases w
  exact .nil
 | cons n ns ih=>
  intro vs w
  rw [bM] at w
  cases w with
  | cons a b=>
   cases a
   exact .cons _ _ (ih _ b)
theorem zdr {l:kz} {n:Nat} (hn:l.most=some n) {P:gE} {h:aP} {args:List WData} {vals:List ae}
  (hpre:l.row.toRowW.claim.pre args=true) (hwl:WellAll P h vals args):
  ∃ a vs ns,vals=[cP a]/\args=[WData.list (ns.map lJ)]/\h.get? a=some { cls:=.type "list",data:=.seq vs.toArray }/\kO vs ns/\ns.length <= n:=by
 have hsh:WShape.hasAll [] args [.list .int]=true:=(pre_splitW hpre).1
 have hc:l.pre.holds [] { args:=args } = true:=(pre_splitW hpre).2
 obtain ⟨d,r,rfl,h1,h2⟩:=hasAllW_cons hsh
 obtain rfl:=hasAllW_nil h2
 obtain ⟨xs,rfl,h3⟩:=hasW_list h1
 obtain ⟨ns,rfl⟩:=items_int h3
 have hlen:ns.length <= n:=by
  unfold OpenLaw.pre at hc
  have h4:(WTm.not (.lt (.lit (.int (n:Int))) (.len (.arg 0)))).holds [] { args:=[.list (ns.map .int)] } = true:=by
   have h4:=(holds_andW hc).1
   rw [hn] at h4
   exact h4
  have h5:=condW_of h4 (w_not (w_lt w_lit (w_len_list (w_arg rfl))))
  rw [az] at h5
  refine Nat.le_of_not_lt fun q=>?_
  have q':(n:Int) < ((ns.length:Nat):Int):=by omega
  first
   | (rw [decide_eq_true q'] at h5;exact absurd h5 (by decide))
   | (simp at h5;omega)
 cases hwl with
 | cons w1 w2=>
  cases w2
  cases w1 with
  | list ho hall=>exact ⟨_,_,ns,rfl,rfl,ho,z6h ns _ hall,hlen⟩
theorem ze9 (l:kz) (args:List WData):l.row.toRowW.claim.post args (.bool true) args=true:=
 postW_of (r:=l.row.toRowW) (X:=(true == true))
  (show WShape.has [] (.bool true) .bool=true by first|rfl|decide|simp [WShape.has,WShape.arms,WShape.armsAll])
  (show (WTm.eq .res (.lit (.bool true))).value [] { args:=args,res:=some (.bool true),after:=args } = some (.bool (true == true)) from w_eq_bool (w_res rfl) w_lit) rfl
theorem z7y:∀ ns:List Int,j5 (ns.map iB)=ns.map lJ
 | []=>by simp [j5]
 | n :: ns=>by simp only [bM,j5,kA];rw [z7y ns]
theorem attach_call {l:kz} {n:Nat} {q:aJ} {loose:List Str} {XP:(Str->Option ae)->aP->Prop} {YP:aR->aP->Prop} {d:DefRec} {α:Type} {Yf:ai->α} {Ya:aR->α}
  (hn:l.most=some n) (hdf:d.params.defaults=[]) (hYf:∀ w s,Yf s=Ya w->YP w s.heap) (hYk:∀ w h h',YP w h->(∀ b o,h.get? b=some o->h'.get? b=some o)->YP w h')
  (call:∀ (w:aR) (s₀ s₁:ai) (mg mb:Str->Option ae) (fa:af) (o:Obj) (pm cd doc:ae) (a:af) (vs:List ae) (ns:List Int),
   Ground q loose [] XP w s₀ mg mb s₁.heap->YP w s₁.heap->
   s₁.heap.get? fa=some o->o.data=.func (docDef d.name d.params d.body d.scope pm cd doc)->s₁.heap.CodeRec cd d.name->mg d.name=some (.ref fa)->
   s₁.heap.get? a=some { cls:=.type "list",data:=.seq vs.toArray }->kO vs ns->ns.length <= n->s₁.gens = #[]->0 < s₁.toks->
   codeAny (ay l.prog w) callerA (.call (.ref fa) ⟨[.ref a],[]⟩) (fun r s'=>r=.ok (.ret (.bool true))/\OldK s₁.heap s'.heap/\s'.os=s₁.os/\fi s'.gens) s₁):
  WalkX q loose XP (fun s=>(Yf s,decide (0 < s.toks))) (fun w=>(Ya w,true)) l.row.toRowW d [] (fun f vs=>PySem.call f vs):=by
 intro w s₀ s₁ mg mb G Y fa o pm cd doc dV kV ho hd hcd hD hmg hg args vals as L hpre hlay hrd hwl hlo
 obtain rfl:dV=.none:=Dflts.none hD hdf
 obtain rfl:kV=.none:=Dflts.noKw hD
 have Y1:Yf s₀=Ya w:=congrArg Prod.fst Y
 have Y2:0 < s₀.toks:=of_decide_eq_true (congrArg Prod.snd Y)
 obtain ⟨a,vs,ns,rfl,rfl,hobj,hints,hlen⟩:=zdr hn hpre hwl
 have L':Laid l.row.toRowW.records w s₀ s₁ [kA (da (ns.map iB))] [.ref a] as:=by
  rw [kA,z7y];exact L
 have htk:0 < s₁.toks:=aN Y2 (PySem.W.X.script_toks L' rfl)
 refine enter_call (dU (call w s₀ s₁ mg mb fa o pm cd doc a vs ns G (hYk _ _ _ (hYf w s₀ Y1) L.keeps) ho (fd_plain hd) hcd hmg hobj hints hlen hg htk) fun r s' hq=>?_)
 obtain ⟨rfl,h2,h3,h4⟩:=hq
 exact ⟨.inl ⟨.bool true,.bool true,[],rfl,fun _=>rfl,.bool true,ze9 l _,fun _=>⟨f7,fun _ hm=>(nomatch hm)⟩⟩,h2,h3,h4⟩
section
end
end Att
namespace L2
open PySem PySem.Spec PyProof.Rows
theorem z8W:∀ {vs:List ae} {ns:List Int},kO vs ns->ma (ns.map V.int) vs
 | _,_,.nil=>.nil
 | _,_,.cons n t h=>.cons ⟨t,rfl⟩ (z8W h)
def z2I (s:cu):dX:=match s with
 | .FunctionDef _ a _ _ _ _ _ _ _ _=>a
 | _=>{ posonlyargs:=[],args:=[],vararg:=none,kwonlyargs:=[],kw_defaults:=[],kwarg:=none,defaults:=[] }
def z1O (s:cu):List cu:=match s with
 | .FunctionDef _ _ b _ _ _ _ _ _ _=>b
 | _=>[]
def z0V (s:cu):b9:=match s with
 | .FunctionDef _ _ _ _ _ _ sc _ _ _=>sc
 | _=>{ kind:=.function,names:=[],isGenerator:=false,isCoroutine:=false }
abbrev CX0:CXT:=fun _ _ _ _ _ _=>False
abbrev E0:XK:=fun _ _ _=>False
structure Fun (K:aj) (x qual:Str) (st:cu) (f:af) (fd:cX):Prop where
 ex:∃ (oc:ae) (od:Option af) (kV doc pm:ae) (an:Option af) (cdv ct:ae) (osl:Array (Option ae)),
  fd=bA x qual (z2I st) (z1O st) (z0V st) .none kV doc pm an cdv ct/\K.lookup f=some ⟨oc,od,.func fd,osl⟩/\dk K cdv qual=true
 kp:cC K (.ref f)=true
section
variable {P:aJ} {w:aR} {K:aj} {mg:Str->Option ae} {base:aP}
theorem Fun.ok {x qual:Str} {st:cu} {f:af} {fd:cX} {N ps:List Str} {k:Nat} {sp:Sp} (F:Fun K x qual st f fd) (S:z13 N ps (z0V st)) (len:∀ vs H Q E,sp vs H Q E->vs.length=ps.length)
  (hbody:∀ (cdv:ae) (A:ba) (outer:List Env) (s:ai) (H:Hp) (vs:List V) (Q:VK) (E:XK),me k (A.deeper (envOfC qual (z0V st) s.heap.objs.size f cdv))->sp vs H Q E->
   ∃ t,PSs (zeE CX0 P w K mg base N qual (z0V st) f cdv A outer s H E).nox (z1O st) t/\t { nx:=fun _ H'=>Q .non H',rt:=Q } (start N vs) H):mq P w K mg base CX0 (k + 1) f fd ps sp:=by
 obtain ⟨oc,od,kV,doc,pm,an,cdv,ct,osl,rfl,lk,hcd⟩:=F.ex
 refine z1d lk hcd S len fun A outer s H vs Q E hr hsp=>?_
 obtain ⟨t,h,q⟩:=hbody cdv A outer s H vs Q E hr hsp
 exact ⟨t,h.nox,q⟩
theorem Fun.binds {x qual:Str} {st:cu} {f:af} {fd:cX} {ps:List Str} (F:Fun K x qual st f fd)
  (h:∀ (kV doc pm:ae) (an:Option af) (cdv ct:ae) (us:List ae),us.length=ps.length->bindArgs (bA x qual (z2I st) (z1O st) (z0V st) .none kV doc pm an cdv ct) ⟨us,[]⟩=pure (ps.zip us)):Binds K fd ps []:=by
 obtain ⟨oc,od,kV,doc,pm,an,cdv,ct,osl,rfl,lk,hcd⟩:=F.ex
 exact .all (h kV doc pm an cdv ct)
theorem zgn {x qual:Str} {st:cu} {f:af} {oc:ae} {od an:Option af} {osl:Array (Option ae)} {kV doc pm cdv ct:ae} (l:K.lookup f=some ⟨oc,od,.func (bA x qual (z2I st) (z1O st) (z0V st) .none kV doc pm an cdv ct),osl⟩)
  (c:dk K cdv qual=true) (k:cC K (.ref f)=true):Fun K x qual st f (bA x qual (z2I st) (z1O st) (z0V st) .none kV doc pm an cdv ct):=⟨⟨oc,od,kV,doc,pm,an,cdv,ct,osl,rfl,l,c⟩,k⟩
end
theorem zm1 (hr:me k A):A.units + 1 < cLine:=fM (Nat.add_le_add_left (by decide:1 <= 64) _) hr.units
section
variable {X:Cx}
theorem pv (i:Nat) (hN:X.N[i]?=some x:=by rfl) (hv:Vis X.env.scope x:=by first|exact Or.inl rfl|exact Or.inr (Or.inl rfl)|exact Or.inr (Or.inr rfl)) (hd:(x == ("__debug__":Str))=false:=by decide)
  (hcd:(x == ("__classdict__":Str))=false:=by decide):PE X (.Name x pos) (ziT i):=z5D hN hv hd hcd
end
def my (H H':Hp):Prop:=∀ b o,H b=some o->H' b=some o
theorem my.refl (H:Hp):my H H:=fun _ _ h=>h
theorem my.trans (a:my H H1) (b:my H1 H2):my H H2:=fun c o h=>b c o (a c o h)
theorem my.free {H H':Hp} (e:my H H') {l:af} (h:H' l=ie):H l=ie:=by
 cases q:H l with
 | none=>rfl
 | some o=>
  rw [e l o q] at h
  cases h
theorem my.seq {K:aj} {H H':Hp} {a:af} {xs:List V} (e:my H H') (h:SqL K H a xs):SqL K H' a xs:=by
 rcases h with (h|⟨o,h⟩)|h
 ·exact .inl (.inl (e _ _ h))
 ·exact .inl (.inr ⟨o,e _ _ h⟩)
 ·exact .inr h
section
variable {κ:Type} [DecidableEq κ]
def za4 (kvs:List (κ × V)) (k:κ):Option V:=(kvs.find? fun kv=>decide (kv.1=k)).map (·.2)
def zc0 (kvs:List (κ × V)) (k:κ) (v:V):List (κ × V):=
 if (kvs.any fun kv=>decide (kv.1=k))=true then kvs.map (fun kv=>if kv.1=k then (kv.1,v) else kv) else kvs ++ [(k,v)]
theorem z8l {p:κ × V} {r:List (κ × V)} {k:κ} (e:p.1=k):za4 (p :: r) k=some p.2:=by simp [za4,dD,e]
theorem z6a {p:κ × V} {r:List (κ × V)} {k:κ} (e:¬ p.1=k):za4 (p :: r) k=za4 r k:=by simp [za4,dD,e]
theorem zaG (k:κ):∀ kvs:List (κ × V),(kvs.any fun kv=>decide (kv.1=k))=(za4 kvs k).isSome
 | []=>rfl
 | p :: r=>by
  rw [gk]
  by_cases e:p.1=k
  ·simp only [z8l e,decide_eq_true e,Bool.true_or,kB]
  ·rw [z6a e,decide_eq_false e,Bool.false_or];exact zaG k r
theorem z6D (kvs:List (κ × V)) (k:κ) (v:V):(zc0 kvs k v).length <= kvs.length + 1:=by
 unfold zc0
 split
 ·rw [az];omega
 ·rw [aE,bX,fF];omega
theorem zeT {kvs:List (κ × V)} {k:κ} (v:V) (h:za4 kvs k=none):zc0 kvs k v=kvs ++ [(k,v)]:=by
 unfold zc0
 rw [zaG,h]
 exact if_neg (by decide)
theorem KV.val {kvs:List (κ × V)} {vs:List (κ × ae)} (r:KV kvs vs) (k:κ):mz (za4 kvs k) (valueAt vs k):=by
 unfold KV at r
 induction r with
 | nil=>exact dR
 | @cons p q ps qs h t ih=>
  obtain ⟨h1,h2⟩:=h
  by_cases e:p.1=k
  ·have e':q.1=k:=h1.symm.trans e
   have b:valueAt (q :: qs) k=some q.2:=by simp [valueAt,dD,e']
   rw [z8l e,b];exact h2
  ·have e':¬ q.1=k:=fun z=>e (h1.trans z)
   have b:valueAt (q :: qs) k=valueAt qs k:=by simp [valueAt,dD,e']
   rw [z6a e,b];exact ih
theorem KV.any {kvs:List (κ × V)} {vs:List (κ × ae)} (r:KV kvs vs) (k:κ):(kvs.any fun kv=>decide (kv.1=k))=vs.any fun kv=>decide (kv.1=k):=by
 unfold KV at r
 induction r with
 | nil=>rfl
 | cons h t ih=>rw [gk,gk,ih,h.1]
theorem KV.repl (r:KV kvs vs) (k:κ) (ry:RelV y u):
  KV (kvs.map fun kv=>if kv.1=k then (kv.1,y) else kv) (vs.map fun kv=>if kv.1=k then (kv.1,u) else kv):=by
 unfold KV at r ⊢
 induction r with
 | nil=>exact .nil
 | @cons p q ps qs h t ih=>
  rw [bM,bM]
  refine .cons ?_ ih
  obtain ⟨h1,h2⟩:=h
  by_cases e:p.1=k
  ·rw [if_pos e,if_pos (h1.symm.trans e)];exact ⟨h1,ry⟩
  ·rw [if_neg e,if_neg (fun z=>e (h1.trans z))];exact ⟨h1,h2⟩
theorem KV.put (r:KV kvs vs) (k:κ) (ry:RelV y u):KV (zc0 kvs k y) (stored vs k u):=by
 unfold zc0 stored
 rw [r.any k]
 by_cases e:(vs.any fun kv=>decide (kv.1=k))=true
 ·rw [if_pos e,if_pos e];exact r.repl k ry
 ·rw [if_neg e,if_neg e];exact Paired.snoc r ⟨rfl,ry⟩
theorem KV.length (r:KV kvs vs):kvs.length=vs.length:=jY r
end
theorem zeK (r:RelV (kV k) u):(z2d P w).is k u=true:=by
 cases k with
 | inl i=>obtain ⟨t,e⟩:=(show ∃ t,u=ko i t from r);subst e;exact zar P w i t
 | inr x=>obtain ⟨t,e⟩:=(show ∃ t,u=ik x t from r);subst e;exact zag P w x t
theorem z90:∀ {ks:List Key} {us:List ae},ma (ks.map kV) us->ItemsAre (z2d P w) ks us
 | [],_,r=>by rw [gK] at r;cases r;exact .nil
 | k :: ks,_,r=>by
  rw [bM] at r
  cases r with
  | cons h t=>exact .cons (zeK h) (z90 t)
abbrev KT (H:Hp):List (List Key × V)->List (List Key × af × ae)->Prop:=bi fun p q=>p.1=q.1/\H q.2.1=some (.tup (p.1.map kV))/\RelV p.2 q.2.2
theorem KT.val {H:Hp} {kvs:List (List Key × V)} {xs:List (List Key × af × ae)} (r:KT H kvs xs) (k:List Key):mz (za4 kvs k) ((atKey xs k).map (·.2)):=by
 induction r with
 | nil=>exact dR
 | @cons p q ps qs h t ih=>
  obtain ⟨h1,_,h2⟩:=h
  by_cases e:p.1=k
  ·have e':q.1=k:=h1.symm.trans e
   have b:atKey (q :: qs) k=some q.2:=by simp [atKey,dD,e']
   rw [z8l e,b];exact h2
  ·have e':¬ q.1=k:=fun z=>e (h1.trans z)
   have b:atKey (q :: qs) k=atKey qs k:=by simp [atKey,dD,e']
   rw [z6a e,b];exact ih
section
variable {P:aJ} {w:aR} {H:Hp} {h:aP} {a:af}
theorem zjq (ok:HOk P w H h) (e:Rd H a u):mi P w H h a u:=e.ok ok
theorem ziz (ok:HOk P w H h) (e:Rd H a (.dK kvs)):kvs.length <= sizeLine/\(a == sysModules)=false/\∃ vs,KV kvs vs/\h.DictOf (z2d P w) a vs:=
 show mi P w H h a (.dK kvs) from zjq ok e
theorem zjG (ok:HOk P w H h) (e:H a=some (.dK kvs)):kvs.length <= sizeLine/\(a == sysModules)=false/\∃ vs,KV kvs vs/\h.DictOf (z2d P w) a vs:=ziz ok (.inl e)
theorem zg8 (ok:HOk P w H h) (e:H a=some (.tup (ks.map kV))):(tupleKind (z2d P w)).is h ks a:=by
 obtain ⟨_,its,r,o,h1,h2,⟨n,h3⟩,_⟩:=(show mi P w H h a (.tup (ks.map kV)) from ok a _ e)
 exact ⟨o,its.toArray,n,h1,h2,h3,by simpa using z90 r⟩
theorem zkt (ok:HOk P w H h) (e:Rd H a (.dT kvs)):kvs.length <= sizeLine/\(a == sysModules)=false/\
  ∃ xs,KT H kvs xs/\h.DictOfH (tupleKind (z2d P w)) a xs:=by
 obtain ⟨z,y,xs,r,o,es,ep,h1,h2,h3,h4,h5⟩:=(show mi P w H h a (.dT kvs) from zjq ok e)
 refine ⟨z,y,xs,r,o,es,ep,h1,h2,h3,h4,fun x hx=>?_,h5⟩
 have all:∀ {l:List (List Key × V)} {m:List (List Key × af × ae)},KT H l m->∀ x ∈ m,(tupleKind (z2d P w)).is h x.1 x.2.1:=by
  intro l m q
  induction q with
  | nil=>intro x hx;exact nomatch hx
  | @cons p q ps qs hq t ih=>
   intro x hx
   rcases av.mp hx with e|hx
   ·subst e
    exact zg8 ok (by rw [<- hq.1];exact hq.2.1)
   ·exact ih x hx
 exact all r x hx
end
def zlN (H:Hp) (a:af) (y:V) (r:Option V):Prop:=
 (∃ kvs k,Rd H a (.dK kvs)/\y=kV k/\r=za4 kvs k) \/ ∃ kvs k b,Rd H a (.dT kvs)/\y=.ref b/\H b=some (.tup (k.map kV))/\r=za4 kvs k
section
variable {X:Cx} {pins:List (af × Obj)} {σ:St} {H:Hp} {s:ai} {a:af} {y v:V} {u:ae} {o:Option V} {A:ba} {E:ae->ai->Prop}
theorem Inv.big (I:Inv X pins σ H s):sysModules < s.heap.objs.size:=by
 have h:bz < s.heap.objs.size:=(I.mod.glob.keeps I.bk).lt
 exact Nat.lt_trans (by decide) h
theorem zcu (hu:A.units + 1 < cLine) (I:Inv X pins σ H s) (g:zlN H a y (some v)) (ry:RelV y u) (h:∀ w' s',Inv X pins σ H s'->RelV v w'->Q w' s'):
  ar (ay X.prog X.w) A (getItem (.ref a) u) Q E s:=by
 rcases g with ⟨kvs,k,e,ey,l⟩|⟨kvs,k,b,e,ey,eb,l⟩
 ·subst ey
  obtain ⟨z,hd,vs,rel,dd⟩:=ziz I.hok e
  obtain ⟨w',hw,rw'⟩:=mz.some_of (v:=v) (o:=valueAt vs k) (by rw [l];exact rel.val k)
  exact wpAny_getItem_of (zeK ry) dd.mapOf hw (h w' _ (I.tok _) rw')
 ·subst ey
  cases (show u=cP b from ry)
  obtain ⟨z,hd,xs,rel,dd⟩:=zkt I.hok e
  obtain ⟨w',hw,rw'⟩:=mz.some_of (v:=v) (o:=(atKey xs k).map (·.2)) (by rw [l];exact rel.val k)
  obtain ⟨p,hp,hp2⟩:=gc.mp hw
  refine wpAny_getItem_heap (tupleKind_room_in1 hu) (zg8 I.hok eb) dd hp ?_
  rw [hp2]
  exact h w' _ (I.tok _) rw'
theorem ze8 (I:Inv X pins σ H s) (mu:Mut (H a)) (hs:cr a s.heap h') (he:∃ q,h'.get? a=some q) (new:mi X.prog X.w (upd H a ob) h' a ob) (ht:0 < t':=by first|exact cB _|exact Inv.tk ‹_›|assumption|omega):
  Inv X pins σ (upd H a ob) { s with heap:=h',toks:=t' }:=
 I.write (x:=a) (e:=a) mu (.inl rfl) (fun b q hb z=>(hs.2 b hb).trans z) he new
theorem zga (z:kvs.length <= sizeLine) (hd:(a == sysModules)=false) (rel:KV kvs vs) (dd:h'.DictOf (z2d P w) a vs):
  mi P w H' h' a (.dK kvs):=⟨z,hd,vs,rel,dd⟩
end
section
end
def zlk (i:aK):Prop:=∀ ov iv,subscripted i false ov iv=operate [ov,iv] (getItem ov iv)
theorem zdS {prog:aJ} {w:aR} {A:ba} {E:ae->ai->Prop} {s:ai} {env:Env} {value slice:aK} {pos:Pos} {T id:String} {Q:ae->ai->Prop}
  (hl:typeLookup (.type T) "__getitem__" = pure (some (.builtin id))) (hs:zlk slice)
  (h:ar (ay prog w) A (eval value env) (fun o s₁=>ar (ay prog w) A (eval slice env) (fun i s₂=>s₂.TypeIs o T/\ar (ay prog w) A (getItem o i) Q E s₂) E s₁) E s):
  ar (ay prog w) A (eval (.Subscript value slice pos) env) Q E s:=by
 refine jQ (c7 h (fun o s₁ h₁=>c7 h₁ (fun i s₂ h₂=>?_) fun _ _ x=>x) fun _ _ x=>x)
 obtain ⟨hT,h₂⟩:=h₂
 unfold subscriptTail
 refine aa ?_
 rw [getitemInPython_of_ne hT.not_modules]
 refine aa (wpAny_specialOf hT hl ?_)
 have fin:ar (ay prog w) A (subscripted slice false o i) (fun r s₃=>ar (ay prog w) A (letTemporaryGo value o r >>= fun _=>pure r) Q E s₃) E s₂:=by
  rw [hs o i]
  exact wpAny_operating (c7 h₂ (fun r s₃ h₃=>aa (wpAny_letTemporaryGo (am h₃))) fun _ _ x=>x)
 first
  | exact am (aa fin)
  | exact aa (am (aa fin))
  | exact aa fin
theorem zal (I:Inv X pins σ H s) (g:zlN H a y o):s.TypeIs (.ref a) "dict":=by
 rcases g with ⟨kvs,k,e,_,_⟩|⟨kvs,k,b,e,_,_,_⟩
 ·obtain ⟨_,_,vs,_,dd⟩:=ziz I.hok e
  exact dd.typeIs
 ·obtain ⟨_,_,xs,_,dd⟩:=zkt I.hok e
  exact dd.typeIs
def zlO (td ty:TE):TE:=fun σ H Q=>td σ H fun x H1=>ty σ H1 fun y H2=>∃ a v,x=.ref a/\zlN H2 a y (some v)/\Q v H2
section
variable {X:Cx} {o i:aK} {pos:Pos} {td ty:TE}
theorem ziN (hu:X.A.units + 1 < cLine) (ho:PE X o td) (hi:PE X i ty) (hs:zlk i):PE X (.Subscript o i pos) (zlO td ty):=by
 intro pins s σ H Q I h
 refine zdS iP.lookup hs (thn (ho pins s σ H _ I h) fun u s1 ⟨x,H1,I1,rx,q1⟩=>thn (hi pins s1 σ H1 _ I1 q1) fun iv s2 ⟨y,H2,I2,ry,a,v,ex,g,q2⟩=>?_)
 subst ex
 obtain rfl:u=cP a:=rx
 exact ⟨zal I2 g,zcu hu I2 g ry fun w' s3 I3 rw'=>⟨v,H2,I3,rw',q2⟩⟩
end
theorem zbg (h:aP) (hb:sysModules < h.objs.size):mi P w H (h.push { cls:=.type "dict",data:=.dict #[] }) h.objs.size (.dK []):=
 ⟨bW _,beq_eq_false_iff_ne.mpr (bo (aX hb)),[],.nil,Heap.DictOf.new h⟩
def zjp:TE:=fun _ H Q=>∀ p,H p=none->Q (.ref p) (upd H p (.dK []))
section
variable {X:Cx} {pos:Pos}
theorem zeZ:PE X (.Dict [] [] pos) zjp:=fun pins s σ H Q I h=>
 wpAny_Dict_empty ⟨.ref s.heap.objs.size,_,I.laid (a:=s.heap.objs.size) (o:=.dK []) (t':=s.toks) (fun _ _ q=>ah _ q) (aB _) (zbg s.heap I.big),rfl,h _ (I.hok.fresh (aB _))⟩
end
def z8y:List (TE × TE)->St->Hp->(List (V × V)->Hp->Prop)->Prop
 | [],_,H,Q=>Q [] H
 | (tk,tv) :: r,σ,H,Q=>tk σ H fun x H1=>tv σ H1 fun y H2=>z8y r σ H2 fun ps H3=>Q ((x,y) :: ps) H3
abbrev VV:List (V × V)->List (ae × ae)->Prop:=bi fun p q=>RelV p.1 q.1/\RelV p.2 q.2
def PPs (X:Cx) (pos:Pos) (keys:List (Option aK)) (values:List aK) (trs:List (TE × TE)):Prop:=
 ∀ (pins:List (af × Obj)) (s:ai) (σ:St) (H:Hp) (Q:List (V × V)->Hp->Prop),Inv X pins σ H s->z8y trs σ H Q->
  ar (ay X.prog X.w) X.A (evalPairs (pairTrees keys values X.env pos)) (fun vs s'=>∃ ps H',Inv X pins σ H' s'/\VV ps vs/\Q ps H') X.xe s
theorem ziM:PPs X pos [] [] []:=fun pins s σ H Q I h=>pairTrees_nil_walk ⟨[],H,I,.nil,h⟩
theorem zff (hk:PE X k tk) (hv:PE X v tv) (hr:PPs X pos ks vs trs):
  PPs X pos (some k :: ks) (v :: vs) ((tk,tv) :: trs):=fun pins s σ H Q I h=>
 pairTrees_cons_walk (thn (hk pins s σ H _ I h) fun u s1 ⟨x,H1,I1,rx,q1⟩=>thn (hv pins s1 σ H1 _ I1 q1) fun w2 s2 ⟨y,H2,I2,ry,q2⟩=>
  thn (hr pins s2 σ H2 _ I2 q2) fun ws s3 ⟨ps,H3,I3,rel,q3⟩=>⟨(x,y) :: ps,H3,I3,.cons ⟨rx,ry⟩ rel,q3⟩)
def z4E (kvs more:List (Key × V)):List (Key × V):=more.foldl (fun acc kv=>zc0 acc kv.1 kv.2) kvs
theorem KV.merge:∀ {more:List (Key × V)} {rs:List (Key × ae)} {kvs:List (Key × V)} {vs:List (Key × ae)},KV more rs->KV kvs vs->KV (z4E kvs more) (merged vs rs):=by
 intro more rs kvs vs r
 unfold KV at r
 induction r generalizing kvs vs with
 | nil=>intro q;exact q
 | @cons p q ps qs h t ih=>
  intro r0
  have e:KV (zc0 kvs p.1 p.2) (stored vs q.1 q.2):=by
   have:=r0.put p.1 h.2
   rw [<- h.1];exact this
  exact ih e
theorem z53:∀ (more kvs:List (Key × V)),(z4E kvs more).length <= kvs.length + more.length
 | [],kvs=>by show kvs.length <= kvs.length + 0;omega
 | p :: r,kvs=>by
  have h1:=z53 r (zc0 kvs p.1 p.2)
  have h2:=z6D kvs p.1 p.2
  show (z4E (zc0 kvs p.1 p.2) r).length <= _
  rw [bX];omega
theorem z7k:∀ {kvs:List (Key × V)} {ws:List (ae × ae)},VV (kvs.map fun kv=>(kV kv.1,kv.2)) ws->∃ rs,Carries (z2d P w) ws rs/\KV kvs rs
 | [],_,r=>by rw [gK] at r;cases r;exact ⟨[],dR,.nil⟩
 | p :: kvs,_,r=>by
  rw [bM] at r
  cases r with
  | @cons a b as bs h t=>
   obtain ⟨rs,c,q⟩:=z7k (P:=P) (w:=w) t
   obtain ⟨b1,b2⟩:=b
   exact ⟨(p.1,b2) :: rs,⟨zeK h.1,rfl,c⟩,.cons ⟨rfl,h.2⟩ q⟩
def zm4 (trs:List (TE × TE)):TE:=fun σ H Q=>∀ p,H p=none->z8y trs σ (upd H p (.dK [])) fun ps H2=>H2 p=some (.dK [])/\∃ kvs:List (Key × V),ps=kvs.map (fun kv=>(kV kv.1,kv.2))/\kvs.length <= 15/\Q (.ref p) (upd H2 p (.dK (z4E [] kvs)))
theorem ziJ (h:PPs X pos keys values trs) (hall:keys.all (·.isSome)=true) (hl:keys.length=values.length) (h0:keys ≠ [])
  (h15:keys.length <= 15):PE X (.Dict keys values pos) (zm4 trs):=by
 intro pins s σ H Q I q
 have hn:=I.hok.fresh (aB s.heap.objs.size)
 have I1:=I.laid (a:=s.heap.objs.size) (o:=.dK []) (h':=s.heap.push { cls:=.type "dict",data:=.dict #[] }) (t':=s.toks) (fun _ _ q=>ah _ q) (aB _) (zbg s.heap I.big)
 refine wpAny_Dict_walk (knd:=z2d X.prog X.w) hall hl h0 h15 (thn (h pins _ σ _ _ I1 (q _ hn)) fun ws s2 ⟨ps,H2,I2,rel,e,kvs,ep,lk,q2⟩=>?_)
 subst ep
 obtain ⟨rs,c,rk⟩:=z7k (P:=X.prog) (w:=X.w) rel
 obtain ⟨z,hd,vs0,r0,dd⟩:=zjG I2.hok e
 cases r0
 refine ⟨rs,c,dd,fun h' dd' hs=>⟨.ref s.heap.objs.size,_,?_,rfl,q2⟩⟩
 have hz:(z4E [] kvs).length <= sizeLine:=by
  have h1:=z53 kvs []
  rw [fF] at h1
  rw [eF];omega
 have he:∃ q,h'.get? s.heap.objs.size=some q:=let ⟨q,_,_,hq,_⟩:=dd';⟨q,hq⟩
 exact ze8 I2 (by rw [e];exact dR) hs he (zga hz hd (rk.merge .nil) dd') (Nat.add_pos_left I2.tk _)
structure M1 (X:Cx) (o:aK) (m:Str) (apos:Pos) (e:aK) (cpos:Pos):Prop where
 base:attributeBase o m X.env (eval o X.env)=eval o X.env
 few:((backTo cpos (aD [e] X.env)).all (fun x=>!x.1) && (backToKw cpos (keywordEach [] X.env)).all (fun x=>x.1.isSome)
  && decide (([e]:List aK).length + ([]:List eG).length + (if ([]:List eG).isEmpty then 0 else 1) < 30))=true
 line:(apos.endLine == cpos.line)=true
 trees:backTo cpos (aD [e] X.env)=[(false,eval e X.env)]
structure M2 (X:Cx) (o:aK) (m:Str) (apos:Pos) (e f:aK) (cpos:Pos):Prop where
 base:attributeBase o m X.env (eval o X.env)=eval o X.env
 few:((backTo cpos (aD [e,f] X.env)).all (fun x=>!x.1) && (backToKw cpos (keywordEach [] X.env)).all (fun x=>x.1.isSome)
  && decide (([e,f]:List aK).length + ([]:List eG).length + (if ([]:List eG).isEmpty then 0 else 1) < 30))=true
 line:(apos.endLine == cpos.line)=true
 trees:backTo cpos (aD [e,f] X.env)=[(false,eval e X.env),(false,eval f X.env)]
section
end
section
end
end L2
namespace DL
open PySem L2
theorem wT {X:Cx} {pins:List (af × Obj)} {σv:St} {H:Hp} {s:ai} {α:Type} {M:jh} {A:ba} {m:Sem α} {Q:α->ai->Prop} {E:ae->ai->Prop} (I:L2.Inv X pins σv H s) (h:ar M A m (fun a s'=>0 < s'.toks->Q a s') (fun e s'=>0 < s'.toks->E e s') s):ar M A m Q E s:=d0 I.tk h
structure XcK (K:aj) (C:af):Prop where
 ga:cO K (.ref C) "__getattribute__" = some (some (.builtin "BaseException.__getattribute__"))
 nh:cO K (.ref C) "__getattr__" = some none
 cl:∃ cd,lM K C=some cd
 at_:cO K (.ref C) "__class__" = some (some (.builtin "object.__class__"))
 gt:fZ K (.builtin "object.__class__") "__get__" = some (some (.builtin "getset_descriptor.__get__"))
 tk:jj K (.builtin "object.__class__")=some true
 ob:gj K C (.type "object")=some true
 bx:gj K C (.type "BaseException")=some true
 kit:∀ c ∈ (["int", "bool", "str", "list", "tuple", "dict"]:List String),aI K (.ref C) (.type c)=some false
section
open PySem.W
variable {prog:aJ} {w:aR} {A:ba} {E:ae->ai->Prop} {s:ai} {K:aj} {x C:af} {ox:Obj}
theorem zii (X:K.In s.heap) (k:XcK K C) (I:cq s.heap x ox C none) (hq:Q () s):ar M A (checkBuiltinCall "BaseException.__getattribute__" ⟨[.ref x,nameV],[]⟩) Q E s:=by
 have hk:builtinKind "BaseException.__getattribute__" = some .slot:=by decide +kernel
 have hsplit:splitId "BaseException.__getattribute__" = some ("BaseException", "__getattribute__"):=by decide +kernel
 have ha:=F.args_bexc_ga (.ref x) nameV
 have L0:=I.type (M:=M)
 have L1:=looks_mroIn (M:=M) X k.bx
 have LI:Looks M s.heap (isInstance (.ref x) (.type "BaseException")) true:=L0.andThen L1
 simp only [checkBuiltinCall,hk,hsplit]
 refine aa (LI.at ?_)
 repeat (first|wp_step|exact hq)
theorem zh1 (X:K.In s.heap) (k:XcK K C) (I:cq s.heap x ox C none) (h:Q (some (.ref C)) { s with toks:=s.toks + 1 }):ar (ay prog w) A (getAttr? (.ref x) "__class__") Q E s:=by
 obtain ⟨cd,hcd⟩:=k.cl
 have hf:findObj K C none "__class__" = some (.bind (.builtin "getset_descriptor.__get__") (.builtin "object.__class__")):=by
  unfold findObj
  rw [hcd,k.at_]
  simp only [Option.bind_some,k.gt,k.tk]
 have L0:=I.type (M:=ay prog w)
 have L1:=looks_findIn (M:=ay prog w) X k.ga
 have L2:=looks_findIn (M:=ay prog w) X k.nh
 have LF:=looks_find (M:=ay prog w) X I hf
 unfold getAttr? getAttrBy? getAttrBy
 refine aa (wpAny_mkText (aa (eR (bL (aa (L0.at (aa (L1.at ?_))))))))
 have hx1:(onTheHeap (cP C) && fy "BaseException.__getattribute__" == fy "object.__getattribute__")=false:=by
  rw [show (fy "BaseException.__getattribute__" == fy "object.__getattribute__")=false from by decide +kernel];rfl
 show ar _ _ (if (onTheHeap (cP C) && fy "BaseException.__getattribute__" == fy "object.__getattribute__")=true then _ else _) _ _ _
 rw [if_neg (by rw [hx1];decide)]
 unfold getAttrByItsOwn hookBefore
 rw [if_pos (by rfl)]
 refine aa (L2.at (aa (eR (bL ?_))))
 unfold callGetattribute boundAndCalled
 rw [if_neg (by decide)]
 rw [kP.ga.bind (.ref x)]
 refine aa (am (gH ?_))
 refine jS kP.ga.plain F.entry_bexc_ga (zii (s:={ s with toks:=s.toks + 1 }) X k I ?_)
 unfold cA.«object.__getattribute__»
 refine aa (am (aa (am (aa (L0.at (aa (LF.at ?_)))))))
 show ar _ _ (iQ _ _ _ _) _ _ _
 unfold iQ
 refine aa (bL (gH (class_get (s:={ s with toks:=s.toks + 1 }) X I k.ob ?_)))
 exact am (am (am h))
theorem zgl (k:XcK K C):KitX K (.ref x) (.ref C) (fun h=>∃ ox,cq h x ox C none) where
 ty:=fun _ _ _ ⟨ox,I⟩=>I.type
 it:=fun _ _ X _=>by
  obtain ⟨cd,hcd⟩:=k.cl
  unfold clsIn at hcd
  split at hcd
  ·rename_i c' d' cd' sl' ho
   intro A' Q' E' s' kp q
   unfold isType loadHead
   exact aa (wpAny_loadPart (kp _ _ (X _ _ ho)) (am q))
  ·cases hcd
 ne:=fun h tp dd its n sl X htp=>by
  obtain ⟨cd,hcd⟩:=k.cl
  refine Bool.eq_false_iff.mpr fun q=>?_
  have e:C=tp:=Value.ref.inj (beq_iff_eq.mp q)
  subst e
  unfold clsIn at hcd
  split at hcd
  ·rename_i c' d' cd' sl' ho
   have z:=(X _ _ ho).symm.trans htp
   cases z
  ·cases hcd
 ca:=fun X ⟨ox,I⟩ q=>zh1 X k I q
end
end DL
namespace DL
open PySem L2
inductive D where
 | non
 | bl (b:Bool)
 | int (i:Int)
 | str (cs:List Nat)
 | lst (xs:List D)
 | tup (xs:List D)
 | own (k:Nat)
 | dct
 | exn (C:Nat)
 | tab (P:Nat)
 | map (ks:List (Sum Int (List Nat))) (ds:List D)
 | adr (a:Nat)
 deriving Repr,BEq,Inhabited
abbrev Ow:=List (List D)
inductive R (α:Type) where
 | ok (a:α) (O:Ow)
 | exc (c:Nat) (O:Ow)
 | bad
 deriving Repr,BEq,Inhabited
def R.bnd {α β:Type} (r:R α) (k:α->Ow->R β):R β:=match r with
 | .ok a O=>k a O
 | .exc c O=>.exc c O
 | .bad=>.bad
abbrev Sg:=List (Option D)
abbrev DE:=Sg->Ow->R D
abbrev DT:=Sg->Ow->R Bool
abbrev DA:=Sg->Ow->R (List D)
section
variable (K:aj) (H:Hp) (hid μ:List af)
def zmS (K:aj) (a:af) (xs:List V):Prop:=∃ (o:Obj) (its:Array ae) (n:Nat),K.lookup a=some o/\o.cls=.type "list"/\o.dict=none/\o.data=.seq its n/\its.size <= sizeLine/\ma xs its.toList
def zmG (K:aj) (a:af) (xs:List V):Prop:=∃ (o:Obj) (its:Array ae) (n:Nat),K.lookup a=some o/\o.cls=.type "tuple"/\o.data=.seq its n/\its.size <= sizeLine/\ma xs its.toList
def LstAt (a:af) (vs:List V):Prop:=(Rd H a (.lst vs)/\a ∉ hid/\a ∉ μ) \/ zmS K a vs
def TupAt (a:af) (vs:List V):Prop:=(Rd H a (.tup vs)/\a ∉ hid/\a ∉ μ) \/ zmG K a vs/\∃ o,K.lookup a=some o/\o.dict=none
end
def kD:Sum Int (List Nat)->Key
 | .inl i=>.inl i
 | .inr cs=>.inr ⟨cs.toArray⟩
def ml (H:Hp) (P:af):Prop:=∃ ps,H P=some (.tbl ps)/\TriplesOk ps.toList/\∀ pos cv,codeAmong pos ps.toList=some cv->∃ c φ,cv=.ref c/\H c=some (.ext φ)/\∀ h:aP,φ h->∃ q,h.CodeRec (.ref c) q
def zbV (o:HO):Prop:=∀ ps,o ≠ .tbl ps
section
variable (K:aj) (H:Hp) (hid μ:List af)
mutual
def Dat:D->V->Prop
 | .non,v=>v=.non
 | .bl b,v=>v=.bl b
 | .int i,v=>v=.int i
 | .str cs,v=>v=.str ⟨cs.toArray⟩
 | .lst ds,v=>∃ a vs,v=.ref a/\LstAt K H hid μ a vs/\l8 ds vs
 | .tup ds,v=>∃ a vs,v=.ref a/\TupAt K H hid μ a vs/\l8 ds vs
 | .own k,v=>∃ a,v=.ref a/\μ[k]?=some a
 | .dct,v=>∃ a,v=.ref a/\Rd H a (.dK [])/\a ∉ hid/\a ∉ μ
 | .exn C,v=>∃ a φ,v=.ref a/\(XcK K C/\∀ h:aP,φ h->∃ ox,cq h a ox C none)/\Rd H a (.ext φ)/\a ∉ hid/\a ∉ μ
 | .tab P,v=>v=.bl false/\ml H P
 | .map ks ds,v=>∃ a vs,v=.ref a/\Rd H a (.dK ((ks.map kD).zip vs))/\a ∉ hid/\a ∉ μ/\ks.length=vs.length/\l8 ds vs
 | .adr a,v=>v=.ref a
def l8:List D->List V->Prop
 | [],vs=>vs=[]
 | d :: ds,vs=>∃ v r,vs=v :: r/\Dat d v/\l8 ds r
end
structure l7 (O:Ow):Prop where
 len:μ.length=O.length
 nd:μ.Nodup
 nh:∀ a ∈ μ,a ∉ hid
 ht:∀ a ∈ hid,H a ≠ none
 at_:∀ (k:Nat) a,μ[k]?=some a->∃ ds vs,O[k]?=some ds/\H a=some (.lst vs)/\l8 K H hid μ ds vs
structure l9 (σ:Sg) (σv:St):Prop where
 len:σ.length=σv.length
 at_:∀ (i:Nat) d,σ[i]?=some (some d)->∃ v,σv[i]?=some (some v)/\Dat K H hid μ d v
end
structure Ext (H:Hp) (μ:List af) (H':Hp) (μ':List af):Prop where
 pre:∃ ν,μ'=μ ++ ν
 kept:∀ b o,H b=some o->b ∉ μ->zbV o->H' b=some o
 fresh:∀ b ∈ μ',b ∈ μ \/ H b=none
 there:∀ b,H b ≠ none->H' b ≠ none
 tab:∀ P,ml H P->ml H' P
structure Mv (H:Hp) (hid μ:List af) (H':Hp) (hid' μ':List af):Prop where
 pre:∃ ν,μ'=μ ++ ν
 kept:∀ b o,H b=some o->b ∉ μ->b ∉ hid->zbV o->H' b=some o
 fresh:∀ b ∈ μ',b ∈ μ \/ H b=none
 hids:∀ b ∈ hid',b ∈ hid \/ H b=none
 there:∀ b,H b ≠ none->H' b ≠ none
 tab:∀ P,ml H P->ml H' P
section
variable {K:aj} {H H' H1 H2:Hp} {hid hid' hid1 hid2 μ μ' μ1 μ2:List af}
theorem Ext.keep (e:Ext H μ H' μ') (b:af) (o:HO) (h:H b=some o) (n:b ∉ μ) (ht:zbV o:=by intro ps z;cases z):H' b=some o:=e.kept b o h n ht
theorem ml.upd (t:ml H P) (hp:H p=none \/ ∃ vs,H p=some (.lst vs)):ml (L2.upd H p o) P:=by
 obtain ⟨ps,h1,h2,h3⟩:=t
 have n1:P ≠ p:=by
  rintro rfl
  rcases hp with z|⟨vs,z⟩ <;> (rw [z] at h1;cases h1)
 refine ⟨ps,by rw [z0Y n1];exact h1,h2,fun pos cv e=>?_⟩
 obtain ⟨c,φ,rfl,hc,hf⟩:=h3 pos cv e
 have n2:c ≠ p:=by
  rintro rfl
  rcases hp with z|⟨vs,z⟩ <;> (rw [z] at hc;cases hc)
 exact ⟨c,φ,rfl,by rw [z0Y n2];exact hc,hf⟩
theorem Ext.refl:Ext H μ H μ:=⟨⟨[],by simp⟩,fun _ _ h _ _=>h,fun _ h=>.inl h,fun _ h=>h,fun _ t=>t⟩
theorem Ext.trans (a:Ext H μ H1 μ1) (b:Ext H1 μ1 H2 μ2):Ext H μ H2 μ2:=by
 refine ⟨?_,fun c o h n ht=>?_,fun c h=>?_,fun c h=>b.there c (a.there c h),fun P t=>b.tab P (a.tab P t)⟩
 ·obtain ⟨x,rfl⟩:=a.pre
  obtain ⟨y,rfl⟩:=b.pre
  exact ⟨x ++ y,by simp⟩
 ·refine b.kept c o (a.kept c o h n ht) (fun m=>?_) ht
  rcases a.fresh c m with z|z
  ·exact n z
  ·rw [z] at h;cases h
 ·rcases b.fresh c h with z|z
  ·exact a.fresh c z
  ·by_cases hm:c ∈ μ
   ·exact .inl hm
   ·cases e:H c with
    | none=>exact .inr rfl
    | some o=>exact absurd z (a.there c (by rw [e];simp))
theorem Ext.mv (a:Ext H μ H' μ'):Mv H hid μ H' hid μ':=⟨a.pre,fun b o h n _ ht=>a.kept b o h n ht,a.fresh,fun _ h=>.inl h,a.there,a.tab⟩
theorem Mv.refl:Mv H hid μ H hid μ:=Ext.refl.mv
theorem Mv.trans (a:Mv H hid μ H1 hid1 μ1) (b:Mv H1 hid1 μ1 H2 hid2 μ2):Mv H hid μ H2 hid2 μ2:=by
 have nn:∀ c,H1 c=none->H c=none:=fun c h=>by
  cases e:H c with
  | none=>rfl
  | some o=>exact absurd h (a.there c (by rw [e];simp))
 refine ⟨?_,fun c o h n1 n2 ht=>?_,fun c h=>?_,fun c h=>?_,fun c h=>b.there c (a.there c h),fun P t=>b.tab P (a.tab P t)⟩
 ·obtain ⟨x,rfl⟩:=a.pre
  obtain ⟨y,rfl⟩:=b.pre
  exact ⟨x ++ y,by simp⟩
 ·refine b.kept c o (a.kept c o h n1 n2 ht) (fun m=>?_) (fun m=>?_) ht
  ·rcases a.fresh c m with z|z
   ·exact n1 z
   ·rw [z] at h;cases h
  ·rcases a.hids c m with z|z
   ·exact n2 z
   ·rw [z] at h;cases h
 ·rcases b.fresh c h with z|z
  ·exact a.fresh c z
  ·exact .inr (nn c z)
 ·rcases b.hids c h with z|z
  ·exact a.hids c z
  ·exact .inr (nn c z)
theorem Mv.hide (h:H b=none):Mv H hid μ H (b :: hid) μ:=⟨⟨[],by simp⟩,fun _ _ h _ _ _=>h,fun _ m=>.inl m,fun c m=>(av.mp m).elim (fun e=>.inr (by rw [e];exact h)) .inl,fun _ h=>h,fun _ t=>t⟩
theorem Mv.unhide:Mv H (b :: hid) μ H hid μ:=⟨⟨[],by simp⟩,fun _ _ h _ _ _=>h,fun _ m=>.inl m,fun _ m=>.inl (au _ m),fun _ h=>h,fun _ t=>t⟩
theorem Rd.mv (r:Rd H a u) (e:Mv H hid μ H' hid' μ') (n1:a ∉ hid) (n2:a ∉ μ) (ht:zbV u:=by intro ps z;cases z):Rd H' a u/\a ∉ hid'/\a ∉ μ':=by
 have out:∀ o,H a=some o->a ∉ hid'/\a ∉ μ':=by
  intro o h
  constructor
  ·intro m
   rcases e.hids a m with z|z
   ·exact n1 z
   ·rw [z] at h;cases h
  ·intro m
   rcases e.fresh a m with z|z
   ·exact n2 z
   ·rw [z] at h;cases h
 rcases r with r|⟨o,r⟩
 ·exact ⟨.inl (e.kept _ _ r n2 n1 ht),out _ r⟩
 ·exact ⟨.inr ⟨o,e.kept _ _ r n2 n1 (by intro ps z;cases z)⟩,out _ r⟩
theorem LstAt.mv (h:LstAt K H hid μ a vs) (e:Mv H hid μ H' hid' μ'):LstAt K H' hid' μ' a vs:=
 h.imp (fun z=>Rd.mv z.1 e z.2.1 z.2.2) id
theorem TupAt.mv (h:TupAt K H hid μ a vs) (e:Mv H hid μ H' hid' μ'):TupAt K H' hid' μ' a vs:=
 h.imp (fun z=>Rd.mv z.1 e z.2.1 z.2.2) id
theorem LstAt.sq (h:LstAt K H hid μ a vs):SqL K H a vs:=h.elim (fun z=>.inl z.1) .inr
theorem TupAt.sq (h:TupAt K H hid μ a vs):SqT K H a vs:=h.elim (fun z=>.inl z.1) fun z=>.inr z.1
mutual
theorem Dat.mv (e:Mv H hid μ H' hid' μ'):∀ {d:D} {v:V},Dat K H hid μ d v->Dat K H' hid' μ' d v
 | .non,_,h=>h
 | .bl _,_,h=>h
 | .int _,_,h=>h
 | .str _,_,h=>h
 | .lst ds,v,h=>by
  unfold Dat at h ⊢
  obtain ⟨a,vs,r,l,q⟩:=h
  exact ⟨a,vs,r,l.mv e,l8.mv e q⟩
 | .tup ds,v,h=>by
  unfold Dat at h ⊢
  obtain ⟨a,vs,r,l,q⟩:=h
  exact ⟨a,vs,r,l.mv e,l8.mv e q⟩
 | .own k,v,h=>by
  unfold Dat at h ⊢
  obtain ⟨a,r,q⟩:=h
  obtain ⟨x,rfl⟩:=e.pre
  exact ⟨a,r,by rw [aL (ao.mp q).1];exact q⟩
 | .dct,v,h=>by
  unfold Dat at h ⊢
  obtain ⟨a,r,q,n1,n2⟩:=h
  exact ⟨a,r,Rd.mv q e n1 n2⟩
 | .exn C,v,h=>by
  unfold Dat at h ⊢
  obtain ⟨a,φ,r,g,q,n1,n2⟩:=h
  exact ⟨a,φ,r,g,Rd.mv q e n1 n2⟩
 | .tab P,v,h=>by
  unfold Dat at h ⊢
  exact ⟨h.1,e.tab _ h.2⟩
 | .map ks ds,v,h=>by
  unfold Dat at h ⊢
  obtain ⟨a,vs,r,q,n1,n2,hl,d⟩:=h
  obtain ⟨r1,r2,r3⟩:=Rd.mv q e n1 n2
  exact ⟨a,vs,r,r1,r2,r3,hl,l8.mv e d⟩
 | .adr _,_,h=>h
theorem l8.mv (e:Mv H hid μ H' hid' μ'):∀ {ds:List D} {vs:List V},l8 K H hid μ ds vs->l8 K H' hid' μ' ds vs
 | [],_,h=>h
 | d :: ds,vs,h=>by
  unfold l8 at h ⊢
  obtain ⟨v,r,e1,h1,h2⟩:=h
  exact ⟨v,r,e1,Dat.mv e h1,l8.mv e h2⟩
end
theorem Dat.ext (e:Ext H μ H' μ') (h:Dat K H hid μ d v):Dat K H' hid μ' d v:=h.mv e.mv
theorem l8.ext (e:Ext H μ H' μ') (h:l8 K H hid μ ds vs):l8 K H' hid μ' ds vs:=h.mv e.mv
theorem l9.mv (h:l9 K H hid μ σ σv) (e:Mv H hid μ H' hid' μ'):l9 K H' hid' μ' σ σv:=
 ⟨h.len,fun i d q=>let ⟨v,a,b⟩:=h.at_ i d q;⟨v,a,b.mv e⟩⟩
theorem l9.ext (h:l9 K H hid μ σ σv) (e:Ext H μ H' μ'):l9 K H' hid μ' σ σv:=h.mv e.mv
theorem l9.set (h:l9 K H hid μ σ σv) (q:Dat K H hid μ d v) (i:Nat):l9 K H hid μ (σ.set i (some d)) (σv.set i (some v)):=by
 refine ⟨by simp [h.len],fun j x e=>?_⟩
 by_cases hj:i=j
 ·subst hj
  have hi:i < σ.length:=by have:=(ao.mp e).1;simpa using this
  rw [aT hi] at e
  cases e
  exact ⟨v,by rw [aT (by rw [<- h.len];exact hi)],q⟩
 ·rw [aY hj] at e
  obtain ⟨w,a,b⟩:=h.at_ j x e
  exact ⟨w,by rw [aY hj];exact a,b⟩
theorem l8.length:∀ {ds:List D} {vs:List V},l8 K H hid μ ds vs->ds.length=vs.length
 | [],_,h=>by unfold l8 at h;subst h;rfl
 | d :: ds,vs,h=>by
  unfold l8 at h
  obtain ⟨v,r,rfl,_,h2⟩:=h
  simp [l8.length h2]
theorem l8.nil:l8 K H hid μ [] []:=by unfold l8;rfl
theorem l8.cons (h:Dat K H hid μ d v) (t:l8 K H hid μ ds vs):l8 K H hid μ (d :: ds) (v :: vs):=by
 unfold l8;exact ⟨v,vs,rfl,h,t⟩
theorem l8.append:∀ {ds es:List D} {vs ws:List V},l8 K H hid μ ds vs->l8 K H hid μ es ws->l8 K H hid μ (ds ++ es) (vs ++ ws)
 | [],_,_,_,h,t=>by unfold l8 at h;subst h;exact t
 | d :: ds,es,vs,ws,h,t=>by
  unfold l8 at h
  obtain ⟨v,r,rfl,h1,h2⟩:=h
  exact .cons h1 (l8.append h2 t)
theorem l8.get:∀ {ds:List D} {vs:List V} {i:Nat} {d:D},l8 K H hid μ ds vs->ds[i]?=some d->∃ v,vs[i]?=some v/\Dat K H hid μ d v
 | [],_,_,_,_,e=>by simp at e
 | d :: ds,vs,0,x,h,e=>by
  unfold l8 at h
  obtain ⟨v,r,rfl,h1,h2⟩:=h
  simp at e;subst e
  exact ⟨v,by simp,h1⟩
 | d :: ds,vs,i + 1,x,h,e=>by
  unfold l8 at h
  obtain ⟨v,r,rfl,h1,h2⟩:=h
  obtain ⟨z,a,b⟩:=l8.get (i:=i) h2 (by simpa using e)
  exact ⟨z,by simpa using a,b⟩
theorem l8.take:∀ {ds:List D} {vs:List V} (n:Nat),l8 K H hid μ ds vs->l8 K H hid μ (ds.take n) (vs.take n)
 | _,_,0,_=>by simpa using l8.nil
 | [],_,n + 1,h=>by unfold l8 at h;subst h;simpa using l8.nil
 | d :: ds,vs,n + 1,h=>by
  unfold l8 at h
  obtain ⟨v,r,rfl,h1,h2⟩:=h
  simpa using l8.cons h1 (l8.take n h2)
theorem l8.drop:∀ {ds:List D} {vs:List V} (n:Nat),l8 K H hid μ ds vs->l8 K H hid μ (ds.drop n) (vs.drop n)
 | _,_,0,h=>by simpa using h
 | [],_,n + 1,h=>by unfold l8 at h;subst h;simpa using l8.nil
 | d :: ds,vs,n + 1,h=>by
  unfold l8 at h
  obtain ⟨v,r,rfl,h1,h2⟩:=h
  simpa using l8.drop n h2
theorem l8.set (q:Dat K H hid μ d v):∀ {ds:List D} {vs:List V} (i:Nat),l8 K H hid μ ds vs->l8 K H hid μ (ds.set i d) (vs.set i v)
 | [],_,i,h=>by unfold l8 at h;subst h;simpa using l8.nil
 | x :: ds,vs,0,h=>by
  unfold l8 at h
  obtain ⟨w,r,rfl,h1,h2⟩:=h
  simpa using l8.cons q h2
 | x :: ds,vs,i + 1,h=>by
  unfold l8 at h
  obtain ⟨w,r,rfl,h1,h2⟩:=h
  simpa using l8.cons h1 (l8.set q i h2)
theorem l8.rev:∀ {ds:List D} {vs:List V},l8 K H hid μ ds vs->l8 K H hid μ ds.reverse vs.reverse
 | [],_,h=>by unfold l8 at h;subst h;simpa using l8.nil
 | d :: ds,vs,h=>by
  unfold l8 at h
  obtain ⟨v,r,rfl,h1,h2⟩:=h
  simpa using l8.append (l8.rev h2) (.cons h1 .nil)
theorem z1G (b:af) (h:H b ≠ none):upd H p o b ≠ none:=by
 by_cases e:b=p
 ·subst e;rw [z18];simp
 ·rw [z0Y e];exact h
theorem Ext.laid (h:H p=none):Ext H μ (upd H p o) μ:=
 ⟨⟨[],by simp⟩,fun b u e _ _=>by rw [z0Y (z0Z e h)];exact e,fun _ m=>.inl m,z1G,fun _ t=>t.upd (.inl h)⟩
theorem l7.laid (c:l7 K H hid μ O) (h:H p=none):l7 K (upd H p o) hid μ O:=by
 refine ⟨c.len,c.nd,c.nh,fun a m=>?_,fun k a e=>?_⟩
 ·by_cases q:a=p
  ·subst q;rw [z18];simp
  ·rw [z0Y q];exact c.ht a m
 ·obtain ⟨ds,vs,h1,h2,h3⟩:=c.at_ k a e
  exact ⟨ds,vs,h1,by rw [z0Y (z0Z h2 h)];exact h2,h3.ext (.laid h)⟩
theorem l7.not_in (c:l7 K H hid μ O) (h:H p=none):p ∉ hid/\p ∉ μ:=by
 refine ⟨fun m=>c.ht p m h,fun m=>?_⟩
 obtain ⟨k,hk,e⟩:=ft.mp m
 obtain ⟨ds,vs,_,h2,_⟩:=c.at_ k p (by rw [ao];exact ⟨hk,e⟩)
 rw [h] at h2;cases h2
theorem Dat.newL (c:l7 K H hid μ O) (h:H p=none) (q:l8 K H hid μ ds vs):Dat K (upd H p (.lst vs)) hid μ (.lst ds) (.ref p):=by
 unfold Dat
 exact ⟨p,vs,rfl,.inl ⟨.inl z18,c.not_in h⟩,q.ext (.laid h)⟩
theorem Dat.newT (c:l7 K H hid μ O) (h:H p=none) (q:l8 K H hid μ ds vs):Dat K (upd H p (.tup vs)) hid μ (.tup ds) (.ref p):=by
 unfold Dat
 exact ⟨p,vs,rfl,.inl ⟨.inl z18,c.not_in h⟩,q.ext (.laid h)⟩
theorem Ext.cell (h:H p=none):Ext H μ (upd H p o) (μ ++ [p]):=
 ⟨⟨[p],rfl⟩,fun b u e _ _=>by rw [z0Y (z0Z e h)];exact e,fun b m=>by
  rcases bg.mp m with m|m
  ·exact .inl m
  ·have:b=p:=by simpa using m
   subst this;exact .inr h,z1G,fun _ t=>t.upd (.inl h)⟩
theorem l7.cell (c:l7 K H hid μ O) (h:H p=none) (q:l8 K H hid μ ds vs):l7 K (upd H p (.lst vs)) hid (μ ++ [p]) (O ++ [ds]):=by
 have ni:=c.not_in h
 refine ⟨by simp [c.len],?_,fun a m=>?_,fun a m=>?_,fun k a e=>?_⟩
 ·rw [dG]
  refine ⟨c.nd,by simp,fun a ha b hb=>?_⟩
  have:b=p:=by simpa using hb
  subst this
  rintro rfl
  exact ni.2 ha
 ·rcases bg.mp m with m|m
  ·exact c.nh a m
  ·have:a=p:=by simpa using m
   subst this;exact ni.1
 ·by_cases q:a=p
  ·subst q;rw [z18];simp
  ·rw [z0Y q];exact c.ht a m
 ·by_cases hk:k < μ.length
  ·rw [aL hk] at e
   obtain ⟨ds',vs',h1,h2,h3⟩:=c.at_ k a e
   exact ⟨ds',vs',by rw [aL (by rw [<- c.len];exact hk)];exact h1,by rw [z0Y (z0Z h2 h)];exact h2,h3.ext (.cell h)⟩
  ·rw [bp (by omega)] at e
   have e0:k - μ.length=0:=by
    have:=(ao.mp e).1
    simp at this;omega
   rw [e0] at e
   simp at e;subst e
   refine ⟨ds,vs,?_,z18,q.ext (.cell h)⟩
   have:k=O.length:=by have:=c.len;omega
   subst this;simp
theorem Ext.put (h:p ∈ μ) (hl:∃ vs,H p=some (.lst vs)):Ext H μ (upd H p o) μ:=
 ⟨⟨[],by simp⟩,fun b u e n _=>by rw [z0Y (by rintro rfl;exact n h)];exact e,fun _ m=>.inl m,z1G,fun _ t=>t.upd (.inr hl)⟩
theorem l7.put (c:l7 K H hid μ O) (hk:μ[k]?=some p) (q:l8 K H hid μ ds vs):l7 K (upd H p (.lst vs)) hid μ (O.set k ds):=by
 have hm:p ∈ μ:=aW hk
 have hl:∃ vs,H p=some (.lst vs):=let ⟨_,vs,_,h2,_⟩:=c.at_ k p hk;⟨vs,h2⟩
 refine ⟨by simp [c.len],c.nd,c.nh,fun a m=>?_,fun j a e=>?_⟩
 ·by_cases q:a=p
  ·subst q;rw [z18];simp
  ·rw [z0Y q];exact c.ht a m
 ·by_cases hj:j=k
  ·subst hj
   rw [hk] at e;cases e
   refine ⟨ds,vs,?_,z18,q.ext (.put hm hl)⟩
   rw [aT (by rw [<- c.len];exact (ao.mp hk).1)]
  ·have ne:a ≠ p:=by
    rintro rfl
    obtain ⟨h1,e1⟩:=ao.mp e
    obtain ⟨h2,e2⟩:=ao.mp hk
    exact hj ((iW c.nd).mp (e1.trans e2.symm))
   obtain ⟨ds',vs',h1,h2,h3⟩:=c.at_ j a e
   exact ⟨ds',vs',by rw [aY (bo hj)];exact h1,by rw [z0Y ne];exact h2,h3.ext (.put hm hl)⟩
end
section
variable (Ex:Nat->Hp->Prop) (K:aj)
def post {α β:Type} (rel:Hp->List af->α->β->Prop) (H:Hp) (hid μ:List af) (r:R α) (Q:β->Hp->Prop):Prop:=match r with
 | .ok d O'=>∀ v H' μ',Ext H μ H' μ'->l7 K H' hid μ' O'->rel H' μ' d v->Q v H'
 | .exc c O'=>∀ H' μ',Ext H μ H' μ'->l7 K H' hid μ' O'->Ex c H'
 | .bad=>False
abbrev z1q (H:Hp) (hid μ:List af) (r:R D) (Q:VK):Prop:=post Ex K (fun H' μ' d v=>Dat K H' hid μ' d v) H hid μ r Q
abbrev z5J (H:Hp) (hid μ:List af) (r:R Bool) (Q:Bool->Hp->Prop):Prop:=post Ex K (fun _ _ d v=>d=v) H hid μ r Q
abbrev zjW (H:Hp) (hid μ:List af) (r:R (List D)) (Q:List V->Hp->Prop):Prop:=post Ex K (fun H' μ' d v=>l8 K H' hid μ' d v) H hid μ r Q
def rd (t:DE):TE:=fun σv H Q=>∃ hid μ σ O,l9 K H hid μ σ σv/\l7 K H hid μ O/\z1q Ex K H hid μ (t σ O) Q
def rdT (t:DT):TT:=fun σv H Q=>∃ hid μ σ O,l9 K H hid μ σ σv/\l7 K H hid μ O/\z5J Ex K H hid μ (t σ O) Q
def rdA (t:DA):TA:=fun σv H Q=>∃ hid μ σ O,l9 K H hid μ σ σv/\l7 K H hid μ O/\zjW Ex K H hid μ (t σ O) Q
end
section
variable {Ex:Nat->Hp->Prop} {K:aj} {H H1:Hp} {hid μ μ1:List af}
theorem post.ext {α β:Type} {rel:Hp->List af->α->β->Prop} {r:R α} {Q:β->Hp->Prop} (h:post Ex K rel H hid μ r Q) (e:Ext H μ H1 μ1):post Ex K rel H1 hid μ1 r Q:=by
 cases r with
 | ok d O'=>exact fun v H' μ' e' c q=>h v H' μ' (e.trans e') c q
 | exc c O'=>exact fun H' μ' e' c=>h H' μ' (e.trans e') c
 | bad=>exact h
theorem post.bnd {α β α' β':Type} {rel:Hp->List af->α->β->Prop} {rel':Hp->List af->α'->β'->Prop} {r:R α} {k:α->Ow->R α'} {Q:β'->Hp->Prop} {Q1:β->Hp->Prop}
  (h:post Ex K rel' H hid μ (r.bnd k) Q)
  (hk:∀ d O1 v H1 μ1,Ext H μ H1 μ1->l7 K H1 hid μ1 O1->rel H1 μ1 d v->post Ex K rel' H1 hid μ1 (k d O1) Q->Q1 v H1):post Ex K rel H hid μ r Q1:=by
 cases r with
 | ok d O'=>exact fun v H' μ' e c q=>hk d O' v H' μ' e c q (post.ext (show post Ex K rel' H hid μ (k d O') Q from h) e)
 | exc c O'=>exact h
 | bad=>exact h
theorem post.ok {α β:Type} {rel:Hp->List af->α->β->Prop} {d:α} {O:Ow} {Q:β->Hp->Prop} {v:β} (h:post Ex K rel H hid μ (.ok d O) Q) {H':Hp} {μ':List af} (e:Ext H μ H' μ') (c:l7 K H' hid μ' O) (q:rel H' μ' d v):Q v H':=h v H' μ' e c q
theorem post.here {α β:Type} {rel:Hp->List af->α->β->Prop} {d:α} {O:Ow} {Q:β->Hp->Prop} {v:β} (h:post Ex K rel H hid μ (.ok d O) Q) (c:l7 K H hid μ O) (q:rel H μ d v):Q v H:=h v H μ .refl c q
end
structure PD (X:Cx) (Ex:Nat->Hp->Prop) (e:aK) (t:DE):Prop where
 out:PE X e (rd Ex X.K t)
structure PDT (X:Cx) (Ex:Nat->Hp->Prop) (e:aK) (t:DT):Prop where
 out:PT X e (rdT Ex X.K t)
structure PDA (X:Cx) (Ex:Nat->Hp->Prop) (es:List aK) (t:DA):Prop where
 out:PA X es (rdA Ex X.K t)
theorem PE.imp (h:PE X e t) (f:∀ σ H Q,t' σ H Q->t σ H Q):PE X e t':=fun pins s σ H Q I q=>h pins s σ H Q I (f σ H Q q)
theorem PT.imp (h:PT X e t) (f:∀ σ H Q,t' σ H Q->t σ H Q):PT X e t':=fun pins s σ H Q I q=>h pins s σ H Q I (f σ H Q q)
theorem PA.imp (h:PA X e t) (f:∀ σ H Q,t' σ H Q->t σ H Q):PA X e t':=fun pos pins s σ H Q I q=>h pos pins s σ H Q I (f σ H Q q)
theorem PW.imp (h:PW X e t) (f:∀ σ H Q,t' σ H Q->t σ H Q):PW X e t':=fun w pins s σ H Q I q=>h w pins s σ H Q I (f σ H Q q)
end DL
namespace DL
open PySem L2
def z0U (i:Nat):DE:=fun σ O=>match σ[i]? with
 | some (some d)=>.ok d O
 | _=>.bad
def dC (d:D):DE:=fun _ O=>.ok d O
section
variable {X:Cx} {Ex:Nat->Hp->Prop} {pos:Pos} {a b c:aK} {ta tb tc:DE}
theorem z22 {e:aK} {t:TE} {t':DE} (h:PE X e t) (f:∀ hid μ σ O σv H Q,l9 X.K H hid μ σ σv->l7 X.K H hid μ O->z1q Ex X.K H hid μ (t' σ O) Q->t σv H Q):PD X Ex e t':=
 ⟨PE.imp h fun σv H Q ⟨hid,μ,σ,O,e1,c1,q⟩=>f hid μ σ O σv H Q e1 c1 q⟩
theorem zbc {e:aK} {t:TT} {t':DT} (h:PT X e t) (f:∀ hid μ σ O σv H Q,l9 X.K H hid μ σ σv->l7 X.K H hid μ O->z5J Ex X.K H hid μ (t' σ O) Q->t σv H Q):PDT X Ex e t':=
 ⟨PT.imp h fun σv H Q ⟨hid,μ,σ,O,e1,c1,q⟩=>f hid μ σ O σv H Q e1 c1 q⟩
theorem zg0 (h:PA X e t) (f:∀ hid μ σ O σv H Q,l9 X.K H hid μ σ σv->l7 X.K H hid μ O->zjW Ex X.K H hid μ (t' σ O) Q->t σv H Q):PDA X Ex e t':=
 ⟨PA.imp h fun σv H Q ⟨hid,μ,σ,O,e1,c1,q⟩=>f hid μ σ O σv H Q e1 c1 q⟩
theorem rd.go {α' β':Type} {rel':Hp->List af->α'->β'->Prop} {t:DE} {hid μ:List af} {σ:Sg} {O:Ow} {σv:St} {H:Hp} {Q1:VK} {k:D->Ow->R α'} {Q:β'->Hp->Prop} (e1:l9 X.K H hid μ σ σv) (c1:l7 X.K H hid μ O)
  (q:post Ex X.K rel' H hid μ ((t σ O).bnd k) Q)
  (f:∀ d O1 v H1 μ1,l9 X.K H1 hid μ1 σ σv->Ext H μ H1 μ1->l7 X.K H1 hid μ1 O1->Dat X.K H1 hid μ1 d v->post Ex X.K rel' H1 hid μ1 (k d O1) Q->Q1 v H1):rd Ex X.K t σv H Q1:=
 ⟨hid,μ,σ,O,e1,c1,post.bnd q fun d O1 v H1 μ1 x c r p=>f d O1 v H1 μ1 (e1.ext x) x c r p⟩
theorem rdT.go {α' β':Type} {rel':Hp->List af->α'->β'->Prop} {t:DT} {hid μ:List af} {σ:Sg} {O:Ow} {σv:St} {H:Hp} {Q1:Bool->Hp->Prop} {k:Bool->Ow->R α'} {Q:β'->Hp->Prop} (e1:l9 X.K H hid μ σ σv) (c1:l7 X.K H hid μ O)
  (q:post Ex X.K rel' H hid μ ((t σ O).bnd k) Q)
  (f:∀ v O1 H1 μ1,l9 X.K H1 hid μ1 σ σv->Ext H μ H1 μ1->l7 X.K H1 hid μ1 O1->post Ex X.K rel' H1 hid μ1 (k v O1) Q->Q1 v H1):rdT Ex X.K t σv H Q1:=
 ⟨hid,μ,σ,O,e1,c1,post.bnd q fun d O1 v H1 μ1 x c r p=>by
  have r:d=v:=r
  subst r
  exact f d O1 H1 μ1 (e1.ext x) x c p⟩
theorem rdA.go {α' β':Type} {rel':Hp->List af->α'->β'->Prop} {t:DA} {hid μ:List af} {σ:Sg} {O:Ow} {σv:St} {H:Hp} {Q1:List V->Hp->Prop} {k:List D->Ow->R α'} {Q:β'->Hp->Prop} (e1:l9 X.K H hid μ σ σv) (c1:l7 X.K H hid μ O)
  (q:post Ex X.K rel' H hid μ ((t σ O).bnd k) Q)
  (f:∀ d O1 v H1 μ1,l9 X.K H1 hid μ1 σ σv->Ext H μ H1 μ1->l7 X.K H1 hid μ1 O1->l8 X.K H1 hid μ1 d v->post Ex X.K rel' H1 hid μ1 (k d O1) Q->Q1 v H1):rdA Ex X.K t σv H Q1:=
 ⟨hid,μ,σ,O,e1,c1,post.bnd q fun d O1 v H1 μ1 x c r p=>f d O1 v H1 μ1 (e1.ext x) x c r p⟩
theorem zfS (hN:X.N[i]?=some x) (hv:Vis X.env.scope x) (hd:(x == ("__debug__":Str))=false:=by decide) (hcd:(x == ("__classdict__":Str))=false:=by decide):PD X Ex (.Name x pos) (z0U i):=
 z22 (z5D hN hv hd hcd) fun hid μ σ O σv H Q e1 c1 q=>by
  unfold z0U at q
  split at q
  ·rename_i d hd
   obtain ⟨v,h1,h2⟩:=e1.at_ i d hd
   exact ⟨v,h1,post.here q c1 h2⟩
  ·exact ak q
theorem zke:PD X Ex (.Constant (.int i) j pos) (dC (.int i)):=z22 zgi fun hid μ σ O σv H Q e1 c1 q=>post.here q c1 (by unfold Dat;rfl)
theorem zlp:PD X Ex (.Constant (.bool i) j pos) (dC (.bl i)):=z22 zlE fun hid μ σ O σv H Q e1 c1 q=>post.here q c1 (by unfold Dat;rfl)
theorem zjs:PD X Ex (.Constant .none j pos) (dC .non):=z22 zcL fun hid μ σ O σv H Q e1 c1 q=>post.here q c1 (by unfold Dat;rfl)
theorem zjx (cs:List Nat) (h:x=⟨cs.toArray⟩):PD X Ex (.Constant (.str x) j pos) (dC (.str cs)):=z22 zg5 fun hid μ σ O σv H Q e1 c1 q=>post.here q c1 (by unfold Dat;rw [h])
theorem zfF (cs:List Nat) (hg:Gl X x) (hm:X.mg x=some (.str y t)) (h:y=⟨cs.toArray⟩) (hd:(x == ("__debug__":Str))=false:=by decide):PD X Ex (.Name x pos) (dC (.str cs)):=
 z22 (z6L (v:=.str y) hg hm ⟨t,rfl⟩ hd) fun hid μ σ O σv H Q e1 c1 q=>post.here q c1 (by unfold Dat;rw [h])
def dOp (f:Ow->D->D->R D) (ta tb:DE):DE:=fun σ O=>(ta σ O).bnd fun x O1=>(tb σ O1).bnd fun y O2=>f O2 x y
def OpD (X:Cx) (Ex:Nat->Hp->Prop) (r:R2) (f:Ow->D->D->R D):Prop:=∀ (H:Hp) (hid μ:List af) (O:Ow) (x y:D) (v w:V) (Q:VK),l7 X.K H hid μ O->Dat X.K H hid μ x v->Dat X.K H hid μ y w->z1q Ex X.K H hid μ (f O x y) Q->r v w H Q
theorem zaO {r:R2} {f:Ow->D->D->R D} (h:OpD X Ex r f) (hid μ:List af) (σ:Sg) (O:Ow) (σv:St) (H:Hp) (Q:VK) (e1:l9 X.K H hid μ σ σv) (c1:l7 X.K H hid μ O) (q:z1q Ex X.K H hid μ (dOp f ta tb σ O) Q):
  tOp r (rd Ex X.K ta) (rd Ex X.K tb) σv H Q:=
 rd.go e1 c1 q fun x O1 v H1 μ1 e2 x2 c2 d2 q2=>rd.go e2 c2 q2 fun y O2 w H2 μ2 e3 x3 c3 d3 q3=>h H2 hid μ2 O2 x y v w Q c3 (d2.ext x3) d3 q3
theorem z5Q (ho:OpR X (cU op) r) (h:OpD X Ex r f) (ha:PD X Ex a ta) (hb:PD X Ex b tb):PD X Ex (.BinOp a op b pos) (dOp f ta tb):=
 z22 (zlV ho ha.out hb.out) (zaO h)
theorem z4G (ho:OpR X (b0 op) r) (h:OpD X Ex r f) (ha:PD X Ex a ta) (hb:PD X Ex b tb) (hm:behindInMarks op b=false):PD X Ex (.Compare a [op] [b] pos) (dOp f ta tb):=
 z22 (zch ho ha.out hb.out hm) (zaO h)
def z1W (t:DE):DT:=fun σ O=>(t σ O).bnd fun x O1=>match x with
 | .bl k=>.ok k O1
 | _=>.bad
theorem zaX (f:∀ hid μ σ O σv H Q,l9 X.K H hid μ σ σv->l7 X.K H hid μ O->z1q Ex X.K H hid μ (td σ O) Q->t σv H Q) (hid μ:List af) (σ:Sg) (O:Ow) (σv:St) (H:Hp) (Q:Bool->Hp->Prop)
  (e1:l9 X.K H hid μ σ σv) (c1:l7 X.K H hid μ O) (q:z5J Ex X.K H hid μ (z1W td σ O) Q):zio t σv H Q:=by
 refine f hid μ σ O σv H _ e1 c1 ?_
 refine post.bnd q fun d O1 v H1 μ1 x c r p=>?_
 cases d with
 | bl k=>
  have r:v=.bl k:=by unfold Dat at r;exact r
  exact ⟨k,r,post.here p c rfl⟩
 | _=>exact ak p
theorem z5h (ho:OpR X (b0 op) r) (h:OpD X Ex r f) (ha:PD X Ex a ta) (hb:PD X Ex b tb) (hm:behindInMarks op b=false):PDT X Ex (.Compare a [op] [b] pos) (z1W (dOp f ta tb)):=
 zbc (zcs ho ha.out hb.out hm) (zaX (zaO h))
def zmr (O:Ow):D->R Bool
 | .non=>.ok false O
 | .bl b=>.ok b O
 | .int i=>.ok (i != 0) O
 | .str cs=>if cs.length <= 100000 then .ok (!cs.isEmpty) O else .bad
 | .lst ds=>.ok (!ds.isEmpty) O
 | .tup ds=>.ok (!ds.isEmpty) O
 | .own k=>match O[k]? with
  | some ds=>.ok (!ds.isEmpty) O
  | none=>.bad
 | .dct=>.bad
 | .exn _=>.bad
 | .tab _=>.bad
 | .map _ _=>.bad
 | .adr _=>.bad
def z37 (t:DE):DT:=fun σ O=>(t σ O).bnd fun x O1=>zmr O1 x
theorem z1K {n:Nat} (h:n <= 100000):n <= sizeLine:=bb h (by decide)
theorem z2Q {K:aj} {H:Hp} {hid μ:List af} {ds:List D} {vs:List V} (h:l8 K H hid μ ds vs):(!ds.isEmpty) = !vs.isEmpty:=by
 have e:=h.length
 cases ds <;> cases vs <;> simp_all
theorem zhh (ha:PD X Ex a ta) (he:∀ whole,isTrue a X.env whole=(do let v <- whole;standAt a.pos;holding [v] (truthy v))):PDT X Ex a (z37 ta):=
 zbc (zes ha.out he) fun hid μ σ O σv H Q e1 c1 q=>rd.go e1 c1 q fun d O1 v H1 μ1 e2 x c r p=>by
  cases d with
  | non=>unfold Dat at r;subst r;exact ⟨_,rfl,post.here p c rfl⟩
  | bl b=>unfold Dat at r;subst r;exact ⟨_,rfl,post.here p c rfl⟩
  | int b=>unfold Dat at r;subst r;exact ⟨_,rfl,post.here p c rfl⟩
  | str cs=>
   unfold Dat at r;subst r
   by_cases hl:cs.length <= 100000
   ·have p':z5J Ex X.K H1 hid μ1 (.ok (!cs.isEmpty) O1) Q:=by
     have p2:z5J Ex X.K H1 hid μ1 (if cs.length <= 100000 then .ok (!cs.isEmpty) O1 else .bad) Q:=p
     rw [if_pos hl] at p2;exact p2
    refine ⟨_,⟨?_,rfl⟩,?_⟩
    ·show cs.toArray.size <= _
     rw [aA];exact z1K hl
    ·have e:(((⟨cs.toArray⟩:Str).length:Int) != 0) = !cs.isEmpty:=by
      show ((cs.toArray.size:Int) != 0)=_
      rw [aA]
      cases cs <;> simp [bne]
      omega
     rw [e];exact post.here p' c rfl
   ·have p2:z5J Ex X.K H1 hid μ1 (if cs.length <= 100000 then .ok (!cs.isEmpty) O1 else .bad) Q:=p
    rw [if_neg hl] at p2;exact ak p2
  | lst ds=>
   unfold Dat at r
   obtain ⟨a,vs,rfl,l,q⟩:=r
   exact ⟨_,.inl ⟨vs,l.sq,rfl⟩,by rw [<- z2Q q];exact post.here p c rfl⟩
  | tup ds=>
   unfold Dat at r
   obtain ⟨a,vs,rfl,l,q⟩:=r
   exact ⟨_,.inr (.inl ⟨vs,l.sq,rfl⟩),by rw [<- z2Q q];exact post.here p c rfl⟩
  | own k=>
   unfold Dat at r
   obtain ⟨a,rfl,hk⟩:=r
   obtain ⟨ds,vs,h1,h2,h3⟩:=c.at_ k a hk
   have p':z5J Ex X.K H1 hid μ1 (.ok (!ds.isEmpty) O1) Q:=by
    have p2:z5J Ex X.K H1 hid μ1 (match O1[k]? with|some ds=>.ok (!ds.isEmpty) O1|none=>.bad) Q:=p
    rw [h1] at p2;exact p2
   exact ⟨_,.inl ⟨vs,.of h2,rfl⟩,by rw [<- z2Q h3];exact post.here p' c rfl⟩
  | dct=>exact ak p
  | exn _=>exact ak p
  | tab _=>exact ak p
  | map _ _=>exact ak p
  | adr _=>exact ak p
def fI (g:Int->Int->Option D):Ow->D->D->R D:=fun O x y=>match x,y with
 | .int i,.int j=>match g i j with
  | some d=>.ok d O
  | none=>.bad
 | _,_=>.bad
theorem z5q (h:∀ i j d,g i j=some d->C i j/\∀ K H hid μ,Dat K H hid μ d (gv i j)):OpD X Ex (rI C gv) (fI g):=by
 intro H hid μ O x y v w Q c dx dy q
 unfold fI at q
 split at q
 ·rename_i i j
  unfold Dat at dx dy
  subst dx;subst dy
  split at q
  ·rename_i d hd
   obtain ⟨h1,h2⟩:=h i j d hd
   exact ⟨i,j,rfl,rfl,h1,post.here q c (h2 _ _ _ _)⟩
  ·exact ak q
 ·exact ak q
theorem z4S (h:∀ i j d,g i j=some d->∀ K H hid μ,Dat K H hid μ d (gv i j)):OpD X Ex (rI0 gv) (fI g):=by
 intro H hid μ O x y v w Q c dx dy q
 unfold fI at q
 split at q
 ·rename_i i j
  unfold Dat at dx dy
  subst dx;subst dy
  split at q
  ·rename_i d hd
   exact ⟨i,j,rfl,rfl,post.here q c (h i j d hd _ _ _ _)⟩
  ·exact ak q
 ·exact ak q
theorem z1r:Dat K H hid μ (.int i) (.int i):=by unfold Dat;rfl
theorem z2m {K H hid μ} {i:Bool}:Dat K H hid μ (.bl i) (.bl i):=by unfold Dat;rfl
theorem z5i:Dat K H hid μ .non .non:=by unfold Dat;rfl
theorem zaf:Dat K H hid μ (.str cs) (.str ⟨cs.toArray⟩):=by unfold Dat;rfl
def gB (p:Int->Int->Bool):Int->Int->Option D:=fun i j=>some (.bl (p i j))
def gI (p:Int->Int->Int):Int->Int->Option D:=fun i j=>some (.int (p i j))
def zfl:Int->Int->Option D:=gI fun i j=>i - j
def z8q:Int->Int->Option D:=fun i j=>if (-1000000000000000 < i/\i < 1000000000000000) \/ (-1000000000000000 < j/\j < 1000000000000000) then some (.int (i * j)) else none
def zbZ:Int->Int->Option D:=fun i j=>if 0 < j/\j < 1073741824 then some (.int (i / j)) else none
def z7D:Int->Int->Option D:=fun i j=>if 0 < j then some (.int (i % j)) else none
def zcK:Int->Int->Option D:=fun i j=>if 0 <= j/\j <= 1000000/\i.natAbs < 2 ^ 64 then some (.int (i ^ j.toNat)) else none
def ziR:Int->Int->Option D:=fun i j=>if 0 <= j/\j <= 1000000/\i.natAbs < 2 ^ 64 then some (.int (i * 2 ^ j.toNat)) else none
theorem zgE:OpD X Ex (rI0 fun i j=>.int (i - j)) (fI zfl):=z4S fun i j d h _ _ _ _=>by cases h;exact z1r
theorem zis:OpD X Ex (rI mJ fun i j=>.int (i * j)) (fI z8q):=z5q fun i j d h=>by
 unfold z8q at h;split at h
 ·rename_i hc;cases h;exact ⟨hc.imp (fun z=>⟨by omega,by omega⟩) fun z=>⟨by omega,by omega⟩,fun _ _ _ _=>z1r⟩
 ·cases h
theorem zhl:OpD X Ex (rI zmA fun i j=>.int (i / j)) (fI zbZ):=z5q fun i j d h=>by
 unfold zbZ at h;split at h
 ·rename_i hc;cases h;exact ⟨hc,fun _ _ _ _=>z1r⟩
 ·cases h
theorem zgz:OpD X Ex (rI (fun _ j=>0 < j) fun i j=>.int (i % j)) (fI z7D):=z5q fun i j d h=>by
 unfold z7D at h;split at h
 ·rename_i hc;cases h;exact ⟨hc,fun _ _ _ _=>z1r⟩
 ·cases h
theorem ziE:OpD X Ex (rI zl9 fun i j=>.int (i ^ j.toNat)) (fI zcK):=z5q fun i j d h=>by
 unfold zcK at h;split at h
 ·rename_i hc;cases h;exact ⟨hc,fun _ _ _ _=>z1r⟩
 ·cases h
theorem ziB:OpD X Ex (rI zl9 fun i j=>.int (i * 2 ^ j.toNat)) (fI ziR):=z5q fun i j d h=>by
 unfold ziR at h;split at h
 ·rename_i hc;cases h;exact ⟨hc,fun _ _ _ _=>z1r⟩
 ·cases h
def fLt:Ow->D->D->R D:=fI (gB fun i j=>decide (i < j))
def fLe:Ow->D->D->R D:=fI (gB fun i j=>decide (i <= j))
def fGe:Ow->D->D->R D:=fI (gB fun i j=>decide (j <= i))
theorem zde:OpD X Ex (rI0 fun i j=>.bl (decide (i < j))) fLt:=z4S fun i j d h _ _ _ _=>by cases h;exact z2m
theorem zcP:OpD X Ex (rI0 fun i j=>.bl (decide (i <= j))) fLe:=z4S fun i j d h _ _ _ _=>by cases h;exact z2m
theorem zg2:OpD X Ex (rI0 fun i j=>.bl (decide (j <= i))) fGe:=z4S fun i j d h _ _ _ _=>by cases h;exact z2m
def zhQ:D->Bool
 | .non=>true
 | _=>false
def zm7:Ow->D->D->R D:=fun O x y=>match y with
 | .non=>.ok (.bl (zhQ x)) O
 | _=>.bad
theorem zic (h:Dat K H hid μ x v):decide (v=.non)=zhQ x:=by
 cases x with
 | non=>unfold Dat at h;subst h;rfl
 | bl _=>unfold Dat at h;subst h;rfl
 | int _=>unfold Dat at h;subst h;rfl
 | str _=>unfold Dat at h;subst h;rfl
 | lst _=>unfold Dat at h;obtain ⟨_,_,rfl,_⟩:=h;rfl
 | tup _=>unfold Dat at h;obtain ⟨_,_,rfl,_⟩:=h;rfl
 | own _=>unfold Dat at h;obtain ⟨_,rfl,_⟩:=h;rfl
 | dct=>unfold Dat at h;obtain ⟨_,rfl,_⟩:=h;rfl
 | exn _=>unfold Dat at h;obtain ⟨_,_,rfl,_⟩:=h;rfl
 | tab _=>unfold Dat at h;obtain ⟨rfl,_⟩:=h;rfl
 | map _ _=>unfold Dat at h;obtain ⟨_,_,rfl,_⟩:=h;rfl
 | adr _=>unfold Dat at h;subst h;rfl
theorem zin:OpD X Ex (fun x y H Q=>y=.non/\Q (.bl (decide (x=.non))) H) zm7:=by
 intro H hid μ O x y v w Q c dx dy q
 cases y with
 | non=>
  unfold Dat at dy;subst dy
  refine ⟨rfl,?_⟩
  rw [zic dx]
  exact post.here (show z1q Ex X.K H hid μ (.ok (.bl (zhQ x)) O) Q from q) c z2m
 | _=>exact ak q
def zdx (t u:DE):DE:=fun σ O=>(t σ O).bnd fun x O1=>match x with
 | .bl true=>u σ O1
 | .bl false=>.ok (.bl false) O1
 | _=>.bad
def dOr (t u:DE):DE:=fun σ O=>(t σ O).bnd fun x O1=>match x with
 | .bl true=>.ok (.bl true) O1
 | .bl false=>u σ O1
 | _=>.bad
def zlH (t:DE):DE:=fun σ O=>(t σ O).bnd fun x O1=>match x with
 | .bl b=>.ok (.bl (!b)) O1
 | _=>.bad
def z4s (t u:DT):DT:=fun σ O=>(t σ O).bnd fun x O1=>if x=true then u σ O1 else .ok false O1
def zbD (t u:DT):DT:=fun σ O=>(t σ O).bnd fun x O1=>if x=true then .ok true O1 else u σ O1
def z2W (t:DT):DT:=fun σ O=>(t σ O).bnd fun x O1=>.ok (!x) O1
theorem zjV (ha:PD X Ex a ta):PD X Ex (.BoolOp op [a] pos) ta:=⟨zjT ha.out⟩
theorem zjU {z2C:List aK} (ha:PD X Ex a ta) (hb:PD X Ex (.BoolOp .And (b :: z2C) pos) tb):PD X Ex (.BoolOp .And (a :: b :: z2C) pos) (zdx ta tb):=
 z22 (zjZ ha.out hb.out) fun hid μ σ O σv H Q e1 c1 q=>rd.go e1 c1 q fun d O1 v H1 μ1 e2 x c r p=>by
  cases d with
  | bl k=>
   unfold Dat at r;subst r
   refine ⟨k,rfl,?_⟩
   cases k with
   | true=>rw [if_pos rfl];exact ⟨hid,μ1,σ,O1,e2,c,p⟩
   | false=>rw [if_neg bH];exact post.here p c z2m
  | _=>exact ak p
theorem zlZ {z2C:List aK} (ha:PD X Ex a ta) (hb:PD X Ex (.BoolOp .Or (b :: z2C) pos) tb):PD X Ex (.BoolOp .Or (a :: b :: z2C) pos) (dOr ta tb):=
 z22 (zlL ha.out hb.out) fun hid μ σ O σv H Q e1 c1 q=>rd.go e1 c1 q fun d O1 v H1 μ1 e2 x c r p=>by
  cases d with
  | bl k=>
   unfold Dat at r;subst r
   refine ⟨k,rfl,?_⟩
   cases k with
   | true=>rw [if_pos rfl];exact post.here p c z2m
   | false=>rw [if_neg bH];exact ⟨hid,μ1,σ,O1,e2,c,p⟩
  | _=>exact ak p
theorem zkG (ha:PD X Ex a ta):PD X Ex (.UnaryOp .Not a pos) (zlH ta):=
 z22 (zj9 ha.out) fun hid μ σ O σv H Q e1 c1 q=>rd.go e1 c1 q fun d O1 v H1 μ1 e2 x c r p=>by
  cases d with
  | bl k=>unfold Dat at r;subst r;exact ⟨k,rfl,post.here p c z2m⟩
  | _=>exact ak p
structure PDW (X:Cx) (Ex:Nat->Hp->Prop) (e:aK) (t:DT):Prop where
 out:PW X e (rdT Ex X.K t)
theorem PDW.pt (h:PDW X Ex e t):PDT X Ex e t:=⟨L2.PW.pt h.out⟩
theorem zg9 {e:aK} {t:TT} {t':DT} (h:PW X e t) (f:∀ hid μ σ O σv H Q,l9 X.K H hid μ σ σv->l7 X.K H hid μ O->z5J Ex X.K H hid μ (t' σ O) Q->t σv H Q):PDW X Ex e t':=
 ⟨PW.imp h fun σv H Q ⟨hid,μ,σ,O,e1,c1,q⟩=>f hid μ σ O σv H Q e1 c1 q⟩
theorem zgX {z2C:List aK} {tA tB:DT} (ha:PDT X Ex a tA) (hb:PDW X Ex (.BoolOp .And (b :: z2C) pos) tB):PDW X Ex (.BoolOp .And (a :: b :: z2C) pos) (z4s tA tB):=
 zg9 (zj3 ha.out hb.out) fun hid μ σ O σv H Q e1 c1 q=>rdT.go e1 c1 q fun k O1 H1 μ1 e2 x c p=>by
  cases k with
  | true=>rw [if_pos rfl];exact ⟨hid,μ1,σ,O1,e2,c,p⟩
  | false=>rw [if_neg bH];exact post.here p c rfl
theorem zjB {z2C:List aK} {tA tB:DT} (ha:PDT X Ex a tA) (hb:PDW X Ex (.BoolOp .Or (b :: z2C) pos) tB):PDW X Ex (.BoolOp .Or (a :: b :: z2C) pos) (zbD tA tB):=
 zg9 (zlU ha.out hb.out) fun hid μ σ O σv H Q e1 c1 q=>rdT.go e1 c1 q fun k O1 H1 μ1 e2 x c p=>by
  cases k with
  | true=>rw [if_pos rfl];exact post.here p c rfl
  | false=>rw [if_neg bH];exact ⟨hid,μ1,σ,O1,e2,c,p⟩
theorem zfm (ha:PDT X Ex a tA):PDW X Ex (.BoolOp .And [a] pos) tA:=⟨zi8 ha.out⟩
theorem zgJ (ha:PDT X Ex a tA):PDW X Ex (.BoolOp .Or [a] pos) tA:=⟨zj1 ha.out⟩
theorem ziy {tA:DT} (ha:PDT X Ex a tA):PDT X Ex (.UnaryOp .Not a pos) (z2W tA):=
 zbc (ziX ha.out) fun hid μ σ O σv H Q e1 c1 q=>rdT.go e1 c1 q fun k O1 H1 μ1 e2 x c p=>post.here p c rfl
def zcE (f g:Ow->D->D->R D) (ta tb tc:DE):DE:=fun σ O=>(ta σ O).bnd fun x O1=>(tb σ O1).bnd fun y O2=>(f O2 x y).bnd fun z O3=>match z with
 | .bl true=>(tc σ O3).bnd fun w O4=>g O4 y w
 | .bl false=>.ok (.bl false) O3
 | _=>.bad
theorem zfb {op op':CmpOp} {r r':R2} {f g:Ow->D->D->R D} (ho:OpR X (b0 op) r) (h:OpD X Ex r f) (ho':OpR X (b0 op') r') (h':OpD X Ex r' g) (ha:PD X Ex a ta) (hb:PD X Ex b tb) (hc:PD X Ex c tc)
  (hm:lastMarks [op,op'] [b,c]=false:=by with_unfolding_all rfl):PD X Ex (.Compare a [op,op'] [b,c] pos) (zcE f g ta tb tc):=
 z22 (zf1 ho ho' ha.out hb.out hc.out hm) fun hid μ σ O σv H Q e1 c1 q=>rd.go e1 c1 q fun x O1 v H1 μ1 e2 x2 c2 d2 q2=>rd.go e2 c2 q2 fun y O2 w H2 μ2 e3 x3 c3 d3 q3=>
  h H2 hid μ2 O2 x y v w _ c3 (d2.ext x3) d3 (post.bnd q3 fun z O3 u H3 μ3 x4 c4 r4 p=>by
   cases z with
   | bl k=>
    unfold Dat at r4;subst r4
    refine ⟨k,rfl,?_⟩
    cases k with
    | true=>rw [if_pos rfl];exact rd.go (e3.ext x4) c4 p fun w2 O4 v4 H4 μ4 e5 x5 c5 d5 q5=>h' H4 hid μ4 O4 y w2 w v4 Q c5 ((d3.ext x4).ext x5) d5 q5
    | false=>rw [if_neg bH];exact post.here p c4 z2m
   | _=>exact ak p)
def z0X:DA:=fun _ O=>.ok [] O
def z0T (t:DE) (u:DA):DA:=fun σ O=>(t σ O).bnd fun x O1=>(u σ O1).bnd fun xs O2=>.ok (x :: xs) O2
theorem zhy:PDA X Ex [] z0X:=zg0 z3r fun hid μ σ O σv H Q e1 c1 q=>post.here q c1 .nil
theorem zeP {es:List aK} {t:DA} (ha:PD X Ex a ta) (hr:PDA X Ex es t) (hs:aD (a :: es) X.env=(false,eval a X.env) :: aD es X.env:=by rfl):PDA X Ex (a :: es) (z0T ta t):=
 zg0 (z1P ha.out hr.out hs) fun hid μ σ O σv H Q e1 c1 q=>rd.go e1 c1 q fun x O1 v H1 μ1 e2 x2 c2 d2 q2=>rdA.go e2 c2 q2 fun y O2 w H2 μ2 e3 x3 c3 d3 q3=>post.here q3 c3 (.cons (d2.ext x3) d3)
def z3T (t:DA):DE:=fun σ O=>(t σ O).bnd fun xs O1=>if xs.length <= 100000 then .ok (.tup xs) O1 else .bad
def z2J (t:DA):DE:=fun σ O=>(t σ O).bnd fun xs O1=>if xs.length <= 100000 then .ok (.lst xs) O1 else .bad
def z4w (t:DA):DE:=fun σ O=>(t σ O).bnd fun xs O1=>if xs.length <= 100000 then .ok (.own O1.length) (O1 ++ [xs]) else .bad
theorem post.iteN {α β:Type} {K:aj} {H:Hp} {hid μ:List af} {rel:Hp->List af->α->β->Prop} {Q:β->Hp->Prop} {b:Bool} {r:R α} (h:post Ex K rel H hid μ (if b=true then .bad else r) Q):b=false/\post Ex K rel H hid μ r Q:=by
 cases b with
 | true=>exact ak h
 | false=>exact ⟨rfl,h⟩
theorem post.ite {α β:Type} {K:aj} {H:Hp} {hid μ:List af} {rel:Hp->List af->α->β->Prop} {Q:β->Hp->Prop} {c:Prop} [Decidable c] {r:R α} (h:post Ex K rel H hid μ (if c then r else .bad) Q):c/\post Ex K rel H hid μ r Q:=by
 by_cases hc:c
 ·rw [if_pos hc] at h;exact ⟨hc,h⟩
 ·rw [if_neg hc] at h;exact ak h
theorem zkn (h:PDA X Ex es t):PD X Ex (.Tuple es x1 pos) (z3T t):=
 z22 (zfR h.out) fun hid μ σ O σv H Q e1 c1 q=>rdA.go e1 c1 q fun xs O1 vs H1 μ1 e2 x2 c2 d2 q2=>by
  obtain ⟨hl,q2⟩:=post.ite q2
  exact ⟨by rw [<- d2.length];exact z1K hl,fun p hp=>post.ok q2 (.laid hp) (c2.laid hp) (Dat.newT c2 hp d2)⟩
theorem zl0 (h:PDA X Ex es t):PD X Ex (.List es pos) (z2J t):=
 z22 (zb1 h.out) fun hid μ σ O σv H Q e1 c1 q=>rdA.go e1 c1 q fun xs O1 vs H1 μ1 e2 x2 c2 d2 q2=>by
  obtain ⟨hl,q2⟩:=post.ite q2
  exact ⟨by rw [<- d2.length];exact z1K hl,fun p hp=>post.ok q2 (.laid hp) (c2.laid hp) (Dat.newL c2 hp d2)⟩
theorem z2f (h:μ.length=n):Dat K H hid (μ ++ [p]) (.own n) (.ref p):=by
 unfold Dat
 exact ⟨p,rfl,by rw [<- h];simp⟩
theorem zh8 (h:PDA X Ex es t):PD X Ex (.List es pos) (z4w t):=
 z22 (zb1 h.out) fun hid μ σ O σv H Q e1 c1 q=>rdA.go e1 c1 q fun xs O1 vs H1 μ1 e2 x2 c2 d2 q2=>by
  obtain ⟨hl,q2⟩:=post.ite q2
  exact ⟨by rw [<- d2.length];exact z1K hl,fun p hp=>post.ok q2 (.cell hp) (c2.cell hp d2) (z2f c2.len)⟩
end
inductive Src where
 | val (ds:List D)
 | own (k:Nat)
 | zip (a b:Src)
 deriving Repr,Inhabited
def Src.get:Src->Ow->Nat->Option D
 | .val ds,_,i=>ds[i]?
 | .own k,O,i=>match O[k]? with
  | some ds=>ds[i]?
  | none=>none
 | .zip a b,O,i=>match a.get O i,b.get O i with
  | some x,some y=>some (.tup [x,y])
  | _,_=>none
def Src.size:Src->Ow->Nat
 | .val ds,_=>ds.length
 | .own k,O=>match O[k]? with
  | some ds=>ds.length
  | none=>0
 | .zip a b,O=>min (a.size O) (b.size O)
abbrev DI:=Sg->Ow->R Src
def mf (K:aj) (J:It) (src:Src) (H:Hp) (hid μ:List af):Prop:=∀ hid' H' μ' O',Mv H hid μ H' hid' μ'->l7 K H' hid' μ' O'->∀ i,
 match src.get O' i with
 | some d=>J.go i H'/\∀ x H'',J.yld i H' x H''->Ext H' μ' H'' μ'/\l7 K H'' hid' μ' O'/\Dat K H'' hid' μ' d x
 | none=>J.stop i H'
def rdI (Ex:Nat->Hp->Prop) (K:aj) (t:DI):TI:=fun σv H Rr=>∃ hid μ σ O,l9 K H hid μ σ σv/\l7 K H hid μ O/\post Ex K (fun H' μ' s J=>mf K J s H' hid μ') H hid μ (t σ O) Rr
structure PDI (X:Cx) (Ex:Nat->Hp->Prop) (tg iter:aK) (t:DI):Prop where
 out:PI X tg iter (rdI Ex X.K t)
theorem mf.mv (h:mf K J src H hid μ) (e:Mv H hid μ H1 hid1 μ1):mf K J src H1 hid1 μ1:=
 fun hid' H' μ' O' m c=>h hid' H' μ' O' (e.trans m) c
theorem mf.val (l:LstAt K H hid μ a vs) (q:l8 K H hid μ ds vs):mf K (Itl K a) (.val ds) H hid μ:=by
 intro hid' H' μ' O' m c i
 have sq:=(l.mv m).sq
 have q':=q.mv m
 show match ds[i]? with|some d=>_|none=>_
 cases e:ds[i]? with
 | some d=>
  obtain ⟨v,h1,h2⟩:=q'.get e
  refine ⟨⟨vs,v,sq,h1⟩,fun x H'' y=>?_⟩
  obtain ⟨rfl,y⟩:=y
  have:=y vs sq
  rw [h1] at this;cases this
  exact ⟨.refl,c,h2⟩
 | none=>
  refine ⟨vs,sq,?_⟩
  have:=aQ.mp e
  rw [<- q.length];exact this
theorem mf.tup (l:TupAt K H hid μ a vs) (q:l8 K H hid μ ds vs):mf K (Itt K a) (.val ds) H hid μ:=by
 intro hid' H' μ' O' m c i
 have sq:=(l.mv m).sq
 have q':=q.mv m
 show match ds[i]? with|some d=>_|none=>_
 cases e:ds[i]? with
 | some d=>
  obtain ⟨v,h1,h2⟩:=q'.get e
  refine ⟨⟨vs,v,sq,h1⟩,fun x H'' y=>?_⟩
  obtain ⟨rfl,y⟩:=y
  have:=y vs sq
  rw [h1] at this;cases this
  exact ⟨.refl,c,h2⟩
 | none=>
  refine ⟨vs,sq,?_⟩
  have:=aQ.mp e
  rw [<- q.length];exact this
theorem mf.own (hk:μ[k]?=some a):mf K (Itl K a) (.own k) H hid μ:=by
 intro hid' H' μ' O' m c i
 obtain ⟨ν,rfl⟩:=m.pre
 have hk':(μ ++ ν)[k]?=some a:=by rw [aL (ao.mp hk).1];exact hk
 obtain ⟨ds,vs,h1,h2,h3⟩:=c.at_ k a hk'
 have sq:SqL K H' a vs:=.of h2
 show match (match O'[k]? with|some ds=>ds[i]?|none=>none) with|some d=>_|none=>_
 rw [h1]
 show match ds[i]? with|some d=>_|none=>_
 cases e:ds[i]? with
 | some d=>
  obtain ⟨v,g1,g2⟩:=h3.get e
  refine ⟨⟨vs,v,sq,g1⟩,fun x H'' y=>?_⟩
  obtain ⟨rfl,y⟩:=y
  have:=y vs sq
  rw [g1] at this;cases this
  exact ⟨.refl,c,g2⟩
 | none=>
  refine ⟨vs,sq,?_⟩
  have:=aQ.mp e
  rw [<- h3.length];exact this
def Its (x:Str):It:=⟨fun i _=>i < x.cps.size,fun i H v H'=>H'=H/\∃ c,x.cps[i]?=some c/\v=.str ⟨#[c]⟩,fun i _=>x.cps.size <= i⟩
theorem mf.str {K:aj} {H:Hp} {hid μ:List af} {cs:List Nat}:mf K (Its ⟨cs.toArray⟩) (.val (cs.map fun c=>.str [c])) H hid μ:=by
 intro hid' H' μ' O' m c i
 show match (cs.map fun c=>D.str [c])[i]? with|some d=>_|none=>_
 rw [bc]
 cases e:cs[i]? with
 | some d=>
  have hi:=(ao.mp e).1
  refine ⟨by show i < cs.toArray.size;simpa using hi,fun x H'' y=>?_⟩
  obtain ⟨rfl,z,h1,rfl⟩:=y
  have h1':cs.toArray[i]?=some z:=h1
  rw [gz,e] at h1'
  cases h1'
  refine ⟨.refl,c,?_⟩
  unfold Dat
  rfl
 | none=>
  have:=aQ.mp e
  show cs.toArray.size <= i
  simpa using this
theorem mf.rng:mf K (Itr lo n) (.val ((aU n).map fun i=>.int (lo + (i:Nat)))) H hid μ:=by
 intro hid' H' μ' O' m c i
 show match ((aU n).map fun i=>D.int (lo + (i:Nat)))[i]? with|some d=>_|none=>_
 rw [bc]
 by_cases hi:i < n
 ·rw [gY hi]
  refine ⟨hi,fun x H'' y=>?_⟩
  obtain ⟨rfl,rfl⟩:=y
  exact ⟨.refl,c,z1r⟩
 ·rw [aQ.mpr (by simpa using hi)]
  exact iR.mp hi
theorem zfq (x:Str) (t:Tok) (it:af):zdJ P w K tg (Its x) [it] it (fun i h=>h.IsStrIter it (strIterType x) x t i) where
 mem:=by simp
 obj:=fun i h st b hb=>by
  have e:b=it:=by simpa using hb
  subst e
  obtain ⟨o,e,c,d⟩:=st
  exact ⟨o,e,fun v z=>by rw [d] at z;cases z⟩
 keep:=fun i h h' st k=>by
  obtain ⟨o,e,c,d⟩:=st
  exact ⟨o,k it (by simp) o e,c,d⟩
 item:=by
  intro X hP hw hK hc i pins s σ H E I hf st hg
  subst hP hw hK
  obtain ⟨f0,f1,f2,f3,f4,f5⟩:=hf it (by simp)
  obtain ⟨ch,hx⟩:∃ c,x.cps[i]?=some c:=⟨_,aV (show i < x.cps.size from hg)⟩
  have go:∀ (ty:String),(["enumerate", "zip", "dict_itemiterator", "dict_reverseitemiterator", "odict_iterator", "itertools.zip_longest", "itertools.pairwise"].contains ty=false)->strIterType x=ty->∀ h',h'.IsStrIter it ty x t (i + 1)->cr it s.heap h'->
    ∃ u,some (ik ⟨#[ch]⟩ s.toks)=some u/\ar (ay X.prog X.w) X.A (letOwnedTupleGo tg (.ref it) u) (fun _ s2=>∃ y H',Inv X pins σ H' s2/\RelV y u/\(Its x).yld i H y H'/\s2.heap.IsStrIter it (strIterType x) x t (i + 1)/\∀ b ∈ [it],H' b=none) E { s with heap:=h',toks:=s.toks + 1 }:=by
   intro ty hn et h' st' sb
   have I1:Inv X pins σ H { s with heap:=h',toks:=s.toks + 1 }:=I.turned (t':=s.toks + 1) (fun b o hb e=>(sb.2 b hb).trans e) f0 f1 f3 f4 f5
   obtain ⟨o,e,c,d⟩:=id st'
   refine ⟨_,rfl,zew (s:={ s with heap:=h',toks:=s.toks + 1 }) e c d hn ⟨.str ⟨#[ch]⟩,H,I1,⟨_,rfl⟩,⟨rfl,_,hx,rfl⟩,?_,fun b hb=>(hf b hb).1⟩⟩
   rw [et];exact st'
  unfold strIterType at st go ⊢
  split at st
  ·rename_i ha
   exact wpAny_pyNext_ascii_item st hx fun h' st' sb=>go "str_ascii_iterator" (by decide) (by rw [if_pos ha]) h' st' sb
  ·rename_i ha
   exact wpAny_pyNext_wide_item st hx fun h' st' sb=>go "str_iterator" (by decide) (by rw [if_neg ha]) h' st' sb
 done:=by
  intro X hP hw hK hc i pins s σ H E I hf st hg
  subst hP hw hK
  obtain ⟨f0,f1,f2,f3,f4,f5⟩:=hf it (by simp)
  have hx:x.cps[i]?=none:=by
   have:x.cps.size <= i:=hg
   simp [this]
  unfold strIterType at st
  split at st
  ·exact wpAny_pyNext_ascii_end (I.ok.hd hc) st hx fun h' eb=>⟨rfl,I.turned (t':=s.toks) (fun b o hb e=>eb b o hb e) f0 f1 f3 f4 f5⟩
  ·exact wpAny_pyNext_wide_end (I.ok.hd hc) st hx fun h' eb=>⟨rfl,I.turned (t':=s.toks) (fun b o hb e=>eb b o hb e) f0 f1 f3 f4 f5⟩
 self:=fun _ _ s _ _ st h=>by
  unfold strIterType at st
  split at st
  ·exact wpAny_pyIter_striter_ascii st h
  ·exact wpAny_pyIter_striter_wide st h
section
variable {X:Cx} {Ex:Nat->Hp->Prop} {pos:Pos} {a b c tg:aK} {ta:DE}
def ziW (O:Ow):D->R Src
 | .lst ds=>.ok (.val ds) O
 | .tup ds=>.ok (.val ds) O
 | .str cs=>.ok (.val (cs.map fun c=>.str [c])) O
 | .own k=>.ok (.own k) O
 | _=>.bad
def dIt (t:DE):DI:=fun σ O=>(t σ O).bnd fun x O1=>ziW O1 x
theorem zck (ha:PD X Ex a ta):PDI X Ex tg a (dIt ta):=by
 refine ⟨?_⟩
 rintro pins s σv H Rr I ⟨hid,μ,σ,O,e1,c1,q⟩
 refine thn (ha.out pins s σv H _ I (rd.go e1 c1 q (Q1:=fun v H1=>∃ hid μ1 O1 d,l7 X.K H1 hid μ1 O1/\Dat X.K H1 hid μ1 d v/\post Ex X.K (fun H' μ' s J=>mf X.K J s H' hid μ') H1 hid μ1 (ziW O1 d) Rr)
  fun d O1 v H1 μ1 e2 x c r p=>⟨hid,μ1,O1,d,c,r,p⟩)) fun u s1 ⟨v,H1,I1,ru,hid,μ1,O1,d,c,r,p⟩=>?_
 have new:∀ (b:af),b ∈ [s1.heap.objs.size]->z8u X pins H1 b:=fun b hb=>by
  have e:b=s1.heap.objs.size:=by simpa using hb
  subst e
  exact I1.fpOk (aB _) (I1.hok.fresh (aB _))
 cases d with
 | lst ds=>
  unfold Dat at r
  obtain ⟨a,vs,rfl,l,q⟩:=r
  cases ru
  obtain ⟨its,rv,p1,hz⟩:=I1.list l.sq
  refine fe p1.isList ?_
  exact ⟨s1.heap.objs.size,[s1.heap.objs.size],_,_,H1,rfl,I1.kept (t':=s1.toks) fun b o e=>ah _ e,z9g a _,⟨_,aC _ rfl,rfl,rfl⟩,new,post.here p c (.val l q)⟩
 | tup ds=>
  unfold Dat at r
  obtain ⟨a,vs,rfl,l,q⟩:=r
  cases ru
  obtain ⟨its,rv,p1,hz⟩:=I1.tuple l.sq
  refine kC (show s1.heap.IsTuple a its.toArray from p1) ?_
  exact ⟨s1.heap.objs.size,[s1.heap.objs.size],_,_,H1,rfl,I1.kept (t':=s1.toks) fun b o e=>ah _ e,zbW a _,⟨_,aC _ rfl,rfl,rfl⟩,new,post.here p c (.tup l q)⟩
 | str cs=>
  unfold Dat at r
  subst r
  obtain ⟨t,rfl⟩:=ru
  refine wpAny_pyIter_strU ?_
  exact ⟨s1.heap.objs.size,[s1.heap.objs.size],_,_,H1,rfl,I1.kept (t':=s1.toks) fun b o e=>ah _ e,zfq ⟨cs.toArray⟩ t _,⟨_,aC _ rfl,rfl,rfl⟩,new,post.here p c .str⟩
 | own k=>
  unfold Dat at r
  obtain ⟨a,rfl,hk⟩:=r
  cases ru
  obtain ⟨ds,vs,h1,h2,h3⟩:=c.at_ k a hk
  obtain ⟨its,rv,p1,hz⟩:=I1.list (.of h2)
  refine fe p1.isList ?_
  exact ⟨s1.heap.objs.size,[s1.heap.objs.size],_,_,H1,rfl,I1.kept (t':=s1.toks) fun b o e=>ah _ e,z9g a _,⟨_,aC _ rfl,rfl,rfl⟩,new,post.here p c (.own hk)⟩
 | _=>exact ak p
def zge (lo hi:Int):Src:=.val ((aU (hi - lo).toNat).map fun i=>.int (lo + (i:Nat)))
def z31 (t:DA):DI:=fun σ O=>(t σ O).bnd fun xs O1=>match xs with
 | [.int j]=>if -1000000 <= j/\j <= 1000000 then .ok (zge 0 j) O1 else .bad
 | _=>.bad
theorem PI.imp (h:PI X tg iter t) (f:∀ σ H Q,t' σ H Q->t σ H Q):PI X tg iter t':=fun pins s σ H Q I q=>h pins s σ H Q I (f σ H Q q)
theorem z3S (h:l8 K H hid μ [d] vs):∃ v,vs=[v]/\Dat K H hid μ d v:=by
 unfold l8 at h
 obtain ⟨v,r,rfl,h1,h2⟩:=h
 unfold l8 at h2
 subst h2
 exact ⟨v,rfl,h1⟩
theorem zcV (h:l8 K H hid μ [d,e] vs):∃ v w,vs=[v,w]/\Dat K H hid μ d v/\Dat K H hid μ e w:=by
 unfold l8 at h
 obtain ⟨v,r,rfl,h1,h2⟩:=h
 obtain ⟨w,rfl,h3⟩:=z3S h2
 exact ⟨v,w,rfl,h1,h3⟩
theorem zbx (hg:Gl X "range") (hm:X.mg "range" = none) (ha:PDA X Ex [a] t) (hs:aD [a] X.env=[(false,eval a X.env)]:=by rfl):PDI X Ex tg (.Call (.Name "range" p) [a] [] pos) (z31 t):=
 PDI.mk <| PI.imp (zcg hg hm ha.out hs) fun σv H Q ⟨hid,μ,σ,O,e1,c1,q⟩=>rdA.go e1 c1 q fun d O1 vs H1 μ1 e2 x c r p=>by
  split at p
  ·rename_i j
   obtain ⟨⟨h1,h2⟩,p⟩:=post.ite p
   obtain ⟨v,rfl,hv⟩:=z3S r
   unfold Dat at hv;subst hv
   refine ⟨j,rfl,by omega,by omega,?_⟩
   have:=post.here p c (mf.rng (lo:=0) (n:=(j - 0).toNat))
   simpa using this
  ·exact ak p
end
inductive RS where
 | nx (σ:Sg) (O:Ow)
 | rt (d:D) (O:Ow)
 | bk (σ:Sg) (O:Ow)
 | ct (σ:Sg) (O:Ow)
 | exc (c:Nat) (O:Ow)
 | bad
 deriving Repr,Inhabited
abbrev DS:=Sg->Ow->RS
def R.bnS {α:Type} (r:R α) (k:α->Ow->RS):RS:=match r with
 | .ok a O=>k a O
 | .exc c O=>.exc c O
 | .bad=>.bad
section
variable (Ex:Nat->Hp->Prop) (K:aj)
def md (H:Hp) (hid μ:List af) (r:RS) (E:zd0):Prop:=match r with
 | .nx σ O=>∀ σv H' μ',Ext H μ H' μ'->l9 K H' hid μ' σ σv->l7 K H' hid μ' O->E.nx σv H'
 | .rt d O=>∀ v H' μ',Ext H μ H' μ'->l7 K H' hid μ' O->Dat K H' hid μ' d v->E.rt v H'
 | .bk σ O=>∀ σv H' μ',Ext H μ H' μ'->l9 K H' hid μ' σ σv->l7 K H' hid μ' O->E.bk σv H'
 | .ct σ O=>∀ σv H' μ',Ext H μ H' μ'->l9 K H' hid μ' σ σv->l7 K H' hid μ' O->E.ct σv H'
 | .exc c O=>∀ H' μ',Ext H μ H' μ'->l7 K H' hid μ' O->Ex c H'
 | .bad=>False
def rds (t:DS):TS:=fun E σv H=>∃ hid μ σ O,l9 K H hid μ σ σv/\l7 K H hid μ O/\md Ex K H hid μ (t σ O) E
end
structure PDS (X:Cx) (Ex:Nat->Hp->Prop) (st:cu) (t:DS):Prop where
 out:PS X st (rds Ex X.K t)
structure z5F (X:Cx) (Ex:Nat->Hp->Prop) (st:List cu) (t:DS):Prop where
 out:PSs X st (rds Ex X.K t)
theorem PS.imp (h:PS X st t) (f:∀ E σ H,t' E σ H->t E σ H):PS X st t':=fun pins s σ H D I q=>h pins s σ H D I (f D σ H q)
theorem PSs.imp (h:PSs X st t) (f:∀ E σ H,t' E σ H->t E σ H):PSs X st t':=fun pins s σ H D I q=>h pins s σ H D I (f D σ H q)
section
variable {Ex:Nat->Hp->Prop} {K:aj} {H H1:Hp} {hid μ μ1:List af}
theorem md.ext {r:RS} {E:zd0} (h:md Ex K H hid μ r E) (e:Ext H μ H1 μ1):md Ex K H1 hid μ1 r E:=by
 cases r with
 | nx σ O=>exact fun σv H' μ' e' a b=>h σv H' μ' (e.trans e') a b
 | bk σ O=>exact fun σv H' μ' e' a b=>h σv H' μ' (e.trans e') a b
 | ct σ O=>exact fun σv H' μ' e' a b=>h σv H' μ' (e.trans e') a b
 | rt d O=>exact fun v H' μ' e' a b=>h v H' μ' (e.trans e') a b
 | exc c O=>exact fun H' μ' e' a=>h H' μ' (e.trans e') a
 | bad=>exact h
theorem md.bnS {α β:Type} {rel:Hp->List af->α->β->Prop} {r:R α} {k:α->Ow->RS} {E:zd0} {Q1:β->Hp->Prop} (h:md Ex K H hid μ (r.bnS k) E)
  (hk:∀ d O1 v H1 μ1,Ext H μ H1 μ1->l7 K H1 hid μ1 O1->rel H1 μ1 d v->md Ex K H1 hid μ1 (k d O1) E->Q1 v H1):post Ex K rel H hid μ r Q1:=by
 cases r with
 | ok d O'=>exact fun v H' μ' e c q=>hk d O' v H' μ' e c q (md.ext (show md Ex K H hid μ (k d O') E from h) e)
 | exc c O'=>exact h
 | bad=>exact h
end
section
variable {X:Cx} {Ex:Nat->Hp->Prop} {pos:Pos} {a b c e tg:aK} {tb tc te:DE}
theorem z56 {st:cu} {t:TS} {t':DS} (h:PS X st t) (f:∀ hid μ σ O E σv H,l9 X.K H hid μ σ σv->l7 X.K H hid μ O->md Ex X.K H hid μ (t' σ O) E->t E σv H):PDS X Ex st t':=
 ⟨PS.imp h fun E σv H ⟨hid,μ,σ,O,e1,c1,q⟩=>f hid μ σ O E σv H e1 c1 q⟩
theorem z9U (h:PSs X st t) (f:∀ hid μ σ O E σv H,l9 X.K H hid μ σ σv->l7 X.K H hid μ O->md Ex X.K H hid μ (t' σ O) E->t E σv H):z5F X Ex st t':=
 ⟨PSs.imp h fun E σv H ⟨hid,μ,σ,O,e1,c1,q⟩=>f hid μ σ O E σv H e1 c1 q⟩
theorem rd.goS {t:DE} {hid μ:List af} {σ:Sg} {O:Ow} {σv:St} {H:Hp} {Q1:VK} {k:D->Ow->RS} {E:zd0} (e1:l9 X.K H hid μ σ σv) (c1:l7 X.K H hid μ O)
  (q:md Ex X.K H hid μ ((t σ O).bnS k) E)
  (f:∀ d O1 v H1 μ1,l9 X.K H1 hid μ1 σ σv->Ext H μ H1 μ1->l7 X.K H1 hid μ1 O1->Dat X.K H1 hid μ1 d v->md Ex X.K H1 hid μ1 (k d O1) E->Q1 v H1):rd Ex X.K t σv H Q1:=
 ⟨hid,μ,σ,O,e1,c1,md.bnS q fun d O1 v H1 μ1 x c r p=>f d O1 v H1 μ1 (e1.ext x) x c r p⟩
theorem rdT.goS {t:DT} {hid μ:List af} {σ:Sg} {O:Ow} {σv:St} {H:Hp} {Q1:Bool->Hp->Prop} {k:Bool->Ow->RS} {E:zd0} (e1:l9 X.K H hid μ σ σv) (c1:l7 X.K H hid μ O)
  (q:md Ex X.K H hid μ ((t σ O).bnS k) E)
  (f:∀ v O1 H1 μ1,l9 X.K H1 hid μ1 σ σv->Ext H μ H1 μ1->l7 X.K H1 hid μ1 O1->md Ex X.K H1 hid μ1 (k v O1) E->Q1 v H1):rdT Ex X.K t σv H Q1:=
 ⟨hid,μ,σ,O,e1,c1,md.bnS q fun d O1 v H1 μ1 x c r p=>by
  have r:d=v:=r
  subst r
  exact f d O1 H1 μ1 (e1.ext x) x c p⟩
def z2j:DS:=fun σ O=>.nx σ O
def z1e (t u:DS):DS:=fun σ O=>match t σ O with
 | .nx σ' O'=>u σ' O'
 | r=>r
theorem zbi:z5F X Ex [] z2j:=z9U zc6 fun hid μ σ O E σv H e1 c1 q=>q σv H μ .refl e1 c1
theorem z0W {st:cu} {z2C:List cu} {t u:DS} (h1:PDS X Ex st t) (h2:z5F X Ex z2C u):z5F X Ex (st :: z2C) (z1e t u):=
 z9U (z2N h1.out h2.out) fun hid μ σ O E σv H e1 c1 q=>by
  refine ⟨hid,μ,σ,O,e1,c1,?_⟩
  unfold z1e at q
  cases ht:t σ O with
  | nx σ' O'=>
   rw [ht] at q
   exact fun σv' H' μ' e2 a b=>⟨hid,μ',σ',O',a,b,q.ext e2⟩
  | rt d O'=>rw [ht] at q;exact q
  | bk σ' O'=>rw [ht] at q;exact q
  | ct σ' O'=>rw [ht] at q;exact q
  | exc c O'=>rw [ht] at q;exact q
  | bad=>rw [ht] at q;exact q
theorem z15 (h1:PDS X Ex st t):z5F X Ex [st] t:=⟨zce h1.out⟩
def z1v (t:DE):DS:=fun σ O=>(t σ O).bnS fun d O1=>.rt d O1
theorem zhP (he:PD X Ex e te):PDS X Ex (.Return (some e) pos) (z1v te):=
 z56 (zgc he.out) fun hid μ σ O E σv H e1 c1 q=>rd.goS e1 c1 q fun d O1 v H1 μ1 e2 x c r p=>p v H1 μ1 .refl c r
def sIf (c:DT) (t u:DS):DS:=fun σ O=>(c σ O).bnS fun b O1=>if b=true then t σ O1 else u σ O1
theorem zjA {c:aK} {x y:List cu} {tc:DT} {t u:DS} (hc:PDT X Ex c tc) (ha:z5F X Ex x t) (hb:z5F X Ex y u):PDS X Ex (.If c x y pos) (sIf tc t u):=
 z56 (zjX hc.out ha.out hb.out) fun hid μ σ O E σv H e1 c1 q=>rdT.goS e1 c1 q fun k O1 H1 μ1 e2 x c p=>by
  cases k with
  | true=>rw [if_pos rfl];exact ⟨hid,μ1,σ,O1,e2,c,p⟩
  | false=>rw [if_neg bH];exact ⟨hid,μ1,σ,O1,e2,c,p⟩
def ziV:DS:=fun _ _=>.bad
theorem z69:z5F X Ex st ziV:=z9U zdV fun hid μ σ O E σv H e1 c1 q=>q
def z35 (t:DE):DS:=fun σ O=>(t σ O).bnS fun _ O1=>.nx σ O1
theorem zfC (he:PD X Ex e te) (hs:swapsWith e none pos.line X.env=pure false:=by rfl):PDS X Ex (.Expr e pos) (z35 te):=
 z56 (z6K he.out hs) fun hid μ σ O E σv H e1 c1 q=>rd.goS e1 c1 q fun d O1 v H1 μ1 e2 x c r p=>p σv H1 μ1 .refl e2 c
def z24 (i:Nat) (t:DE):DS:=fun σ O=>(t σ O).bnS fun d O1=>.nx (σ.set i (some d)) O1
theorem zdj (hN:X.N.Nodup) (hi:X.N[i]?=some x) (hx:Loc X.env.scope x) (he:PD X Ex e te) (hs:swapsWith e (some (.Name x pos')) pos.line X.env=pure false:=by rfl)
  (hf:X.fn x=true \/ X.env.scope.names.lookup x=some .local:=by first|exact .inl rfl|exact .inr rfl):PDS X Ex (.Assign [.Name x pos'] e pos) (z24 i te):=
 z56 (zaU hN hi hx he.out hs hf) fun hid μ σ O E σv H e1 c1 q=>rd.goS e1 c1 q fun d O1 v H1 μ1 e2 x c r p=>p (σv.set i (some v)) H1 μ1 .refl (e2.set r i) c
inductive Tg where
 | one (i:Nat)
 | two (i j:Nat)
def Tg.put:Tg->D->Sg->Option Sg
 | .one i,d,σ=>some (σ.set i (some d))
 | .two i j,d,σ=>match d with
  | .tup [x,y]=>some ((σ.set i (some x)).set j (some y))
  | _=>none
def Tg.rd (K:aj):Tg->TG
 | .one i=>za3 i
 | .two i j=>zmp K 2 (zhx (za3 i) (zhx (za3 j) zmf))
def Tg.slots:Tg->List Nat
 | .one i=>[i]
 | .two i j=>[i,j]
theorem Tg.ok2 (g:Tg) (e1:l9 K H hid μ σ σv) (q:Dat K H hid μ d v) (h:g.put d σ=some σ')
  (k:∀ σv',l9 K H hid μ σ' σv'->(∀ i,i ∉ g.slots->σv'[i]?=σv[i]?)->Q σv' H):g.rd K v σv H Q:=by
 cases g with
 | one i=>
  cases h
  exact k _ (e1.set q i) fun j hj=>aY (fun e=>hj (by simp [Tg.slots,e]))
 | two i j=>
  unfold Tg.put at h
  dsimp only at h
  split at h
  ·rename_i x y
   cases h
   unfold Dat at q
   obtain ⟨a,vs,rfl,l,q⟩:=q
   obtain ⟨u,w,rfl,q1,q2⟩:=zcV q
   refine ⟨a,[u,w],rfl,l.sq,rfl,u,[w],rfl,w,[],rfl,rfl,k _ ((e1.set q1 i).set q2 j) fun m hm=>?_⟩
   rw [aY (fun e=>hm (by simp [Tg.slots,e])),aY (fun e=>hm (by simp [Tg.slots,e]))]
  ·cases h
theorem Tg.ok {K:aj} {H:Hp} {hid μ:List af} {σ σ':Sg} {σv:St} {d:D} {v:V} {Q:St->Hp->Prop} (g:Tg) (e1:l9 K H hid μ σ σv) (q:Dat K H hid μ d v) (h:g.put d σ=some σ') (k:∀ σv',l9 K H hid μ σ' σv'->Q σv' H):g.rd K v σv H Q:=by
 cases g with
 | one i=>cases h;exact k _ (e1.set q i)
 | two i j=>
  unfold Tg.put at h
  dsimp only at h
  split at h
  ·rename_i x y
   cases h
   unfold Dat at q
   obtain ⟨a,vs,rfl,l,q⟩:=q
   obtain ⟨u,w,rfl,q1,q2⟩:=zcV q
   exact ⟨a,[u,w],rfl,l.sq,rfl,u,[w],rfl,w,[],rfl,rfl,k _ ((e1.set q1 i).set q2 j)⟩
  ·cases h
theorem zgj (hN:X.N.Nodup) (hi:X.N[i]?=some x) (hx:Loc X.env.scope x) (hf:X.fn x=true \/ X.env.scope.names.lookup x=some .local:=by first|exact .inl rfl|exact .inr rfl|assumption):PG X (.Name x pos) ((Tg.one i).rd X.K):=z84 hN hi hx hf
def z3l (src:Src) (step:D->Sg->Ow->RS):Nat->Nat->Sg->Ow->RS
 | 0,i,σ,O=>match src.get O i with
  | none=>.nx σ O
  | some _=>.bad
 | f + 1,i,σ,O=>match src.get O i with
  | none=>.nx σ O
  | some d=>match step d σ O with
   | .nx σ' O'=>z3l src step f (i + 1) σ' O'
   | .ct σ' O'=>z3l src step f (i + 1) σ' O'
   | .bk σ' O'=>.nx σ' O'
   | r=>r
def z7h (it:DI) (g:Tg) (body:DS):DS:=fun σ O=>(it σ O).bnS fun src O1=>z3l src (fun d σ O=>match g.put d σ with|some σ'=>body σ' O|none=>.bad) (src.size O1) 0 σ O1
theorem zha {iter:aK} {body:List cu} {it:DI} {g:Tg} {tb:DS} (hp:ji (ay X.prog X.w) X.A X.env X.xe) (hc:X.calm=true) (hi:PDI X Ex tg iter it) (hg:PG X tg (g.rd X.K)) (hb:z5F X Ex body tb)
  (hs:∀ x,cb iter X.env x=pure x:=by intro _;rfl):PDS X Ex (.For tg iter body [] pos) (z7h it g tb):=
 z56 (zjY hp hc hi.out hg hb.out hs) fun hid μ σ O E σv H e1 c1 q=>by
  refine ⟨hid,μ,σ,O,e1,c1,md.bnS q fun src O1 J H1 μ1 x1 c2 sa p=>?_⟩
  generalize hst:(fun (d:D) (σ:Sg) (O:Ow)=>match g.put d σ with|some σ'=>tb σ' O|none=>RS.bad)=step at p
  refine ⟨fun i m σv' H'=>∃ μ' σ' O',Ext H1 μ1 H' μ'/\l9 X.K H' hid μ' σ' σv'/\l7 X.K H' hid μ' O'/\md Ex X.K H' hid μ' (z3l src step m i σ' O') E,⟨_,μ1,σ,O1,.refl,e1.ext x1,c2,p⟩,?_⟩
  rintro i m σv2 H2 ⟨μ2,σ2,O2,x2,e2,c3,p2⟩
  have sa2:=sa hid H2 μ2 O2 x2.mv c3 i
  cases hget:src.get O2 i with
  | none=>
   rw [hget] at sa2
   refine .inl ⟨sa2,?_⟩
   cases m with
   | zero=>
    have p3:md Ex X.K H2 hid μ2 (match src.get O2 i with|none=>.nx σ2 O2|some _=>.bad) E:=p2
    rw [hget] at p3
    exact p3 σv2 H2 μ2 .refl e2 c3
   | succ f=>
    unfold z3l at p2
    rw [hget] at p2
    exact p2 σv2 H2 μ2 .refl e2 c3
  | some d=>
   rw [hget] at sa2
   obtain ⟨go,yl⟩:=sa2
   cases m with
   | zero=>
    have p3:md Ex X.K H2 hid μ2 (match src.get O2 i with|none=>.nx σ2 O2|some _=>.bad) E:=p2
    rw [hget] at p3
    exact ak p3
   | succ f=>
    refine .inr ⟨go,fun σv' H'=>∃ μ' σ' O',Ext H1 μ1 H' μ'/\l9 X.K H' hid μ' σ' σv'/\l7 X.K H' hid μ' O'/\md Ex X.K H' hid μ' (z3l src step f (i + 1) σ' O') E,fun σ' H' h=>⟨f,ci f,h⟩,fun v H3 y=>?_⟩
    obtain ⟨x3,c4,r⟩:=yl v H3 y
    unfold z3l at p2
    rw [hget] at p2
    have p3:md Ex X.K H3 hid μ2 (match step d σ2 O2 with
     | .nx σ' O'=>z3l src step f (i + 1) σ' O'
     | .ct σ' O'=>z3l src step f (i + 1) σ' O'
     | .bk σ' O'=>.nx σ' O'
     | r=>r) E:=md.ext p2 x3
    cases hput:g.put d σ2 with
    | none=>
     rw [<- hst] at p3
     simp only [hput] at p3
     exact ak p3
    | some σ3=>
     refine Tg.ok g (e2.ext x3) r hput fun σv3 e3=>⟨hid,μ2,σ3,O2,e3,c4,?_⟩
     have hs1:step d σ2 O2=tb σ3 O2:=by rw [<- hst];simp only [hput]
     rw [hs1] at p3
     have x4:=x2.trans x3
     cases ht:tb σ3 O2 with
     | nx σ4 O4=>rw [ht] at p3;exact fun σv' H' μ' e5 a b=>⟨μ',σ4,O4,x4.trans e5,a,b,p3.ext e5⟩
     | ct σ4 O4=>rw [ht] at p3;exact fun σv' H' μ' e5 a b=>⟨μ',σ4,O4,x4.trans e5,a,b,p3.ext e5⟩
     | bk σ4 O4=>rw [ht] at p3;exact p3
     | rt d4 O4=>rw [ht] at p3;exact p3
     | exc c4 O4=>rw [ht] at p3;exact p3
     | bad=>rw [ht] at p3;exact p3
end
structure Cl where
 it:DI
 g:Tg
 ifs:List DT
def z12:List Cl->List Nat
 | []=>[]
 | c :: cs=>c.g.slots ++ z12 cs
def clr {α:Type} (σ:List (Option α)):List Nat->List (Option α)
 | []=>σ
 | i :: r=>clr (σ.set i none) r
def z7r:List DT->DT
 | []=>fun _ O=>.ok true O
 | c :: cs=>fun σ O=>(c σ O).bnd fun b O1=>if b=true then z7r cs σ O1 else .ok false O1
def z1p (src:Src) (step:D->Ow->List D->R (List D)):Nat->Nat->Ow->List D->R (List D)
 | 0,i,O,acc=>match src.get O i with
  | none=>.ok acc O
  | some _=>.bad
 | f + 1,i,O,acc=>match src.get O i with
  | none=>.ok acc O
  | some d=>(step d O acc).bnd fun acc' O'=>z1p src step f (i + 1) O' acc'
def z3a:List Cl->DE->Sg->Ow->List D->R (List D)
 | [],elt,σ,O,acc=>(elt σ O).bnd fun v O1=>if acc.length < 100000 then .ok (acc ++ [v]) O1 else .bad
 | c :: cs,elt,σ,O,acc=>(c.it σ O).bnd fun src O1=>z1p src (fun d O2 acc=>match c.g.put d (clr σ (z12 (c :: cs))) with
   | some σ1=>(z7r c.ifs σ1 O2).bnd fun b O3=>if b=true then z3a cs elt σ1 O3 acc else .ok acc O3
   | none=>.bad) (src.size O1) 0 O1 acc
def z4B (c:Cl) (cs:List Cl) (elt:DE) (σ:Sg):D->Ow->List D->R (List D):=fun d O2 acc=>match c.g.put d (clr σ (z12 (c :: cs))) with
   | some σ1=>(z7r c.ifs σ1 O2).bnd fun b O3=>if b=true then z3a cs elt σ1 O3 acc else .ok acc O3
   | none=>.bad
abbrev Em:=Sg->Ow->List D->R (List D)
def emL (te:DE):Em:=fun σ O acc=>(te σ O).bnd fun v O1=>if acc.length < 100000 then .ok (acc ++ [v]) O1 else .bad
def z4h:List Cl->Em->Sg->Ow->List D->R (List D)
 | [],em,σ,O,acc=>em σ O acc
 | c :: cs,em,σ,O,acc=>(c.it σ O).bnd fun src O1=>z1p src (fun d O2 acc=>match c.g.put d (clr σ (z12 (c :: cs))) with
   | some σ1=>(z7r c.ifs σ1 O2).bnd fun b O3=>if b=true then z4h cs em σ1 O3 acc else .ok acc O3
   | none=>.bad) (src.size O1) 0 O1 acc
def z3W (c:Cl) (cs:List Cl) (em:Em) (σ:Sg):D->Ow->List D->R (List D):=fun d O2 acc=>match c.g.put d (clr σ (z12 (c :: cs))) with
   | some σ1=>(z7r c.ifs σ1 O2).bnd fun b O3=>if b=true then z4h cs em σ1 O3 acc else .ok acc O3
   | none=>.bad
theorem zcZ (te:DE):∀ cls:List Cl,z4h cls (emL te)=z3a cls te
 | []=>by funext σ O acc;unfold z4h z3a emL;rfl
 | c :: cs=>by funext σ O acc;unfold z4h z3a;rw [zcZ te cs]
theorem zh0 (c:Cl) (cs:List Cl) (te:DE):z3W c cs (emL te)=z4B c cs te:=by
 funext σ d O acc;unfold z3W z4B;rw [zcZ te cs]
theorem z6Y {α:Type}:∀ (l:List Nat) (σ:List (Option α)),(clr σ l).length=σ.length
 | [],_=>rfl
 | i :: r,σ=>by unfold clr;rw [z6Y r];simp
theorem zax {α:Type}:∀ (l:List Nat) (σ:List (Option α)) (i:Nat),i ∉ l->(clr σ l)[i]?=σ[i]?
 | [],σ,i,h=>rfl
 | j :: r,σ,i,h=>by
  unfold clr
  rw [zax r _ i fun z=>h (au _ z),aY fun z=>h (by simp [z])]
theorem z82 {α:Type}:∀ (l:List Nat) (σ:List (Option α)) (i:Nat) (d:α),(clr σ l)[i]?=some (some d)->σ[i]?=some (some d)/\i ∉ l
 | [],σ,i,d,h=>⟨h,by simp⟩
 | j :: r,σ,i,d,h=>by
  unfold clr at h
  obtain ⟨h1,h2⟩:=z82 r _ i d h
  by_cases e:j=i
  ·subst e
   by_cases hl:j < σ.length
   ·rw [aT hl] at h1;cases h1
   ·rw [aQ.mpr (by simp;omega)] at h1;cases h1
  ·rw [aY e] at h1
   exact ⟨h1,by simp [h2];exact fun z=>e z.symm⟩
structure Ea (A:af) (H:Hp) (μ:List af) (H':Hp) (μ':List af):Prop where
 pre:∃ ν,μ'=μ ++ ν
 kept:∀ b o,H b=some o->b ∉ μ->b ≠ A->zbV o->H' b=some o
 fresh:∀ b ∈ μ',b ∈ μ \/ H b=none
 there:∀ b,H b ≠ none->H' b ≠ none
 tab:∀ P,ml H P->ml H' P
section
variable {K:aj} {A:af} {H H' H1 H2:Hp} {hid μ μ' μ1 μ2:List af}
theorem Ext.ea (e:Ext H μ H' μ'):Ea A H μ H' μ':=⟨e.pre,fun b o h n _ ht=>e.kept b o h n ht,e.fresh,e.there,e.tab⟩
theorem Ea.refl:Ea A H μ H μ:=Ext.refl.ea
theorem Ea.trans (a:Ea A H μ H1 μ1) (b:Ea A H1 μ1 H2 μ2):Ea A H μ H2 μ2:=by
 have nn:∀ c,H1 c=none->H c=none:=fun c h=>by
  cases e:H c with
  | none=>rfl
  | some o=>exact absurd h (a.there c (by rw [e];simp))
 refine ⟨?_,fun c o h n1 n2 ht=>?_,fun c h=>?_,fun c h=>b.there c (a.there c h),fun P t=>b.tab P (a.tab P t)⟩
 ·obtain ⟨x,rfl⟩:=a.pre
  obtain ⟨y,rfl⟩:=b.pre
  exact ⟨x ++ y,by simp⟩
 ·refine b.kept c o (a.kept c o h n1 n2 ht) (fun m=>?_) n2 ht
  rcases a.fresh c m with z|z
  ·exact n1 z
  ·rw [z] at h;cases h
 ·rcases b.fresh c h with z|z
  ·exact a.fresh c z
  ·exact .inr (nn c z)
theorem Ea.mv (e:Ea A H μ H' μ'):Mv H (A :: hid) μ H' (A :: hid) μ':=⟨e.pre,fun b o h n1 n2 ht=>e.kept b o h n1 (fun z=>n2 (by simp [z])) ht,e.fresh,fun _ m=>.inl m,e.there,e.tab⟩
theorem Ea.putX (ht:∀ P,ml H P->ml (upd H A o) P):Ea A H μ (upd H A o) μ:=⟨⟨[],by simp⟩,fun b u h _ n _=>by rw [z0Y n];exact h,fun _ m=>.inl m,z1G,ht⟩
theorem l7.putX (c:l7 K H (A :: hid) μ O) (ht:∀ P,ml H P->ml (upd H A o) P):l7 K (upd H A o) (A :: hid) μ O:=by
 refine ⟨c.len,c.nd,c.nh,fun a m=>z1G a (c.ht a m),fun k a e=>?_⟩
 obtain ⟨ds,vs,h1,h2,h3⟩:=c.at_ k a e
 have ne:a ≠ A:=fun z=>c.nh a (aW e) (by simp [z])
 exact ⟨ds,vs,h1,by rw [z0Y ne];exact h2,h3.mv (Ea.putX (A:=A) ht).mv⟩
theorem Ea.put {o:HO} (hl:∃ vs,H A=some (.lst vs)):Ea A H μ (upd H A o) μ:=.putX fun _ t=>t.upd (.inr hl)
theorem l7.putA {o:HO} {O:Ow} (c:l7 K H (A :: hid) μ O) (hl:∃ vs,H A=some (.lst vs)):l7 K (upd H A o) (A :: hid) μ O:=c.putX fun _ t=>t.upd (.inr hl)
theorem l7.unhide (c:l7 K H (A :: hid) μ O):l7 K H hid μ O:=
 ⟨c.len,c.nd,fun a m z=>c.nh a m (au _ z),fun a m=>c.ht a (au _ m),fun k a e=>
  let ⟨ds,vs,h1,h2,h3⟩:=c.at_ k a e
  ⟨ds,vs,h1,h2,h3.mv .unhide⟩⟩
end
abbrev Ex0:Nat->Hp->Prop:=fun _ _=>False
inductive ms (X:Cx):List bJ->List Cl->Prop where
 | nil:ms X [] []
 | cons {tg iter:aK} {ifs:List aK} {gs:List bJ} {c:Cl} {cs:List Cl} (hi:PDI X Ex0 tg iter c.it) (hs:∀ x,cb iter X.env x=pure x) (hg:PG X tg (c.g.rd X.K))
   (hf:bi (fun e t=>PDT X Ex0 e t) ifs c.ifs) (r:ms X gs cs):ms X (⟨tg,iter,ifs,0⟩ :: gs) (c :: cs)
section
variable {X:Cx}
theorem z2i {α:Type} {M:jh} {A:ba} {t:Sem α} {Q Q':α->ai->Prop} {E:ae->ai->Prop} {s:ai} (hx:X.xe=fun _ _=>False) (h:ar M A t Q X.xe s) (k:∀ a s',Q a s'->Q' a s'):ar M A t Q' E s:=
 c7 h k fun e s' z=>by rw [hx] at z;exact z.elim
theorem z6Z {env:Env} {M:jh} {A:ba} {E:ae->ai->Prop} {s:ai} {Q:Bool->ai->Prop} (h:Q false s):∀ (ifs:List aK),ar M A (forIn ifs false fun c r=>if r=true then do let ok <- isTrue c env (eval c env);pure (eY ok) else pure (eY r)) Q E s
 | []=>am h
 | c :: cs=>by
  simp only [fG,cH,if_false]
  exact aa (am (z6Z h cs))
theorem zaY {E:ae->ai->Prop} {hid:List af} (hx:X.xe=fun _ _=>False):∀ {ifs:List aK} {ts:List DT},bi (fun e t=>PDT X Ex0 e t) ifs ts->∀ (pins:List (af × Obj)) (s:ai) (σv:St) (H:Hp) (μ:List af) (σ:Sg) (O:Ow) (Q:Bool->ai->Prop),
  L2.Inv X pins σv H s->l9 X.K H hid μ σ σv->l7 X.K H hid μ O->
  z5J Ex0 X.K H hid μ (z7r ts σ O) (fun b H'=>∀ s',L2.Inv X pins σv H' s'->Q b s')->
  ar (ay X.prog X.w) X.A (forIn ifs true fun c r=>if r=true then do let ok <- isTrue c X.env (eval c X.env);pure (eY ok) else pure (eY r)) Q E s
 | _,_,.nil,pins,s,σv,H,μ,σ,O,Q,I,e1,c1,q=>am (post.here (v:=true) q c1 rfl s I)
 | _ :: ifs,_ :: ts,.cons hc hr,pins,s,σv,H,μ,σ,O,Q,I,e1,c1,q=>by
  simp only [fG,if_true]
  refine aa (aa (z2i hx (hc.out pins s σv H _ I (rdT.go e1 c1 q (Q1:=fun b H1=>∃ μ1 O1,l9 X.K H1 hid μ1 σ σv/\l7 X.K H1 hid μ1 O1/\z5J Ex0 X.K H1 hid μ1 (if b=true then z7r ts σ O1 else .ok false O1) (fun b H'=>∀ s',L2.Inv X pins σv H' s'->Q b s'))
   fun b O1 H1 μ1 e2 x c p=>⟨μ1,O1,e2,c,p⟩)) fun b s1 ⟨H1,I1,μ1,O1,e2,c2,p⟩=>am ?_))
  show ar _ _ (forIn ifs b _) _ _ _
  cases b with
  | true=>rw [if_pos rfl] at p;exact zaY hx hr pins s1 σv H1 μ1 σ O1 Q I1 e2 c2 p
  | false=>rw [if_neg bH] at p;exact z6Z (post.here (v:=false) p c2 rfl s1 I1) ifs
structure zbh where
 ex:List bJ->b9->Pos->aK
 emit:ae->Env->Sem Unit
 new:Sem ae
 ho:aJ->aR->af->HO
 G:aj->aJ->aR->af->List af->Hp->List af->List D->Prop
structure Bs (X:Cx) (C:zbh) (A:af) (hid:List af) (pins:List (af × Obj)) (s:ai) (σv:St) (H:Hp) (μ:List af) (σ:Sg) (O:Ow) (acc:List D):Prop where
 inv:L2.Inv X pins σv H s
 env:l9 X.K H (A :: hid) μ σ σv
 cells:l7 X.K H (A :: hid) μ O
 grown:C.G X.K X.prog X.w A hid H μ acc
def zk5 (X:Cx) (C:zbh) (A:af) (hid:List af) (pins:List (af × Obj)) (σv:St) (H:Hp) (μ:List af) (sl:List Nat) (acc:List D) (O:Ow) (Q:ai->Prop):Prop:=
 ∀ s' σv' H' μ',L2.Inv X pins σv' H' s'->Ea A H μ H' μ'->l7 X.K H' (A :: hid) μ' O->C.G X.K X.prog X.w A hid H' μ' acc->σv'.length=σv.length->(∀ i,i ∉ sl->σv'[i]?=σv[i]?)->Q s'
def z4k (X:Cx) (C:zbh) (A:af) (hid:List af) (pins:List (af × Obj)) (σv:St) (H:Hp) (μ:List af) (sl:List Nat) (r:R (List D)) (Q:ai->Prop):Prop:=match r with
 | .ok acc O=>zk5 X C A hid pins σv H μ sl acc O Q
 | _=>False
def z6I (e:aK) (em:ae->Env->Sem Unit) (gens:List bJ) (k:Nat) (acc:ae) (env:Env):Sem Unit:=match gens[k]? with
 | some g'=>do
  let x <- eval g'.iter env
  standAt g'.iter.pos
  let x <- if g'.is_async != 0 then foldedIterable g'.iter x else cb g'.iter env x
  let _ <- runOwn (.compStart e k (<- holding [x] (if g'.is_async != 0 then asyncIter x else pyIter x)) acc env) env
 | none=>em acc env
def zkm (C:zbh):Prop:=∀ (gens:List bJ) (scope:b9) (pos:Pos) (k:Nat) (it acc:ae) (env:Env) {tg iter:aK} {ifs:List aK},gens[k]?=some ⟨tg,iter,ifs,0⟩->
  (gens[k + 1]?=none \/ ∃ tg' iter' ifs',gens[k + 1]?=some ⟨tg',iter',ifs',0⟩)->
  compTurn (C.ex gens scope pos) k it acc env=(do
   standAt iter.pos
   match <- pyNext it with
   | none=>pure (.done .next)
   | some v=>
    letOwnedTupleGo tg it v
    assign tg env v
    let mut ok:=true
    for c in ifs do
     if ok then ok <- isTrue c env (eval c env)
    if ok then z6I (C.ex gens scope pos) C.emit gens (k + 1) acc env
    again (.compLoop (C.ex gens scope pos) k it acc env))
structure z6T (C:zbh):Prop where
 cl:∀ gens scope pos,clausesOf (C.ex gens scope pos)=gens
 turn:zkm C
 keep:∀ {K P w A hid H μ acc H' μ'},C.G K P w A hid H μ acc->A ∉ μ->Ext H μ H' μ'->C.G K P w A hid H' μ' acc
 new:∀ {P:aJ} {w:aR} {A:ba} {E:ae->ai->Prop} {Q:ae->ai->Prop} {s:ai},(∀ o:Obj,o.isFreed=false->(∀ (H:Hp) (h:aP) (a:af),sysModules < a->h.get? a=some o->mi P w (upd H a (C.ho P w a)) h a (C.ho P w a))->Q (.ref s.heap.objs.size) { s with heap:=s.heap.push o })->ar (ay P w) A C.new Q E s
 g0:∀ {K P w a hid H μ},C.G K P w a hid (upd H a (C.ho P w a)) μ []
 q1:∀ gens scope pos k it acc env,(j6 (C.ex gens scope pos) k it acc env).quiet=true
 u1:∀ (A:ba) gens scope pos k it acc env,A.under (j6 (C.ex gens scope pos) k it acc env)=A
 d1:∀ P w gens scope pos k it acc env,(ay P w).den (j6 (C.ex gens scope pos) k it acc env)=(compTurn (C.ex gens scope pos) k it acc env).onRaise (fun x=>do noteFrame x env;theTreesLotGoes x)
 u2:∀ (A:ba) gens scope pos k it acc env,A.under (lD (C.ex gens scope pos) k it acc env)=A
 d2:∀ P w gens scope pos k it acc env,(ay P w).den (lD (C.ex gens scope pos) k it acc env)=(compStart (C.ex gens scope pos) k it acc env).onRaise (fun x=>do noteFrame x env;standAt theWindowsPlace)
def zaa (elt:aK):zbh where
 ex:=fun gens scope pos=>.ListComp elt gens scope pos
 emit:=fun acc env=>do let _ <- call (.builtin "list.append") [acc,<- eval elt env]
 new:=newList []
 ho:=fun _ _ _=>.lst []
 G:=fun K _ _ A hid H μ acc=>∃ vs,H A=some (.lst vs)/\l8 K H (A :: hid) μ acc vs
theorem z8t (elt:aK):z6T (zaa elt) where
 cl:=fun _ _ _=>rfl
 turn:=fun gens scope pos k it acc env tg iter ifs hk hn=>by
  show compTurn (.ListComp elt gens scope pos) k it acc env=_
  unfold compTurn z6I
  rcases hn with hn|⟨tg',iter',ifs',hn⟩
  ·simp only [hk,hn]
   rfl
  ·simp only [hk,hn,bne_self_eq_false,cH,if_false,bind_assoc,pure_bind]
   first|rfl|congr 1
 keep:=fun ⟨vs,hA,dA⟩ nA x=>⟨vs,x.keep _ _ hA nA,dA.ext x⟩
 new:=fun h=>bn (h _ rfl fun H h a _ e=>⟨bW _,[],0,.nil,e⟩)
 g0:=⟨[],z18,.nil⟩
 q1:=fun _ _ _ _ _ _ _=>rfl
 u1:=fun _ _ _ _ _ _ _ _=>rfl
 d1:=fun _ _ _ _ _ _ _ _ _=>rfl
 u2:=fun _ _ _ _ _ _ _ _=>rfl
 d2:=fun _ _ _ _ _ _ _ _ _=>rfl
def rdZ (Z:St->Hp->List af->Prop) (K:aj) (hid:List af) (t:DE):TE:=fun σv H Q=>∃ μ σ O,Z σv H μ/\l9 K H hid μ σ σv/\l7 K H hid μ O/\z1q Ex0 K H hid μ (t σ O) Q
theorem PD.z {X:Cx} {Z:St->Hp->List af->Prop} {hid:List af} {e:aK} {t:DE} (h:PD X Ex0 e t):PE X e (rdZ Z X.K hid t):=fun pins s σv H Q I ⟨μ,σ,O,_,e1,c1,q⟩=>h.out pins s σv H Q I ⟨hid,μ,σ,O,e1,c1,q⟩
section
variable {C:zbh} {Z:St->Hp->List af->Prop} {A:af} {hid:List af} {elt:aK} {gens:List bJ} {scope:b9} {pos:Pos} {te:DE} {em:Em}
def z50 (X:Cx) (Z:St->Hp->List af->Prop) (C:zbh) (A:af) (hid:List af) (e:aK) (gens:List bJ) (em:Em) (k:Nat) (cls:List Cl):Prop:=∀ (pins:List (af × Obj)) (s:ai) (σv:St) (H:Hp) (μ:List af) (σ:Sg) (O:Ow) (acc:List D) (Q:ai->Prop) (E:ae->ai->Prop),
 Z σv H μ->Bs X C A hid pins s σv H μ σ O acc->z4k X C A hid pins σv H μ (z12 cls) (z4h cls em σ O acc) Q->ar (ay X.prog X.w) X.A (z6I e C.emit gens k (.ref A) X.env) (fun _ s'=>Q s') E s
theorem zaB {k:Nat} {e:aK} (hx:X.xe=fun _ _=>False) (he:PE X elt (rdZ Z X.K (A :: hid) te)) (hk:gens[k]?=none):z50 X Z (zaa elt) A hid e gens (emL te) k []:=by
 intro pins s σv H μ σ O acc Q E z B q
 unfold z6I
 rw [hk]
 show ar _ _ (do let _ <- call (.builtin "list.append") [.ref A,<- eval elt X.env]) _ _ s
 obtain ⟨vs,hA,dA⟩:=B.grown
 cases hte:te σ O with
 | ok d O1=>
  have q2:z4k X (zaa elt) A hid pins σv H μ (z12 []) (if acc.length < 100000 then .ok (acc ++ [d]) O1 else .bad) Q:=by
   have:=q
   unfold z4h emL at this
   rw [hte] at this
   exact this
  by_cases hl:acc.length < 100000
  ·rw [if_pos hl] at q2
   refine aa (z2i hx (he pins s σv H (fun v H1=>∃ μ1,Ext H μ H1 μ1/\l7 X.K H1 (A :: hid) μ1 O1/\Dat X.K H1 (A :: hid) μ1 d v) B.inv ⟨μ,σ,O,z,B.env,B.cells,by rw [hte];exact fun v H' μ' x c r=>⟨μ',x,c,r⟩⟩)
    fun u s1 ⟨v,H1,I1,ru,μ1,x,c,r⟩=>?_)
   have nA:A ∉ μ:=fun m=>B.cells.nh A m (by simp)
   have hA1:H1 A=some (.lst vs):=x.keep A _ hA nA
   have dA1:=dA.ext x
   refine aa (z2i hx (z3y pins s1 σv H1 (.ref A) [v] (.ref A) [u] (fun _ H2=>H2=upd H1 A (.lst (vs ++ [v]))) I1 rfl (.cons ru .nil)
    ⟨A,vs,v,rfl,rfl,hA1,aN (by rw [<- dA1.length];exact hl) (by decide),rfl⟩) fun u2 s2 ⟨v2,H2,I2,r2,e2⟩=>?_)
   subst e2
   refine am (q2 s2 σv _ μ1 I2 (x.ea.trans (.put ⟨_,hA1⟩)) (c.putA ⟨_,hA1⟩) ⟨_,z18,?_⟩ rfl fun _ _=>rfl)
   exact (dA1.append (.cons r .nil)).mv (Ea.put ⟨_,hA1⟩).mv
  ·rw [if_neg hl] at q2;exact q2.elim
 | exc c O1=>
  unfold z4h emL at q;rw [hte] at q;exact q.elim
 | bad=>
  unfold z4h emL at q;rw [hte] at q;exact q.elim
theorem zca (co:z6T C) {k:Nat} {tg iter:aK} {ifs:List aK} {c:Cl} {cs:List Cl} (hx:X.xe=fun _ _=>False) (hcalm:X.calm=true) (hk:gens[k]?=some ⟨tg,iter,ifs,0⟩) (hg:PG X tg (c.g.rd X.K)) (hf:bi (fun e t=>PDT X Ex0 e t) ifs c.ifs)
  (hZ:∀ (σ1 σ2:St) H1 μ1 H2 μ2,Z σ1 H1 μ1->(∀ j,j ∉ z12 (c :: cs)->σ2[j]?=σ1[j]?)->Ea A H1 μ1 H2 μ2->Z σ2 H2 μ2) (hb:z50 X Z C A hid (C.ex gens scope pos) gens em (k + 1) cs) (hn:gens[k + 1]?=none \/ ∃ tg' iter' ifs',gens[k + 1]?=some ⟨tg',iter',ifs',0⟩) {it:af} {fp:List af} {tn:Nat->aP->Prop} {J:It} {src:Src} (T:zdJ X.prog X.w X.K tg J fp it tn)
  (pins:List (af × Obj)) (s:ai) (σv:St) (H:Hp) (μ:List af) (σ:Sg) (O:Ow) (acc:List D) (n:Nat) (Q:ai->Prop) (st:tn 0 s.heap) (hfp:∀ b ∈ fp,z8u X pins H b) (sa:mf X.K J src H (A :: hid) μ)
  (z0:Z σv H μ) (B:Bs X C A hid pins s σv H μ σ O acc) (q:z4k X C A hid pins σv H μ (z12 (c :: cs)) (z1p src (z3W c cs em σ) n 0 O acc) Q):
  codeAny (ay X.prog X.w) X.A (.compLoop (C.ex gens scope pos) k (.ref it) (.ref A) X.env) (fun r s'=>∃ f,r=.ok f/\Q s') s:=by
 have stat:∀ {H':Hp},(∀ b ∈ fp,H' b=none)->∀ b ∈ fp,z8u X pins H' b:=fun hn b hb=>⟨hn b hb,(hfp b hb).2⟩
 let P:Nat->ai->Prop:=fun m s'=>∃ i σv' H' μ' O' acc',L2.Inv X pins σv' H' s'/\tn i s'.heap/\(∀ b ∈ fp,H' b=none)/\Ea A H μ H' μ'/\l7 X.K H' (A :: hid) μ' O'/\C.G X.K X.prog X.w A hid H' μ' acc'/\
  σv'.length=σv.length/\(∀ i,i ∉ z12 (c :: cs)->σv'[i]?=σv[i]?)/\z4k X C A hid pins σv H μ (z12 (c :: cs)) (z1p src (z3W c cs em σ) m i O' acc') Q
 refine codeAny_loop (co.q1 _ _ _ _ _ _ _) P (fun m s1 hP=>?_) n ⟨0,σv,H,μ,O,acc,B.inv,st,fun b hb=>(hfp b hb).1,.refl,B.cells,B.grown,rfl,fun _ _=>rfl,q⟩
 rw [co.u1,co.d1]
 refine wpAny_noted ?_
 rw [co.turn _ _ _ _ _ _ _ hk hn]
 obtain ⟨i,σv1,H1,μ1,O1,acc1,I1,st1,fr1,x1,c1,g1,l1,k1,q1⟩:=hP
 have sa1:=sa (A :: hid) H1 μ1 O1 x1.mv c1 i
 -- the names that stand
 have env1:l9 X.K H1 (A :: hid) μ1 (clr σ (z12 (c :: cs))) σv1:=by
  refine ⟨by rw [z6Y,B.env.len,l1],fun j d hj=>?_⟩
  obtain ⟨h1,h2⟩:=z82 _ _ _ _ hj
  obtain ⟨v,h3,h4⟩:=B.env.at_ j d h1
  exact ⟨v,by rw [k1 j h2];exact h3,h4.mv x1.mv⟩
 cases hget:src.get O1 i with
 | none=>
  rw [hget] at sa1
  have q2:zk5 X C A hid pins σv H μ (z12 (c :: cs)) acc1 O1 Q:=by
   cases m with
   | zero=>unfold z1p at q1;rw [hget] at q1;exact q1
   | succ f=>unfold z1p at q1;rw [hget] at q1;exact q1
  refine aa (eQ (aa (thn (T.done X rfl rfl rfl hcalm i pins s1 σv1 H1 _ I1 (stat fr1) st1 sa1) fun r s2 ⟨hr,I2⟩=>?_)))
  subst hr
  exact am ⟨_,rfl,q2 s2 σv1 H1 μ1 I2 x1 c1 g1 l1 k1⟩
 | some d=>
  rw [hget] at sa1
  obtain ⟨go,yl⟩:=sa1
  cases m with
  | zero=>
   unfold z1p at q1;rw [hget] at q1;exact q1.elim
  | succ f=>
   have q2:z4k X C A hid pins σv H μ (z12 (c :: cs)) ((z3W c cs em σ d O1 acc1).bnd fun acc' O'=>z1p src (z3W c cs em σ) f (i + 1) O' acc') Q:=by
    have:=q1
    unfold z1p at this
    rw [hget] at this
    exact this
   refine aa (eQ (aa (thn (T.item X rfl rfl rfl hcalm i pins s1 σv1 H1 _ I1 (stat fr1) st1 go) fun r s2 ⟨u,hr,h2⟩=>?_)))
   subst hr
   refine aa (thn h2 fun _ s3 ⟨v,H3,I3,r3,y3,st3,fr3⟩=>?_)
   obtain ⟨x3,c3,d3⟩:=yl v H3 y3
   have I3':=I3.pinned (stat fr3) (T.obj _ _ st3)
   cases hput:c.g.put d (clr σ (z12 (c :: cs))) with
   | none=>
    unfold z3W at q2;rw [hput] at q2;exact q2.elim
   | some σ3=>
    have hstep:z3W c cs em σ d O1 acc1=((z7r c.ifs σ3 O1).bnd fun b O3=>if b=true then z4h cs em σ3 O3 acc1 else .ok acc1 O3):=by
     unfold z3W;rw [hput]
    rw [hstep] at q2
    refine aa (z2i hx (hg _ s3 σv1 H3 v u (fun σv4 H4=>H4=H3/\l9 X.K H3 (A :: hid) μ1 σ3 σv4/\∀ j,j ∉ c.g.slots->σv4[j]?=σv1[j]?) I3' r3 (Tg.ok2 c.g (env1.ext x3) d3 hput fun σv4 e4 k4=>⟨rfl,e4,k4⟩)) fun _ s4 ⟨σv4,H4,I4,e4,env4,k4⟩=>?_)
    subst e4
    have l4:σv4.length=σv.length:=by rw [I4.len,<- I3.len,l1]
    have k4':∀ j,j ∉ z12 (c :: cs)->σv4[j]?=σv[j]?:=fun j hj=>by
     rw [k4 j fun z=>hj (cK _ z)];exact k1 j hj
    have nA:A ∉ μ1:=fun m=>c1.nh A m (by simp)
    have x13:Ea A H μ H4 μ1:=x1.trans x3.ea
    have g3:=co.keep g1 nA x3
    -- behind the step: the next turn
    have again:∀ {s':ai} {σv':St} {H':Hp} {μ':List af} {O':Ow} {acc':List D},L2.Inv X (pins ++ z8N fp s3.heap) σv' H' s'->Ea A H μ H' μ'->l7 X.K H' (A :: hid) μ' O'->C.G X.K X.prog X.w A hid H' μ' acc'->σv'.length=σv.length->
      (∀ i,i ∉ z12 (c :: cs)->σv'[i]?=σv[i]?)->z4k X C A hid pins σv H μ (z12 (c :: cs)) (z1p src (z3W c cs em σ) f (i + 1) O' acc') Q->∃ m,m < f + 1/\P m s':=by
     intro s' σv' H' μ' O' acc' I' x' c' g' l' k' p'
     refine ⟨f,ci f,i + 1,σv',H',μ',O',acc',I'.unpinned,T.keep _ _ _ st3 fun b hb o e=>(I'.pin (b,o) (bw _ (bw _ (z4d hb e)))).1,fun b hb=>?_,x',c',g',l',k',p'⟩
     obtain ⟨o,e,d⟩:=T.obj _ _ st3 b hb
     exact (I'.pin (b,o) (bw _ (bw _ (z4d hb e)))).2.1
    cases hall:z7r c.ifs σ3 O1 with
    | exc c' O'=>rw [hall] at q2;exact q2.elim
    | bad=>rw [hall] at q2;exact q2.elim
    | ok b O3=>
     rw [hall] at q2
     have q3:z4k X C A hid pins σv H μ (z12 (c :: cs)) ((if b=true then z4h cs em σ3 O3 acc1 else .ok acc1 O3).bnd fun acc' O'=>z1p src (z3W c cs em σ) f (i + 1) O' acc') Q:=q2
     refine aa (zaY (hid:=A :: hid) hx hf _ s4 σv4 H4 μ1 σ3 O1 _ I4 env4 c3 ?_)
     rw [hall]
     intro b' H5 μ5 x5 c5 eb s5 I5
     have eb:b=b':=eb
     subst eb
     have g5:=co.keep g3 nA x5
     have x15:Ea A H μ H5 μ5:=x13.trans x5.ea
     cases b with
     | false=>
      rw [if_neg bH] at q3
      exact am ⟨rfl,again I5 x15 c5 g5 l4 k4' q3⟩
     | true=>
      rw [if_pos rfl] at q3
      refine aa (hb _ s5 σv4 H5 μ5 σ3 O3 acc1 _ _ (hZ _ _ _ _ _ _ z0 k4' x15) ⟨I5,env4.ext x5,c5,g5⟩ ?_)
      cases hcd:z4h cs em σ3 O3 acc1 with
      | exc c' O'=>rw [hcd] at q3;exact q3.elim
      | bad=>rw [hcd] at q3;exact q3.elim
      | ok acc6 O6=>
       rw [hcd] at q3
       intro s6 σv6 H6 μ6 I6 x6 c6 g6 l6 k6
       refine am ⟨rfl,again I6 (x15.trans x6) c6 g6 (l6.trans l4) (fun j hj=>?_) q3⟩
       rw [k6 j fun z=>hj (bw _ z)]
       exact k4' j hj
end
end
section
variable {X:Cx} {Z:St->Hp->List af->Prop} {C:zbh} {A:af} {hid:List af} {gens:List bJ} {scope:b9} {pos:Pos} {em:Em}
theorem zbj (co:z6T C) (hk:gens[k]?=some ⟨tg,iter,ifs,0⟩) (T:zdJ X.prog X.w X.K tg J fp it tn) (i:Nat) (st:tn i s.heap)
  (h:codeAny (ay X.prog X.w) X.A (.compLoop (C.ex gens scope pos) k (.ref it) acc env) P s):
  codeAny (ay X.prog X.w) X.A (.compStart (C.ex gens scope pos) k (.ref it) acc env) P s:=by
 refine gL ?_
 rw [co.u2,co.d2]
 refine wpAny_notedAt ?_
 unfold compStart
 have hcl:clausesOf (C.ex gens scope pos)=gens:=co.cl _ _ _
 simp only [hcl,hk,Option.elim,bne_self_eq_false,cH,if_false]
 refine aa (dL (wpAny_ite ?_))
 split
 ·exact am (And.intro (co.q1 _ _ _ _ _ _ _) h)
 ·refine aa (eD ?_)
  exact aa (eQ (aa (T.self _ i s _ _ st (am (And.intro (co.q1 _ _ _ _ _ _ _) h)))))
theorem zd2 (co:z6T C) (hx:X.xe=fun _ _=>False) (hcalm:X.calm=true) {sl:List Nat} (hZ:∀ (σ1 σ2:St) H1 μ1 H2 μ2,Z σ1 H1 μ1->(∀ j,j ∉ sl->σ2[j]?=σ1[j]?)->Ea A H1 μ1 H2 μ2->Z σ2 H2 μ2) (he:∀ k,gens[k]?=none->z50 X Z C A hid (C.ex gens scope pos) gens em k []):∀ {z2C:List bJ} {cls:List Cl},ms X z2C cls->(∀ j ∈ z12 cls,j ∈ sl)->∀ k,gens.drop k=z2C->z50 X Z C A hid (C.ex gens scope pos) gens em k cls
 | _,_,.nil,_,k,hd=>he k (by
   have:=congrArg k9 hd
   simp at this
   exact aQ.mpr (by omega))
 | ⟨tg,iter,ifs,_⟩ :: gs,c :: cs,.cons hi hs hg hf r,hsl,k,hd=>by
  have hk:gens[k]?=some ⟨tg,iter,ifs,0⟩:=by
   have:(gens.drop k)[0]?=some ⟨tg,iter,ifs,0⟩:=by rw [hd];rfl
   simpa using this
  have hd':gens.drop (k + 1)=gs:=by
   have:=congrArg (List.drop 1) hd
   simpa [lE,kE] using this
  have hb:=zd2 co hx hcalm hZ he r (fun j m=>hsl j (bw _ m)) (k + 1) hd'
  have hn:gens[k + 1]?=none \/ ∃ tg' iter' ifs',gens[k + 1]?=some ⟨tg',iter',ifs',0⟩:=by
   have e:gens[k + 1]?=gs[0]?:=by rw [<- hd'];simp
   cases r with
   | nil=>exact .inl (by rw [e];rfl)
   | cons _ _ _ _ _=>exact .inr ⟨_,_,_,by rw [e];rfl⟩
  intro pins s σv H μ σ O acc Q E z B q
  unfold z6I
  rw [hk]
  simp only [bne_self_eq_false,cH,if_false]
  cases hit:c.it σ O with
  | exc c' O'=>unfold z4h at q;rw [hit] at q;exact q.elim
  | bad=>unfold z4h at q;rw [hit] at q;exact q.elim
  | ok src O1=>
   have q1:z4k X C A hid pins σv H μ (z12 (c :: cs)) (z1p src (z3W c cs em σ) (src.size O1) 0 O1 acc) Q:=by
    have:=q
    unfold z4h at this
    rw [hit] at this
    exact this
   refine aa (z2i hx (hi.out pins s σv H (fun J H1=>∃ μ1,Ext H μ H1 μ1/\l7 X.K H1 (A :: hid) μ1 O1/\mf X.K J src H1 (A :: hid) μ1) B.inv ⟨A :: hid,μ,σ,O,B.env,B.cells,by rw [hit];exact fun J H1 μ1 x c sa=>⟨μ1,x,c,sa⟩⟩) fun v s1 h1=>?_)
   refine aa (eQ ?_)
   refine aa (jr (hs v) ?_)
   refine aa (bL (z2i hx h1 fun itv s2 h2=>?_))
   obtain ⟨it,fp,tn,J,H2,e,I2,T,st2,f2,μ2,x2,c2,sa⟩:=h2
   subst e
   refine aa (wpAny_runOwn (h:=none) ?_)
   show codeAny _ X.A _ _ _
   have nA:A ∉ μ:=fun m=>B.cells.nh A m (by simp)
   refine zbj co hk T 0 st2 ?_
   refine dU (zca co (A:=A) (hid:=hid) (em:=em) (c:=c) (cs:=cs) hx hcalm hk hg hf (fun σ1 σ2 H1 μ1 H2 μ2 z1 k1 x1=>hZ σ1 σ2 H1 μ1 H2 μ2 z1 (fun j hj=>k1 j fun m=>hj (hsl j m)) x1) hb hn T pins s2 σv H2 μ2 σ O1 acc (src.size O1) (fun s'=>Q s') st2 f2 sa (hZ _ _ _ _ _ _ z (fun _ _=>rfl) x2.ea) ⟨I2,B.env.ext x2,c2,co.keep B.grown nA x2⟩ ?_) fun r s' hr=>?_
   ·cases hw:z1p src (z3W c cs em σ) (src.size O1) 0 O1 acc with
    | exc c' O'=>rw [hw] at q1;exact q1.elim
    | bad=>rw [hw] at q1;exact q1.elim
    | ok acc' O'=>
     rw [hw] at q1
     exact fun s' σv' H' μ' I' x' c' g' l' k'=>q1 s' σv' H' μ' I' (x2.ea.trans x') c' g' l' k'
   ·obtain ⟨f,rfl,hq⟩:=hr
    exact am hq
end
def cxB (X:Cx) (N':List Str) (scope:b9) (cells:List (Str × af)) (C:af) (s:ai) (H:Hp) (fp:List af):Cx:=
 { X with
  N:=N',s₀:=s,H₀:=H
  env:={ scope:=relabel scope X.env,locals:=C,globals:=X.env.globals,cells:=cells,qual:=X.env.qual,func:=none,code:=X.env.code,frame:=X.env.frame,builtins:=X.env.builtins }
  outer:=X.stack,ex:=fp,fn:=fun x=>scope.names.lookup x == some .cell,pn:=[],xe:=fun _ _=>False }
structure BOk (sc scope:b9) (N':List Str) (sl:List Nat):Prop where
 kind:scope.kind=.function
 nd:(scope.names.map (·.1)).Nodup
 frees:∀ y ∈ scope.names,y.2=.free->sc.names.lookup y.1=some .cell \/ sc.names.lookup y.1=some .free
 own:∀ (i:Nat) x,N'[i]?=some x->(x,NameKind.local) ∈ scope.names \/ (x,cN) ∈ scope.names->i ∈ sl
theorem z1C {β:Type}:∀ {l:List (Str × β)} {x:Str} {b:β},(l.map (·.1)).Nodup->(x,b) ∈ l->l.lookup x=some b
 | [],_,_,_,h=>by cases h
 | (y,c) :: r,x,b,nd,h=>by
  obtain ⟨n1,n2⟩:=bO.mp nd
  rcases av.mp h with e|h
  ·cases e;simp [cL]
  ·have ne:x ≠ y:=fun e=>n1 (aO.mpr ⟨(x,b),h,e⟩)
   rw [cL]
   have:(x == y)=false:=by simpa using ne
   rw [this]
   exact z1C n2 h
theorem z3j (env:Env) (x:Str):∀ (names:List (Str × cD)),(names.map fun (n,k)=>if (k == cz && env.scope.kind == .function && env.kindOf n == some .cell) then (n,cN) else (n,k)).lookup x =
  (names.lookup x).map fun k=>if (k == cz && env.scope.kind == .function && env.kindOf x == some .cell) then cN else k
 | []=>rfl
 | (n,k) :: r=>by
  show List.lookup x ((if (k == cz && env.scope.kind == .function && env.kindOf n == some .cell)=true then (n,cN) else (n,k)) :: _)=_
  cases hx:x == n with
  | true=>
   have e:x=n:=by simpa using hx
   subst e
   simp only [cL,hx,eZ]
   split
   ·rename_i h;simp [cL,h]
   ·rename_i h;simp [cL,h]
  | false=>
   have ih:=z3j env x r
   simp only [cL,hx]
   rw [<- ih]
   split <;> simp only [cL,hx]
theorem z6G (h:Vis (relabel scope env) x):(x,NameKind.local) ∈ scope.names \/ (x,cN) ∈ scope.names \/ (x,cz) ∈ scope.names:=by
 unfold Vis relabel at h
 simp only [z3j] at h
 cases e:scope.names.lookup x with
 | none=>rw [e] at h;simp at h
 | some k=>
  have m:=be e
  cases k with
  | «local»=>exact .inl m
  | cell=>exact .inr (.inl m)
  | free=>exact .inr (.inr m)
  | _=>rw [e] at h;simp at h
def z1l (cells:List (Str × af)):List (Str × cD)->List (Str × af)->List (Str × af)
 | [],acc=>acc
 | (n,k) :: r,acc=>if k == .free then z1l cells r ((n,(cells.lookup n).getD 0) :: acc) else z1l cells r acc
theorem z3N (h:∀ y ∈ scope.names,y.2=.free->∃ c,env.cells.lookup y.1=some c):closureFor scope env=pure (z1l env.cells scope.names []):=by
 have key:∀ (names:List (Str × cD)) (acc:List (Str × af)),(∀ y ∈ names,y.2=.free->∃ c,env.cells.lookup y.1=some c)->
   (forIn names acc fun (x:Str × cD) (cs:List (Str × af))=>(if x.2 == .free then (do let a <- cellOf env x.1;pure (eY ((x.1,a) :: cs))) else pure (eY cs):Sem _))=pure (z1l env.cells names acc):=by
  intro names
  induction names with
  | nil=>intro acc _;rfl
  | cons y r ih=>
   intro acc hn
   obtain ⟨n,k⟩:=y
   rw [fG]
   unfold z1l
   by_cases hk:(k == cz)=true
   ·obtain ⟨c,hc⟩:=hn (n,k) aH (by simpa using hk)
    have e1:cellOf env n=pure c:=by unfold cellOf;rw [hc]
    simp only [hk,if_true,e1,pure_bind,hc,Option.getD_some]
    exact ih _ fun y hy=>hn y (au _ hy)
   ·simp only [hk,if_false,pure_bind,cH]
    exact ih _ fun y hy=>hn y (au _ hy)
 have:=key scope.names [] h
 unfold closureFor
 refine Eq.trans ?_ (congrArg (fun m=>m >>= fun cs=>pure cs) this)
 congr 1
theorem z3q:∀ (names:List (Str × cD)) (acc:List (Str × af)),(x,c) ∈ z1l cells names acc->(x,c) ∈ acc \/ ((x,cz) ∈ names/\c=(cells.lookup x).getD 0)
 | [],acc,h=>.inl h
 | (n,k) :: r,acc,h=>by
  unfold z1l at h
  by_cases hk:(k == cz)=true
  ·rw [if_pos hk] at h
   rcases z3q r _ h with m|⟨m,e⟩
   ·rcases av.mp m with m|m
    ·cases m
     have:k=.free:=by simpa using hk
     subst this
     exact .inr ⟨aH,rfl⟩
    ·exact .inl m
   ·exact .inr ⟨au _ m,e⟩
  ·rw [if_neg hk] at h
   rcases z3q r _ h with m|⟨m,e⟩
   ·exact .inl m
   ·exact .inr ⟨au _ m,e⟩
theorem z5p:∀ (names:List (Str × cD)) (acc:List (Str × af)),p ∈ acc->p ∈ z1l cells names acc
 | [],acc,h=>h
 | (n,k) :: r,acc,h=>by
  unfold z1l
  split
  ·exact z5p r _ (au _ h)
  ·exact z5p r _ h
theorem z3x:∀ (names:List (Str × cD)) (acc:List (Str × af)),(x,cz) ∈ names->(x,(cells.lookup x).getD 0) ∈ z1l cells names acc
 | (n,k) :: r,acc,h=>by
  unfold z1l
  rcases av.mp h with e|h
  ·cases e
   rw [if_pos (by decide)]
   exact z5p r _ aH
  ·split
   ·exact z3x r _ h
   ·exact z3x r _ h
theorem zdn:∀ (names:List (Str × cD)) (n:Nat) (acc:List (Str × af)),(x,c) ∈ bP n names acc->(x,c) ∈ acc \/ ((x,cN) ∈ names/\n <= c)
 | [],n,acc,h=>.inl h
 | (y,k) :: r,n,acc,h=>by
  unfold bP at h
  by_cases hk:(k == cN)=true
  ·rw [if_pos hk] at h
   rcases zdn r _ _ h with m|⟨m,e⟩
   ·rcases av.mp m with m|m
    ·cases m
     have:k=.cell:=by simpa using hk
     subst this
     exact .inr ⟨aH,aB _⟩
    ·exact .inl m
   ·exact .inr ⟨au _ m,kQ e⟩
  ·rw [if_neg hk] at h
   rcases zdn r _ _ h with m|⟨m,e⟩
   ·exact .inl m
   ·exact .inr ⟨au _ m,e⟩
theorem zdK:∀ (names:List (Str × cD)) (n:Nat) (acc:List (Str × af)),p ∈ acc->p ∈ bP n names acc
 | [],_,_,h=>h
 | (y,k) :: r,n,acc,h=>by
  unfold bP
  split
  ·exact zdK r _ _ (au _ h)
  ·exact zdK r _ _ h
theorem z8m:∀ (names:List (Str × cD)) (n:Nat) (acc:List (Str × af)),(acc.Pairwise fun x y=>x.2 ≠ y.2)->(∀ p ∈ acc,p.2 < n)->(bP n names acc).Pairwise fun x y=>x.2 ≠ y.2
 | [],_,_,h,_=>h
 | (y,k) :: r,n,acc,h,hl=>by
  unfold bP
  split
  ·refine z8m r (n + 1) _ (cI.mpr ⟨fun p hp=>?_,h⟩) fun p hp=>?_
   ·exact fun e=>absurd (hl p hp) (by show ¬ p.2 < n;rw [<- e];exact bE _)
   ·rcases av.mp hp with rfl|hp
    ·exact ci _
    ·exact cy (hl p hp)
  ·exact z8m r n acc h hl
theorem z89:∀ (names:List (Str × cD)) (n:Nat) (acc:List (Str × af)),((names.map (·.1)).Nodup)->(acc.map (·.1)).Nodup->(∀ p ∈ acc,∀ k,(p.1,k) ∈ names->k ≠ cN)->((bP n names acc).map (·.1)).Nodup
 | [],_,_,_,h,_=>h
 | (y,k) :: r,n,acc,nd,h,hl=>by
  obtain ⟨n1,n2⟩:=bO.mp nd
  unfold bP
  by_cases hk:(k == cN)=true
  ·rw [if_pos hk]
   have hk':k=.cell:=by simpa using hk
   refine z89 r (n + 1) _ n2 (bO.mpr ⟨fun m=>?_,h⟩) fun p hp k' hk2=>?_
   ·obtain ⟨p,hp,e⟩:=aO.mp m
    exact hl p hp k (by rw [e];exact aH) hk'
   ·rcases av.mp hp with rfl|hp
    ·exact absurd (aO.mpr ⟨(y,k'),hk2,rfl⟩) n1
    ·exact hl p hp k' (au _ hk2)
  ·rw [if_neg hk]
   exact z89 r n acc n2 h fun p hp k' hk2=>hl p hp k' (au _ hk2)
theorem z2F:∀ (names:List (Str × cD)) (acc:List (Str × af)),((names.map (·.1)).Nodup)->(acc.map (·.1)).Nodup->(∀ p ∈ acc,p.1 ∉ names.map (·.1))->((z1l cells names acc).map (·.1)).Nodup
 | [],_,_,h,_=>h
 | (y,k) :: r,acc,nd,h,hl=>by
  obtain ⟨n1,n2⟩:=bO.mp nd
  unfold z1l
  split
  ·refine z2F r _ n2 (bO.mpr ⟨fun m=>?_,h⟩) fun p hp=>?_
   ·obtain ⟨p,hp,e⟩:=aO.mp m
    exact hl p hp (by rw [e];simp)
   ·rcases av.mp hp with rfl|hp
    ·exact n1
    ·exact fun m=>hl p hp (au _ m)
  ·exact z2F r acc n2 h fun p hp m=>hl p hp (au _ m)
theorem za0:∀ (names:List (Str × cD)) (h:aP) (acc:List (Str × af)),(x,c) ∈ bP h.objs.size names acc->(x,c) ∈ acc \/ (kF h names).IsCell c none
 | [],_,_,m=>.inl m
 | (y,k) :: r,h,acc,m=>by
  unfold bP at m
  unfold kF
  by_cases hk:(k == cN)=true
  ·rw [if_pos hk] at m ⊢
   have e:h.objs.size + 1=(h.push { cls:=.type "cell",data:=.cell none }).objs.size:=(bQ ..).symm
   rw [e] at m
   rcases za0 r _ _ m with m|m
   ·rcases av.mp m with m|m
    ·cases m
     exact .inr ⟨_,gM _ _ _ _ (aC _ rfl),rfl⟩
    ·exact .inl m
   ·exact .inr m
  ·rw [if_neg hk] at m ⊢
   exact za0 r _ _ m
theorem z8C {l:List (Str × af)} (nd:(l.map (·.1)).Nodup) (inj:∀ p ∈ l,∀ q ∈ l,p.2=q.2->p.1=q.1):l.Pairwise fun x y=>x.2 ≠ y.2:=by
 induction l with
 | nil=>exact .nil
 | cons p r ih=>
  obtain ⟨n1,n2⟩:=bO.mp nd
  refine cI.mpr ⟨fun q hq e=>n1 ?_,ih n2 fun a ha b hb=>inj a (au _ ha) b (au _ hb)⟩
  exact aO.mpr ⟨q,hq,(inj p aH q (au _ hq) e).symm⟩
abbrev z99:Obj:={ cls:=.type "dict",data:=.dict #[] }
section
variable {X:Cx} {pins:List (af × Obj)} {σv:St} {H:Hp} {s:ai}
abbrev zfa (ob:Obj) (h:aP) (names:List (Str × cD)):aP:=kF ((h.push ob).push z99) names
theorem z6p (ob:Obj) (h:aP) (names:List (Str × cD)) (b:af) (o:Obj) (e:h.get? b=some o):(zfa ob h names).get? b=some o:=gM _ _ _ _ (ah _ (ah _ e))
theorem zly (ob:Obj) (h:aP):((h.push ob).push z99).objs.size=h.objs.size + 2:=by rw [bQ,bQ]
theorem ze6 {scope:b9} {ext:List Str} {sl:List Nat} {fp:List af} (I:L2.Inv X pins σv H s) (hfp:∀ b ∈ fp,z8u X pins H b) (hlt:∀ b ∈ fp,b < s.heap.objs.size) (hb:BOk X.env.scope scope (X.N ++ ext) sl) {ob:Obj} {u:HO} (hfr:ob.isFreed=false) (hob:∀ h:aP,h.get? s.heap.objs.size=some ob->mi X.prog X.w (upd H s.heap.objs.size u) h s.heap.objs.size u):
  L2.Inv (cxB X (X.N ++ ext) scope (bP (s.heap.objs.size + 2) scope.names (z1l X.env.cells scope.names [])) (s.heap.objs.size + 1) s H fp) [] (clr (σv ++ aq ext.length none) sl)
   (upd H s.heap.objs.size u) { s with heap:=zfa ob s.heap scope.names }:=by
 have hclt:∀ x c,X.env.cells.lookup x=some c->c < s.heap.objs.size:=fun x c e=>by
  obtain ⟨v,z⟩:=I.cell x c e
  exact z.lt
 -- a free name of the block has its cell around
 have hfree:∀ x,(x,cz) ∈ scope.names->∃ c,X.env.cells.lookup x=some c:=fun x hx=>I.ok.has x (hb.frees _ hx rfl)
 have hcl:∀ x c,(x,c) ∈ z1l X.env.cells scope.names []->(x,cz) ∈ scope.names/\X.env.cells.lookup x=some c:=fun x c hm=>by
  rcases z3q _ _ hm with m|⟨m,e⟩
  ·cases m
  ·obtain ⟨c',hc'⟩:=hfree x m
   rw [hc'] at e
   exact ⟨m,by rw [e];exact hc'⟩
 have hlc:∀ x,(x,cz) ∈ scope.names->∀ c,X.env.cells.lookup x=some c->(x,c) ∈ z1l X.env.cells scope.names []:=fun x hx c e=>by
  have:=z3x (cells:=X.env.cells) scope.names [] hx
  rw [e] at this
  exact this
 have ndcl:((z1l X.env.cells scope.names []).map (·.1)).Nodup:=z2F _ _ hb.nd (by simp) (by intro p hp;cases hp)
 have ndc:((bP (s.heap.objs.size + 2) scope.names (z1l X.env.cells scope.names [])).map (·.1)).Nodup:=z89 _ _ _ hb.nd ndcl fun p hp k hk e=>by
  subst e
  have h1:=(hcl p.1 p.2 hp).1
  have:=z1C hb.nd h1
  rw [z1C hb.nd hk] at this
  cases this
 have apart:(bP (s.heap.objs.size + 2) scope.names (z1l X.env.cells scope.names [])).Pairwise fun x y=>x.2 ≠ y.2:=by
  refine z8m _ _ _ (z8C ndcl fun p hp q hq e=>?_) fun p hp=>aN (hclt _ _ (hcl p.1 p.2 hp).2) (fu _ _)
  refine I.ok.inj p.1 q.1 p.2 (hcl p.1 p.2 hp).2 ?_
  rw [e];exact (hcl q.1 q.2 hq).2
 have hsplit:∀ x c,(bP (s.heap.objs.size + 2) scope.names (z1l X.env.cells scope.names [])).lookup x=some c->((x,cz) ∈ scope.names/\X.env.cells.lookup x=some c) \/ ((x,cN) ∈ scope.names/\s.heap.objs.size + 2 <= c):=fun x c e=>by
  rcases zdn _ _ _ (be e) with m|m
  ·exact .inl (hcl x c m)
  ·exact .inr m
 have fresh:∀ a,s.heap.objs.size <= a->H a=none:=fun a ha=>I.hok.fresh ha
 have kp:=z6p ob s.heap scope.names
 have oldc:∀ x,(x,cz) ∈ scope.names->∀ c,X.env.cells.lookup x=some c->(bP (s.heap.objs.size + 2) scope.names (z1l X.env.cells scope.names [])).lookup x=some c:=fun x hx c e=>
  z1C ndc (zdK _ _ _ (hlc x hx c e))
 refine ⟨⟨I.ok.mod,hb.kind,I.ok.glob,I.ok.blt,dQ _,fun x y c h1 h2=>name_of_addr apart (be h1) (be h2),fun x hx=>?_,fun x c hx h=>?_,I.ok.hd,I.ok.frames,.inl rfl,fun b hbm=>⟨?_,fun x c e=>?_⟩,I.bs,?_,fun b o e hbm=>?_,fun b hbm z=>?_,I.stack,I.stkFree⟩,
  rfl,I.bare,Un.laid kp (aB _) (fresh _ (aB _)),?_,fun x c e=>?_,?_,fun x c e=>?_,fun p hp=>absurd (show p ∈ ([]:List (af × Obj)) from hp) (by simp),I.hok.laid kp (aB _) ?_,?_,I.tk⟩
 ·-- has
  have hx:Vis (relabel scope X.env) x:=.inr hx
  rcases z6G hx with m|m|m
  ·exfalso
   have e:=z1C hb.nd m
   have e2:(relabel scope X.env).names.lookup x=some .local:=lookup_relabel_local e
   rcases (show (relabel scope X.env).names.lookup x=some .cell \/ (relabel scope X.env).names.lookup x=some .free by rename_i h0;exact h0) with q|q
   ·rw [e2] at q;cases q
   ·rw [e2] at q;cases q
  ·exact iX.mp (e9 scope.names _ _ (.inl (z1C hb.nd m)))
  ·obtain ⟨c,hc⟩:=hfree x m
   exact ⟨c,oldc x m c hc⟩
 ·-- cab
  have hx:(scope.names.lookup x == some .cell)=true:=hx
  rcases hsplit x c h with ⟨m,_⟩|⟨_,m⟩
  ·rw [z1C hb.nd m] at hx;cases hx
  ·exact bb (fu _ _) m
 ·exact aX (cy (hlt b hbm))
 ·rcases hsplit x c e with ⟨_,m⟩|⟨_,m⟩
  ·exact (hfp b hbm).2.2.2.2.1 x c m
  ·have h0:b < s.heap.objs.size:=hlt b hbm
   exact fun z=>by
    rw [z] at m
    exact absurd (aN h0 (bb (fu _ 2) m)) (bE _)
 ·exact bb I.ok.bsz I.sz
 ·rcases (hfp b hbm).2.2.2.1 with z|z
  ·exact I.ok.noex b o e z
  ·exact absurd (aN (aF e) (bb I.ok.bsz z)) (bE _)
 ·rcases av.mp (I.stkSub b z) with q|q
  ·exact (hfp b hbm).2.1 q
  ·exact (hfp b hbm).2.2.1 q
 ·-- loc
  refine ⟨fun _=>none,?_,fun i x v h1 h2 h3=>?_⟩
  ·have z:=(Heap.Ns.new (s.heap.push ob) (.type "dict")).keeps (gM scope.names _)
   rw [bQ] at z
   exact z
  ·obtain ⟨g1,g2⟩:=z82 _ _ _ _ h2
   have hi:i < σv.length:=by
    by_cases hi:i < σv.length
    ·exact hi
    ·rw [bp (by omega),dH] at g1
     split at g1 <;> cases g1
   rw [aL hi] at g1
   have hxN:X.N[i]?=some x:=by
    have h1:(X.N ++ ext)[i]?=some x:=h1
    rw [aL (by rw [<- I.len];exact hi)] at h1
    exact h1
   rcases z6G h3 with m|m|m
   ·exact absurd (hb.own i x h1 (.inl m)) g2
   ·exact absurd (hb.own i x h1 (.inr m)) g2
   ·obtain ⟨m0,hn,hl⟩:=I.loc
    have kx:=hb.frees _ m rfl
    obtain ⟨u,ru,lk⟩:=hl i x v hxN g1 (.inr kx)
    refine ⟨u,ru,?_⟩
    rcases lk with ⟨q,_⟩|⟨q,c,hc,z⟩
    ·exfalso
     have q:X.env.scope.names.lookup x=some .local:=q
     rcases kx with k|k <;> (rw [q] at k;cases k)
    ·refine .inr ⟨?_,c,oldc x m c hc,z.keeps kp⟩
     have e:=z1C hb.nd m
     show (relabel scope X.env).names.lookup x=some .cell \/ (relabel scope X.env).names.lookup x=some .free
     unfold relabel
     simp only [z3j,e,eZ]
     split
     ·exact .inl rfl
     ·exact .inr rfl
 ·-- cell
  rcases za0 scope.names ((s.heap.push ob).push z99) (z1l X.env.cells scope.names []) (x:=x) (c:=c) (by rw [zly];exact be e) with m|m
  ·obtain ⟨v,z⟩:=I.cell x c (hcl x c m).2
   exact ⟨v,z.keeps kp⟩
  ·exact ⟨none,m⟩
 ·show upd H s.heap.objs.size u (s.heap.objs.size + 1)=none
  rw [z0Y (cM (ci _))]
  exact fresh _ (dQ _)
 ·rcases hsplit x c e with ⟨_,m⟩|⟨_,m⟩
  ·rw [z0Y (aX (hclt x c m))]
   exact I.freeC x c m
  ·have ne:c ≠ s.heap.objs.size:=fun z=>by
    rw [z] at m
    exact absurd m (by omega)
   rw [z0Y ne]
   exact fresh c (bb (fu _ 2) m)
 ·exact hob _ (gM _ _ _ _ (ah _ (aC _ hfr)))
 ·show _=(X.N ++ ext).length
  rw [z6Y,aE,gy,aE,I.len]
end
def noX {α:Type}:R α->R α
 | .ok a O=>.ok a O
 | _=>.bad
def z48 (ext:Nat) (it0:DI) (g:Tg) (ts:List DT) (cs:List Cl) (em:Em):Sg->Ow->R (List D):=fun σ O=>(it0 σ O).bnd fun src O1=>
 noX (z1p src (z3W ⟨it0,g,ts⟩ cs em (clr (σ ++ aq ext none) (z12 (⟨it0,g,ts⟩ :: cs)))) (src.size O1) 0 O1 [])
def z3M (ext:Nat) (it0:DI) (g:Tg) (ts:List DT) (cs:List Cl) (te:DE):Sg->Ow->R (List D):=fun σ O=>(it0 σ O).bnd fun src O1=>
 noX (z1p src (z4B ⟨it0,g,ts⟩ cs te (clr (σ ++ aq ext none) (z12 (⟨it0,g,ts⟩ :: cs)))) (src.size O1) 0 O1 [])
theorem z5f (ext:Nat) (it0:DI) (g:Tg) (ts:List DT) (cs:List Cl) (te:DE):z48 ext it0 g ts cs (emL te)=z3M ext it0 g ts cs te:=by
 funext σ O;unfold z48 z3M;rw [zh0]
def ZB (σv:St) (n:Nat) (sl:List Nat) (A:af) (H0:Hp):St->Hp->List af->Prop:=fun σ H μ=>(∀ j,j ∉ sl->σ[j]?=(σv ++ aq n none)[j]?)/\H0 A=none/\∃ μ0 o,Ea A (upd H0 A o) μ0 H μ/\∀ a ∈ μ0,∃ vs,H0 a=some (.lst vs)
section
variable {C:zbh} {em:Em}
variable {X:Cx} {M:jh} {A:ba} {E:ae->ai->Prop} {s:ai}
theorem z9A
  (h:Q { scope,locals:=s.heap.objs.size,globals,cells:=bP (s.heap.objs.size + 1) scope.names cl,qual,func:=none,code:=env.code,frame:=env.frame,builtins:=env.builtins } { s with heap:=kF (s.heap.push z99) scope.names }):
  ar M A (newFunctionEnv scope globals cl [] qual none .none (some env)) Q E s:=by
 simp only [newFunctionEnv,kB,if_true]
 refine aa (wpAny_alloc ?_)
 refine aa (wpAny_layCells _ (fun name kind cells=>by cases hkc:kind == cN <;> simp [hkc]) _ _ _ _ ?_)
 rw [show ({ s with heap:=s.heap.push z99 }:ai).heap.objs.size=s.heap.objs.size + 1 from bQ ..]
 simp only [jB,pure_bind]
 exact am h
structure zgd (X:Cx) (C:zbh) (pins:List (af × Obj)) (σv:St) (H:Hp) (hid μ:List af) (L Cn:af) (acc:List D) (O:Ow) (s':ai):Prop where
 inv:∃ H' μ',L2.Inv X pins σv H' s'/\Ext H μ H' μ'/\l7 X.K H' (L :: hid) μ' O/\H L=none/\H' Cn=none/\C.G X.K X.prog X.w L hid H' μ' acc
 ns:∃ m,s'.heap.Ns Cn m
 loc:Cn ≠ X.env.locals
 young:X.s₀.heap.objs.size <= Cn
 cel:∀ x c,X.env.cells.lookup x=some c->c ≠ Cn
 pns:∀ p ∈ X.pn ++ pins,p.1 ≠ Cn
theorem Inv.bare {pins:List (af × Obj)} {σv:St} {H:Hp} {s':ai} {C:af} {h':aP} (I:L2.Inv X pins σv H s') (hs:cr C s'.heap h') (hn:H C=none) (loc:C ≠ X.env.locals) (young:X.s₀.heap.objs.size <= C) (cel:∀ x c,X.env.cells.lookup x=some c->c ≠ C)
  (pns:∀ p ∈ X.pn ++ pins,p.1 ≠ C):L2.Inv X pins σv H { s' with heap:=h' }:=I.turned (t':=s'.toks) (fun b o hb e=>(hs.2 b hb).trans e) hn loc (.inr young) cel pns
theorem zbq (co:z6T C)
  {it:af} {fp:List af} {tn:Nat->aP->Prop} {J:It} {RR:ae->af->Result->ai->Prop}
  (hcalm:X.calm=true) (hb:BOk X.env.scope scope (X.N ++ ext) (z12 (⟨it0,g,ts⟩ :: cs)))
  (blk:∀ cells Cn,PG (cxB X (X.N ++ ext) scope cells Cn s H fp) tg (g.rd X.K)/\bi (fun e t=>PDT (cxB X (X.N ++ ext) scope cells Cn s H fp) Ex0 e t) ifs ts/\ms (cxB X (X.N ++ ext) scope cells Cn s H fp) gs cs/\∀ A hid k,(⟨tg,iter,ifs,0⟩ :: gs:List bJ)[k]?=none->z50 (cxB X (X.N ++ ext) scope cells Cn s H fp) (ZB σv ext.length (z12 (⟨it0,g,ts⟩ :: cs)) A H) C A hid (C.ex (⟨tg,iter,ifs,0⟩ :: gs) scope pos) (⟨tg,iter,ifs,0⟩ :: gs) em k [])
  (I:L2.Inv X pins σv H s) (e1:l9 X.K H hid μ σ σv) (c1:l7 X.K H hid μ O) (T:zdJ X.prog X.w X.K tg J fp it tn) (st:tn 0 s.heap) (hfp:∀ b ∈ fp,z8u X pins H b) (sa:mf X.K J src H hid μ)
  (hw:z1p src (z3W ⟨it0,g,ts⟩ cs em (clr (σ ++ aq ext.length none) (z12 (⟨it0,g,ts⟩ :: cs)))) (src.size O) 0 O []=.ok acc O2)
  (hRR:∀ f s',zgd X C pins σv H hid μ s.heap.objs.size (s.heap.objs.size + 1) acc O2 s'->RR (.ref s.heap.objs.size) (s.heap.objs.size + 1) (.ok f) s'):
  ar (ay X.prog X.w) X.A C.new (fun ac s₃=>ar (ay X.prog X.w) X.A (newFunctionEnv scope X.env.globals (z1l X.env.cells scope.names []) [] X.env.qual none .none (some X.env)) (fun cenv s₄=>
   codeAny (ay X.prog X.w) X.A (.compStart (C.ex (⟨tg,iter,ifs,0⟩ :: gs) scope pos) 0 (.ref it) ac { cenv with scope:=relabel scope X.env }) (RR ac cenv.locals) s₄) E s₃) E s:=by
 refine co.new fun ob hfr hob=>?_
 refine z9A ?_
 have hsz:(s.heap.push ob).objs.size=s.heap.objs.size + 1:=bQ ..
 have hlt:∀ b ∈ fp,b < s.heap.objs.size:=fun b hb=>by
  obtain ⟨o,ho,_⟩:=T.obj 0 _ st b hb
  exact aF ho
 have IB:=ze6 (u:=C.ho X.prog X.w s.heap.objs.size) I hfp hlt hb hfr (fun h=>hob H h _ I.big)
 have nL:H s.heap.objs.size=none:=I.hok.fresh (aB _)
 have hne:∀ b ∈ fp,b ≠ s.heap.objs.size:=fun b hb=>aX (hlt b hb)
 obtain ⟨b1,b2,b3,b4⟩:=blk (bP (s.heap.objs.size + 2) scope.names (z1l X.env.cells scope.names [])) (s.heap.objs.size + 1)
 generalize hX':cxB X (X.N ++ ext) scope (bP (s.heap.objs.size + 2) scope.names (z1l X.env.cells scope.names [])) (s.heap.objs.size + 1) s H fp=X' at IB b1 b2 b3 b4
 have eP:X'.prog=X.prog:=by rw [<- hX'];rfl
 have eW:X'.w=X.w:=by rw [<- hX'];rfl
 have eK:X'.K=X.K:=by rw [<- hX'];rfl
 have eA:X'.A=X.A:=by rw [<- hX'];rfl
 have ex:X'.xe=fun _ _=>False:=by rw [<- hX'];rfl
 have ec:X'.calm=true:=by rw [<- hX'];exact hcalm
 have eenv:X'.env={ scope:=relabel scope X.env,locals:=s.heap.objs.size + 1,globals:=X.env.globals,cells:=bP (s.heap.objs.size + 2) scope.names (z1l X.env.cells scope.names []),qual:=X.env.qual,func:=none,code:=X.env.code,frame:=X.env.frame,builtins:=X.env.builtins }:=by rw [<- hX'];rfl
 have eenv2:({ ({ scope,locals:=(s.heap.push ob).objs.size,globals:=X.env.globals,cells:=bP ((s.heap.push ob).objs.size + 1) scope.names (z1l X.env.cells scope.names []),qual:=X.env.qual,func:=none,code:=X.env.code,frame:=X.env.frame,builtins:=X.env.builtins }:Env) with scope:=relabel scope X.env }:Env)=X'.env:=by
  rw [eenv,hsz]
 show codeAny _ _ (.compStart _ 0 _ _ ({ ({ scope,locals:=(s.heap.push ob).objs.size,globals:=X.env.globals,cells:=bP ((s.heap.push ob).objs.size + 1) scope.names (z1l X.env.cells scope.names []),qual:=X.env.qual,func:=none,code:=X.env.code,frame:=X.env.frame,builtins:=X.env.builtins }:Env) with scope:=relabel scope X.env }:Env)) (RR _ (s.heap.push ob).objs.size) _
 rw [eenv2,hsz]
 have mv0:Mv H hid μ (upd H s.heap.objs.size (C.ho X.prog X.w s.heap.objs.size)) (s.heap.objs.size :: hid) μ:=(Mv.hide nL).trans ⟨⟨[],by simp⟩,fun b o h _ n2 _=>by rw [z0Y (fun z=>n2 (by simp [z]))];exact h,fun _ m=>.inl m,fun _ m=>.inl m,z1G,fun _ t=>t.upd (.inl nL)⟩
 have c2:l7 X.K (upd H s.heap.objs.size (C.ho X.prog X.w s.heap.objs.size)) (s.heap.objs.size :: hid) μ O:=by
  refine ⟨c1.len,c1.nd,fun a m z=>?_,fun a m=>?_,fun k a e=>?_⟩
  ·rcases av.mp z with rfl|z
   ·exact (c1.not_in nL).2 m
   ·exact c1.nh a m z
  ·rcases av.mp m with rfl|m
   ·rw [z18];simp
   ·exact z1G a (c1.ht a m)
  ·obtain ⟨ds,vs,h1,h2,h3⟩:=c1.at_ k a e
   exact ⟨ds,vs,h1,by rw [z0Y (z0Z h2 nL)];exact h2,h3.mv mv0⟩
 have e2:l9 X.K (upd H s.heap.objs.size (C.ho X.prog X.w s.heap.objs.size)) (s.heap.objs.size :: hid) μ (clr (σ ++ aq ext.length none) (z12 (⟨it0,g,ts⟩ :: cs))) (clr (σv ++ aq ext.length none) (z12 (⟨it0,g,ts⟩ :: cs))):=by
  refine ⟨by rw [z6Y,z6Y,aE,aE,e1.len];simp,fun i d h=>?_⟩
  obtain ⟨g1,g2⟩:=z82 _ _ _ _ h
  have hi:i < σ.length:=by
   by_cases hi:i < σ.length
   ·exact hi
   ·rw [bp (by omega),dH] at g1
    split at g1 <;> cases g1
  rw [aL hi] at g1
  obtain ⟨v,h1,h2⟩:=e1.at_ i d g1
  exact ⟨v,by rw [zax _ _ _ g2,aL (by rw [<- e1.len];exact hi)];exact h1,h2.mv mv0⟩
 have hfp':∀ b ∈ fp,z8u X' [] (upd H s.heap.objs.size (C.ho X.prog X.w s.heap.objs.size)) b:=fun b hbm=>by
  obtain ⟨f0,f1,f2,f3,f4,f5⟩:=hfp b hbm
  have h1:=IB.ok.exf
  refine ⟨by rw [z0Y (hne b hbm)];exact f0,?_,?_,.inl ?_,?_,?_⟩
  ·exact (h1 b (by rw [<- hX'];exact hbm)).1
  ·rw [<- hX']
   exact fun z=>IB.ok.exfs b (by rw [<- hX'];exact hbm) (by rw [<- hX'];exact z)
  ·rw [<- hX'];exact hbm
  ·exact (h1 b (by rw [<- hX'];exact hbm)).2
  ·rw [<- hX']
   exact fun p hp=>absurd (show p ∈ ([]:List (af × Obj)) from hp) (by simp)
 have st':tn 0 (zfa ob s.heap scope.names):=T.keep _ _ _ st fun b _ o e=>z6p _ _ _ _ _ e
 have T':zdJ X'.prog X'.w X'.K tg J fp it tn:=by rw [eP,eW,eK];exact T
 have hZB:∀ (σ1 σ2:St) H1 μ1 H2 μ2,ZB σv ext.length (z12 (⟨it0,g,ts⟩ :: cs)) s.heap.objs.size H σ1 H1 μ1->(∀ j,j ∉ z12 (⟨it0,g,ts⟩ :: cs)->σ2[j]?=σ1[j]?)->Ea s.heap.objs.size H1 μ1 H2 μ2->ZB σv ext.length (z12 (⟨it0,g,ts⟩ :: cs)) s.heap.objs.size H σ2 H2 μ2:=
  fun σ1 σ2 H1 μ1 H2 μ2 ⟨z1,z2,μ0,o,z3,z4⟩ k1 x1=>⟨fun j hj=>(k1 j hj).trans (z1 j hj),z2,μ0,o,z3.trans x1,z4⟩
 have key:=zca (X:=X') co (A:=s.heap.objs.size) (hid:=hid) (gens:=⟨tg,iter,ifs,0⟩ :: gs) (scope:=scope) (pos:=pos) (em:=em) (k:=0) (c:=⟨it0,g,ts⟩) (cs:=cs) ex ec rfl (by rw [eK];exact b1) b2 hZB (zd2 co ex ec (sl:=z12 (⟨it0,g,ts⟩ :: cs)) hZB (b4 _ _) b3 (fun j m=>bw _ m) 1 rfl) (by
   cases b3 with
   | nil=>exact .inl rfl
   | cons _ _ _ _ _=>exact .inr ⟨_,_,_,rfl⟩) T' [] { s with heap:=zfa ob s.heap scope.names } (clr (σv ++ aq ext.length none) (z12 (⟨it0,g,ts⟩ :: cs))) (upd H s.heap.objs.size (C.ho X.prog X.w s.heap.objs.size)) μ (clr (σ ++ aq ext.length none) (z12 (⟨it0,g,ts⟩ :: cs))) O [] (src.size O)
   (fun s'=>zgd X C pins σv H hid μ s.heap.objs.size (s.heap.objs.size + 1) acc O2 s') st' hfp' (by rw [eK];exact sa.mv mv0) ⟨fun j hj=>zax _ _ _ hj,nL,μ,_,.refl,fun a m=>by
    obtain ⟨k,e⟩:=jT m
    obtain ⟨_,vs,_,h2,_⟩:=c1.at_ k a e
    exact ⟨vs,h2⟩⟩ ⟨IB,by rw [eK];exact e2,by rw [eK];exact c2,by rw [eK,eP,eW];exact co.g0⟩ ?_
 ·have key2:=zbj (X:=X') co (gens:=⟨tg,iter,ifs,0⟩ :: gs) (scope:=scope) (pos:=pos) (env:=X'.env) rfl T' 0 st' key
  rw [eP,eW,eA] at key2
  exact dU key2 fun r s' ⟨f,hr,q⟩=>by subst hr;exact hRR f s' q
 ·rw [hw]
  intro s' σv' H' μ' I' x' c' g' l' k'
  rw [eK] at c'
  rw [eK,eP,eW] at g'
  have xe:Ext H μ H' μ':=⟨x'.pre,fun b o h n ht=>x'.kept b o (by rw [z0Y (z0Z h nL)];exact h) n (z0Z h nL) ht,fun b m=>(x'.fresh b m).imp id fun z=>by
   by_cases q:b=s.heap.objs.size
   ·rw [q];exact nL
   ·rw [z0Y q] at z;exact z,fun b h=>x'.there b (z1G b h),fun P t=>x'.tab P (t.upd (.inl nL))⟩
  have un:Un (frs X.stack) fp H H' s.heap s'.heap:=by
   have:=I'.base
   rw [<- hX'] at this
   exact this
  have os:s'.os=s.os:=by
   have:=I'.os
   rw [<- hX'] at this
   exact this
  have hok:HOk X.prog X.w H' s'.heap:=by
   have:=I'.hok
   rw [eP,eW] at this
   exact this
  have IX:L2.Inv X pins σv H' s':=I.call' os un hok I'.bare fun b hbm=>by
   obtain ⟨f0,f1,f2,f3,f4,f5⟩:=hfp b hbm
   exact ⟨f3,f1,f4,f5⟩
  have big:∀ b,b < s.heap.objs.size->b ≠ s.heap.objs.size + 1:=fun b h=>aX (cy h)
  refine ⟨⟨H',μ',IX,xe,c',nL,?_,g'⟩,?_,?_,?_,fun x c e=>?_,fun p hp=>?_⟩
  ·have:=I'.free
   rw [eenv] at this
   exact this
  ·obtain ⟨m,hn,_⟩:=I'.loc
   rw [eenv] at hn
   exact ⟨m,hn⟩
  ·exact (big _ I.lt).symm
  ·exact bb I.sz (dQ _)
  ·obtain ⟨v,z⟩:=I.cell x c e
   exact big _ z.lt
  ·exact big _ (aF (I.pin p hp).1)
end
section
variable {X:Cx} {Ex:Nat->Hp->Prop}
theorem zjv {α:Type} {r:R α} {a:α} {O:Ow} (h:noX r=.ok a O):r=.ok a O:=by
 cases r with
 | ok _ _=>exact h
 | exc _ _=>cases h
 | bad=>cases h
theorem zgO {α:Type} {r:R α} {c:Nat} {O:Ow} (h:noX r=.exc c O):False:=by
 cases r <;> cases h
def zeu (C:zbh) (Ex:Nat->Hp->Prop) (K:aj) (P:aJ) (w:aR) (H:Hp) (hid μ:List af) (r:R (List D)) (Q:af->Hp->Prop):Prop:=match r with
 | .ok acc O'=>∀ L H' μ',H L=none->Ext H μ H' μ'->l7 K H' (L :: hid) μ' O'->C.G K P w L hid H' μ' acc->Q L H'
 | .exc c O'=>∀ H' μ',Ext H μ H' μ'->l7 K H' hid μ' O'->Ex c H'
 | .bad=>False
theorem Ext.none {H H':Hp} {μ μ':List af} (e:Ext H μ H' μ') {L:af} (h:H' L=ie):H L=ie:=by
 cases q:H L with
 | none=>rfl
 | some o=>exact absurd h (e.there L (by rw [q];simp))
theorem z61 {C:zbh} (co:z6T C) {em:Em} {tg iter:aK} {ifs:List aK} {gs:List bJ} {scope:b9} {pos cpos:Pos} {ext:List Str} {it0:DI} {g:Tg} {ts:List DT} {cs:List Cl} {pins:List (af × Obj)} {σv:St} {H:Hp} {s:ai} {hid μ:List af} {σ:Sg} {O:Ow}
  {use:Option (ae->Sem Unit)} {Q:ae->ai->Prop} (hcalm:X.calm=true) (hi:PDI X Ex tg iter it0) (hb:BOk X.env.scope scope (X.N ++ ext) (z12 (⟨it0,g,ts⟩ :: cs)))
  (blk:∀ cells Cn s' H' fp,L2.Inv X pins σv H' s'->(∀ b ∈ fp,z8u X pins H' b)->(∃ μ',Ext H μ H' μ')->PG (cxB X (X.N ++ ext) scope cells Cn s' H' fp) tg (g.rd X.K)/\bi (fun e t=>PDT (cxB X (X.N ++ ext) scope cells Cn s' H' fp) Ex0 e t) ifs ts/\ms (cxB X (X.N ++ ext) scope cells Cn s' H' fp) gs cs/\∀ A hid k,(⟨tg,iter,ifs,0⟩ :: gs:List bJ)[k]?=none->z50 (cxB X (X.N ++ ext) scope cells Cn s' H' fp) (ZB σv ext.length (z12 (⟨it0,g,ts⟩ :: cs)) A H') C A hid (C.ex (⟨tg,iter,ifs,0⟩ :: gs) scope pos) (⟨tg,iter,ifs,0⟩ :: gs) em k [])
  (hs:∀ x,cb iter X.env x=pure x) (I:L2.Inv X pins σv H s) (e1:l9 X.K H hid μ σ σv) (c1:l7 X.K H hid μ O)
  (q:zeu C Ex X.K X.prog X.w H hid μ (z48 ext.length it0 g ts cs em σ O)
   (fun (L:af) H'=>∀ s' Cn,L2.Inv X pins σv H' s'->(∃ m,s'.heap.Ns Cn m)->H' Cn=none->Cn ≠ X.env.locals->X.s₀.heap.objs.size <= Cn->(∀ x c,X.env.cells.lookup x=some c->c ≠ Cn)->(∀ p ∈ X.pn ++ pins,p.1 ≠ Cn)->
    compPost (ay X.prog X.w) X.A X.xe use Q (.ref L) Cn (.ok .next) s')):
  ar (ay X.prog X.w) X.A (comprehension (C.ex (⟨tg,iter,ifs,0⟩ :: gs) scope pos) scope X.env cpos C.new false (eval iter X.env) use) Q X.xe s:=by
 have hfree:∀ y ∈ scope.names,y.2=.free->∃ c,X.env.cells.lookup y.1=some c:=fun y hy hf=>by
  obtain ⟨n,k⟩:=y
  subst hf
  exact I.ok.has n (hb.frees _ hy rfl)
 refine wpAny_comprehension_free (g:=⟨tg,iter,ifs,0⟩) (gs:=gs) (co.cl _ _ _) hs (z3N hfree) hb.kind (fun x hx hl=>?_) ?_
 ·obtain ⟨n,k⟩:=x
  subst hl
  exact z1C hb.nd hx
 unfold z48 at q
 cases hit:it0 σ O with
 | bad=>rw [hit] at q;exact ak q
 | exc c' O'=>
  rw [hit] at q
  refine thn (hi.out pins s σv H (fun J H1=>False) I ⟨hid,μ,σ,O,e1,c1,by rw [hit];exact q⟩) fun v s1 h1=>thn h1 fun itv s2 h2=>?_
  obtain ⟨it,fp,tn,J,H2,e,I2,T,st2,f2,z⟩:=h2
  exact z.elim
 | ok src O2=>
  rw [hit] at q
  refine thn (hi.out pins s σv H (fun J H1=>∃ μ1,Ext H μ H1 μ1/\l7 X.K H1 hid μ1 O2/\mf X.K J src H1 hid μ1) I ⟨hid,μ,σ,O,e1,c1,by rw [hit];exact fun J H1 μ1 x c sa=>⟨μ1,x,c,sa⟩⟩) fun v s1 h1=>thn h1 fun itv s2 h2=>?_
  obtain ⟨it,fp,tn,J,H2,e,I2,T,st2,f2,μ2,x2,c2,sa⟩:=h2
  subst e
  have p:zeu C Ex X.K X.prog X.w H hid μ (noX (z1p src (z3W ⟨it0,g,ts⟩ cs em (clr (σ ++ aq ext.length none) (z12 (⟨it0,g,ts⟩ :: cs)))) (src.size O2) 0 O2 [])) _:=q
  cases hw:noX (z1p src (z3W ⟨it0,g,ts⟩ cs em (clr (σ ++ aq ext.length none) (z12 (⟨it0,g,ts⟩ :: cs)))) (src.size O2) 0 O2 []) with
  | bad=>rw [hw] at p;exact ak p
  | exc c' O'=>exact (zgO hw).elim
  | ok acc O3=>
   rw [hw] at p
   refine zbq co (RR:=fun ac Cn=>compPost (ay X.prog X.w) X.A X.xe use Q ac Cn) hcalm hb (fun cells Cn=>blk cells Cn _ _ _ I2 f2 ⟨_,x2⟩) I2 (e1.ext x2) c2 T st2 f2 sa (zjv hw) fun f s' Bh=>?_
   obtain ⟨H',μ',I',x',c',nL,nC,gv⟩:=Bh.inv
   have:=p (s2.heap.objs.size) H' μ' (x2.none nL) (x2.trans x') c' gv s' (s2.heap.objs.size + 1) I' Bh.ns nC Bh.loc Bh.young Bh.cel Bh.pns
   unfold compPost at this ⊢
   cases use <;> exact this
theorem z7w (c:l7 K H (L :: hid) μ O) (n1:L ∉ hid) (h:H L=some (.lst vs)) (q:l8 K H (L :: hid) μ ds vs):Dat K H hid μ (.lst ds) (.ref L):=by
 unfold Dat
 exact ⟨L,vs,rfl,.inl ⟨.inl h,n1,fun m=>c.nh L m (by simp)⟩,q.mv .unhide⟩
mutual
theorem Dat.swap:∀ {d:D} {v:V},Dat K H (L :: hid) μ d v->Dat K H hid (μ ++ [L]) d v
 | .non,_,h=>h
 | .bl _,_,h=>h
 | .int _,_,h=>h
 | .str _,_,h=>h
 | .lst ds,v,h=>by
  unfold Dat at h ⊢
  obtain ⟨a,vs,r,l,q⟩:=h
  refine ⟨a,vs,r,l.imp (fun z=>⟨z.1,fun m=>z.2.1 (au _ m),fun m=>?_⟩) id,l8.swap q⟩
  rcases bg.mp m with m|m
  ·exact z.2.2 m
  ·exact z.2.1 (by simp at m;simp [m])
 | .tup ds,v,h=>by
  unfold Dat at h ⊢
  obtain ⟨a,vs,r,l,q⟩:=h
  refine ⟨a,vs,r,l.imp (fun z=>⟨z.1,fun m=>z.2.1 (au _ m),fun m=>?_⟩) id,l8.swap q⟩
  rcases bg.mp m with m|m
  ·exact z.2.2 m
  ·exact z.2.1 (by simp at m;simp [m])
 | .own k,v,h=>by
  unfold Dat at h ⊢
  obtain ⟨a,r,q⟩:=h
  exact ⟨a,r,by rw [aL (ao.mp q).1];exact q⟩
 | .dct,v,h=>by
  unfold Dat at h ⊢
  obtain ⟨a,r,q,n1,n2⟩:=h
  refine ⟨a,r,q,fun m=>n1 (au _ m),fun m=>?_⟩
  rcases bg.mp m with m|m
  ·exact n2 m
  ·exact n1 (by simp at m;simp [m])
 | .exn C,v,h=>by
  unfold Dat at h ⊢
  obtain ⟨a,φ,r,g,q,n1,n2⟩:=h
  refine ⟨a,φ,r,g,q,fun m=>n1 (au _ m),fun m=>?_⟩
  rcases bg.mp m with m|m
  ·exact n2 m
  ·exact n1 (by simp at m;simp [m])
 | .tab P,v,h=>by
  unfold Dat at h ⊢
  exact h
 | .map ks ds,v,h=>by
  unfold Dat at h ⊢
  obtain ⟨a,vs,r,q,n1,n2,hl,d⟩:=h
  refine ⟨a,vs,r,q,fun m=>n1 (au _ m),fun m=>?_,hl,l8.swap d⟩
  rcases bg.mp m with m|m
  ·exact n2 m
  ·exact n1 (by simp at m;simp [m])
 | .adr _,_,h=>h
theorem l8.swap:∀ {ds:List D} {vs:List V},l8 K H (L :: hid) μ ds vs->l8 K H hid (μ ++ [L]) ds vs
 | [],_,h=>h
 | d :: ds,vs,h=>by
  unfold l8 at h ⊢
  obtain ⟨v,r,e1,h1,h2⟩:=h
  exact ⟨v,r,e1,Dat.swap h1,l8.swap h2⟩
end
theorem l7.swap (c:l7 K H (L :: hid) μ O) (n1:L ∉ hid) (h:H L=some (.lst vs)) (q:l8 K H (L :: hid) μ ds vs):l7 K H hid (μ ++ [L]) (O ++ [ds]):=by
 have nm:L ∉ μ:=fun m=>c.nh L m (by simp)
 refine ⟨by simp [c.len],?_,fun a m=>?_,fun a m=>c.ht a (au _ m),fun k a e=>?_⟩
 ·rw [dG]
  refine ⟨c.nd,by simp,fun a ha b hb=>?_⟩
  have:b=L:=by simpa using hb
  subst this
  rintro rfl
  exact nm ha
 ·rcases bg.mp m with m|m
  ·exact fun z=>c.nh a m (au _ z)
  ·have:a=L:=by simpa using m
   subst this;exact n1
 ·by_cases hk:k < μ.length
  ·rw [aL hk] at e
   obtain ⟨ds',vs',h1,h2,h3⟩:=c.at_ k a e
   exact ⟨ds',vs',by rw [aL (by rw [<- c.len];exact hk)];exact h1,h2,h3.swap⟩
  ·rw [bp (by omega)] at e
   have e0:k - μ.length=0:=by
    have:=(ao.mp e).1
    simp at this;omega
   rw [e0] at e
   simp at e;subst e
   refine ⟨ds,vs,?_,h,q.swap⟩
   have:k=O.length:=by have:=c.len;omega
   subst this;simp
theorem Ext.grow (e:Ext H μ H' μ') (h:H L=ie):Ext H μ H' (μ' ++ [L]):=by
 obtain ⟨ν,rfl⟩:=e.pre
 refine ⟨⟨ν ++ [L],by simp⟩,e.kept,fun b m=>?_,e.there,e.tab⟩
 rcases bg.mp m with m|m
 ·exact e.fresh b m
 ·have:b=L:=by simpa using m
  subst this;exact .inr h
def z8L (o:Bool) (r:R (List D)):R D:=r.bnd fun acc O1=>if o=true then .ok (.own O1.length) (O1 ++ [acc]) else .ok (.lst acc) O1
theorem zbe (c1:l7 K H hid μ O) (q:z1q Ex K H hid μ (z8L o r) Q) (h:∀ L H',Q (.ref L) H'->Q1 L H'):zeu (zaa elt) Ex K P w H hid μ r Q1:=by
 cases r with
 | bad=>exact q
 | exc c' O'=>exact q
 | ok acc O'=>
  intro L H' μ' nL x c ⟨vs,hv,dv⟩
  have n1:L ∉ hid:=fun m=>c1.ht L m nL
  cases o with
  | false=>exact h L H' (post.ok (show z1q Ex K H hid μ (.ok (.lst acc) O') Q from q) x c.unhide (z7w c n1 hv dv))
  | true=>exact h L H' (post.ok (show z1q Ex K H hid μ (.ok (.own O'.length) (O' ++ [acc])) Q from q) (x.grow nL) (c.swap n1 hv dv) (z2f c.len))
theorem ze2 (c1:l7 K H hid μ O) (e1:l9 K H hid μ σ σv) (q:md Ex K H hid μ ((z8L o r).bnS fun d O1=>.nx (σ.set i (some d)) O1) E) (h:∀ L H',E.nx (σv.set i (some (.ref L))) H'->Q1 L H'):
  zeu (zaa elt) Ex K P w H hid μ r Q1:=by
 cases r with
 | bad=>exact q
 | exc c' O'=>exact q
 | ok acc O'=>
  intro L H' μ' nL x c ⟨vs,hv,dv⟩
  have n1:L ∉ hid:=fun m=>c1.ht L m nL
  cases o with
  | false=>
   have q:md Ex K H hid μ (.nx (σ.set i (some (.lst acc))) O') E:=q
   exact h L H' (q _ H' μ' x ((e1.ext x).set (z7w c n1 hv dv) i) c.unhide)
  | true=>
   have q:md Ex K H hid μ (.nx (σ.set i (some (.own O'.length))) (O' ++ [acc])) E:=q
   exact h L H' (q _ H' (μ' ++ [L]) (x.grow nL) ((e1.ext (x.grow nL)).set (z2f c.len) i) (c.swap n1 hv dv))
theorem zmk {elt tg iter:aK} {ifs:List aK} {gs:List bJ} {scope:b9} {pos:Pos} {ext:List Str} {g:Tg} {ts:List DT} {cs:List Cl} {te:DE} {Z:af->Hp->St->Hp->List af->Prop}
  (blk:∀ cells C s H fp,PG (cxB X (X.N ++ ext) scope cells C s H fp) tg (g.rd X.K)/\bi (fun e t=>PDT (cxB X (X.N ++ ext) scope cells C s H fp) Ex0 e t) ifs ts/\ms (cxB X (X.N ++ ext) scope cells C s H fp) gs cs/\PD (cxB X (X.N ++ ext) scope cells C s H fp) Ex0 elt te) (cells Cn s H fp):
  PG (cxB X (X.N ++ ext) scope cells Cn s H fp) tg (g.rd X.K)/\bi (fun e t=>PDT (cxB X (X.N ++ ext) scope cells Cn s H fp) Ex0 e t) ifs ts/\ms (cxB X (X.N ++ ext) scope cells Cn s H fp) gs cs/\∀ A hid k,(⟨tg,iter,ifs,0⟩ :: gs:List bJ)[k]?=none->z50 (cxB X (X.N ++ ext) scope cells Cn s H fp) (Z A H) (zaa elt) A hid ((zaa elt).ex (⟨tg,iter,ifs,0⟩ :: gs) scope pos) (⟨tg,iter,ifs,0⟩ :: gs) (emL te) k []:=
 let ⟨h1,h2,h3,h4⟩:=blk cells Cn s H fp
 ⟨h1,h2,h3,fun _ _ _ hk=>zaB rfl h4.z hk⟩
def z1i (o:Bool) (ext:Nat) (it0:DI) (g:Tg) (ts:List DT) (cs:List Cl) (te:DE):DE:=fun σ O=>z8L o (z3M ext it0 g ts cs te σ O)
theorem zgK (o:Bool) (ext:List Str) (hcalm:X.calm=true) (hi:PDI X Ex tg iter it0) (hb:BOk X.env.scope scope (X.N ++ ext) (z12 (⟨it0,g,ts⟩ :: cs)))
  (blk:∀ cells C s H fp,PG (cxB X (X.N ++ ext) scope cells C s H fp) tg (g.rd X.K)/\bi (fun e t=>PDT (cxB X (X.N ++ ext) scope cells C s H fp) Ex0 e t) ifs ts/\ms (cxB X (X.N ++ ext) scope cells C s H fp) gs cs/\PD (cxB X (X.N ++ ext) scope cells C s H fp) Ex0 elt te)
  (hs:∀ x,cb iter X.env x=pure x:=by intro _;rfl):PD X Ex (.ListComp elt (⟨tg,iter,ifs,0⟩ :: gs) scope pos) (z1i o ext.length it0 g ts cs te):=by
 refine ⟨?_⟩
 rintro pins s σv H Q I ⟨hid,μ,σ,O,e1,c1,q⟩
 rw [eval_ListComp]
 unfold z1i at q
 rw [<- z5f] at q
 refine z61 (z8t elt) (use:=none) hcalm hi hb (fun cells Cn s H fp _ _ _=>zmk blk cells Cn s H fp) hs I e1 c1 (zbe c1 q fun L H' hQ s' C I' ns nC l1 y1 ce pn=>?_)
 obtain ⟨m,hn⟩:=ns
 exact ⟨m,hn,fun h' hs'=>⟨.ref L,H',Inv.bare I' hs' nC l1 y1 ce pn,rfl,hQ⟩⟩
theorem z9O (o:Bool) (ext:List Str) (hcalm:X.calm=true) (hN:X.N.Nodup) (hiy:X.N[i]?=some y) (hy:X.env.scope.names.lookup y=some .local)
  (hi:PDI X Ex tg iter it0) (hb:BOk X.env.scope scope (X.N ++ ext) (z12 (⟨it0,g,ts⟩ :: cs)))
  (blk:∀ cells C s H fp,PG (cxB X (X.N ++ ext) scope cells C s H fp) tg (g.rd X.K)/\bi (fun e t=>PDT (cxB X (X.N ++ ext) scope cells C s H fp) Ex0 e t) ifs ts/\ms (cxB X (X.N ++ ext) scope cells C s H fp) gs cs/\PD (cxB X (X.N ++ ext) scope cells C s H fp) Ex0 elt te)
  (hsw:swapsWith (.ListComp elt (⟨tg,iter,ifs,0⟩ :: gs) scope pos) (some (.Name y py)) spos.line X.env=pure true)
  (hs:∀ x,cb iter X.env x=pure x:=by intro _;rfl):PDS X Ex (.Assign [.Name y py] (.ListComp elt (⟨tg,iter,ifs,0⟩ :: gs) scope pos) spos) (z24 i (z1i o ext.length it0 g ts cs te)):=by
 refine ⟨?_⟩
 rintro pins s σv H E I ⟨hid,μ,σ,O,e1,c1,q⟩
 rw [exec_Assign_Name_used _ _ _ _ hsw]
 refine aa (eQ (aa ?_))
 show ar _ X.A (do let _ <- comprehension (.ListComp elt (⟨tg,iter,ifs,0⟩ :: gs) scope pos) scope X.env _ (newList []) false (eval iter X.env) (some (assign (.Name y py) X.env))) _ _ s
 have q:md Ex X.K H hid μ ((z8L o (z3M ext.length it0 g ts cs te σ O)).bnS fun d O1=>.nx (σ.set i (some d)) O1) E:=q
 rw [<- z5f] at q
 refine aa (c7 (z61 (z8t elt) (use:=some (assign (.Name y py) X.env)) (Q:=fun _ s'=>SP X pins E .next s') hcalm hi hb (fun cells Cn s H fp _ _ _=>zmk blk cells Cn s H fp) hs I e1 c1 (ze2 c1 e1 q fun L H' hQ s' C I' ns nC l1 y1 ce pn=>?_)) (fun _ s' hq=>am (am hq)) fun _ _ e=>e)
 obtain ⟨m,hn⟩:=ns
 show ar _ _ (assign (.Name y py) X.env (.ref L)) _ _ s'
 refine wpAny_assign_Name (z8F (v:=.ref L) I' hN hiy (.inl hy) rfl (fun s'' I'' hsame=>?_) (.inr hy))
 obtain ⟨a,hsb,ha⟩:=hsame
 have hCa:C ≠ a:=by
  rcases ha with z|z
  ·rw [z];exact l1
  ·exact fun e=>ce y a z e.symm
 refine ⟨m,hn.sameBut hsb hCa,fun h' hs'=>?_⟩
 exact ⟨_,H',Inv.bare I'' hs' nC l1 y1 ce pn,hQ⟩
end
def z1Q {α β:Type} (f:α->Option β):List α->Option (List β)
 | []=>some []
 | x :: xs=>match f x,z1Q f xs with
  | some p,some ps=>some (p :: ps)
  | _,_=>none
def zc2 (cs:List Nat):Option db:=if cs.all (· < 1114112)=true then some (.str ⟨cs.toArray⟩) else none
def z2u (O:Ow):Nat->D->Option db
 | 0,d=>match d with
  | .non=>some .none
  | .bl b=>some (.bool b)
  | .int i=>some (.int i)
  | .str cs=>zc2 cs
  | _=>none
 | n + 1,d=>match d with
  | .non=>some .none
  | .bl b=>some (.bool b)
  | .int i=>some (.int i)
  | .str cs=>zc2 cs
  | .lst ds=>(z1Q (z2u O n) ds).map .list
  | .tup ds=>(z1Q (z2u O n) ds).map .tuple
  | .own k=>match O[k]? with
   | some ds=>(z1Q (z2u O n) ds).map .list
   | none=>none
  | .dct=>none
  | .exn _=>none
  | .tab _=>none
  | .map _ _=>none
  | .adr _=>none
section
variable {X:Cx} {pins:List (af × Obj)} {σv:St} {H:Hp} {s:ai} {hid μ:List af} {O:Ow}
theorem z3O (I:L2.Inv X pins σv H s) (ih:∀ (d:D) (v:V) (u:ae) (p:db),Dat X.K H hid μ d v->RelV v u->z2u O n d=some p->∃ as,Reads s.heap u p as/\p.canLay0=true/\p.depth <= n):
  ∀ (ds:List D) (vs:List V) (us:List ae) (ps:List db),l8 X.K H hid μ ds vs->ma vs us->z1Q (z2u O n) ds=some ps->∃ as,ReadsAll s.heap us ps as/\kR ps=true/\lA ps <= n
 | [],vs,us,ps,h,r,e=>by
  unfold l8 at h;subst h
  cases r
  cases e
  exact ⟨[],.nil,rfl,bW _⟩
 | d :: ds,vs,us,ps,h,r,e=>by
  unfold l8 at h
  obtain ⟨v,t,rfl,h1,h2⟩:=h
  cases r with
  | cons r1 r2=>
   unfold z1Q at e
   split at e
   ·rename_i p ps' e1 e2
    cases e
    obtain ⟨as,q1,q2,q3⟩:=ih d v _ p h1 r1 e1
    obtain ⟨bs,z1,z2,z3⟩:=z3O I ih ds t _ ps' h2 r2 e2
    refine ⟨as ++ bs,.cons q1 z1,?_,?_⟩
    ·unfold kR;rw [q2,z2];rfl
    ·unfold lA;exact Nat.max_le.mpr ⟨q3,z3⟩
   ·cases e
theorem z7o (e:zc2 cs=some p):∃ as,Reads s.heap (.str ⟨cs.toArray⟩ t) p as/\p.canLay0=true/\p.depth <= n:=by
 unfold zc2 at e
 split at e
 ·rename_i hc
  cases e
  exact ⟨[],.str _ _,by unfold hG PyData.strOk;simpa using hc,bW _⟩
 ·cases e
theorem z2g (I:L2.Inv X pins σv H s) (c:l7 X.K H hid μ O):∀ (n:Nat) (d:D) (v:V) (u:ae) (p:db),Dat X.K H hid μ d v->RelV v u->z2u O n d=some p->∃ as,Reads s.heap u p as/\p.canLay0=true/\p.depth <= n:=by
 intro n
 induction n with
 | zero=>
  intro d v u p h r e
  cases d with
  | non=>unfold Dat at h;subst h;cases r;cases e;exact ⟨[],.none,rfl,bW _⟩
  | bl b=>unfold Dat at h;subst h;cases r;cases e;exact ⟨[],.bool _,rfl,bW _⟩
  | int b=>unfold Dat at h;subst h;obtain ⟨t,rfl⟩:=r;cases e;exact ⟨[],.int _ _,rfl,bW _⟩
  | str cs=>
   unfold Dat at h;subst h;obtain ⟨t,rfl⟩:=r
   exact z7o (show zc2 cs=some p from e)
  | _=>cases e
 | succ n ih=>
  intro d v u p h r e
  cases d with
  | non=>unfold Dat at h;subst h;cases r;cases e;exact ⟨[],.none,rfl,bW _⟩
  | bl b=>unfold Dat at h;subst h;cases r;cases e;exact ⟨[],.bool _,rfl,bW _⟩
  | int b=>unfold Dat at h;subst h;obtain ⟨t,rfl⟩:=r;cases e;exact ⟨[],.int _ _,rfl,bW _⟩
  | str cs=>
   unfold Dat at h;subst h;obtain ⟨t,rfl⟩:=r
   exact z7o (show zc2 cs=some p from e)
  | lst ds=>
   unfold Dat at h
   obtain ⟨a,vs,rfl,l,q⟩:=h
   cases r
   have e:(z1Q (z2u O n) ds).map da=some p:=e
   cases e1:z1Q (z2u O n) ds with
   | none=>rw [e1] at e;cases e
   | some ps=>
    rw [e1] at e;cases e
    obtain ⟨its,rv,⟨o,k,ho,hc,hd,hdt⟩,hz⟩:=I.list l.sq
    obtain ⟨as,z1,z2,z3⟩:=z3O I ih ds vs its ps q rv e1
    exact ⟨_,.list ho hc hdt (by simpa using z1),by unfold hG;exact z2,by unfold kG;omega⟩
  | tup ds=>
   unfold Dat at h
   obtain ⟨a,vs,rfl,l,q⟩:=h
   cases r
   have e:(z1Q (z2u O n) ds).map fN=some p:=e
   cases e1:z1Q (z2u O n) ds with
   | none=>rw [e1] at e;cases e
   | some ps=>
    rw [e1] at e;cases e
    obtain ⟨its,rv,⟨o,ho,hc,k,hdt⟩,hz⟩:=I.tuple l.sq
    obtain ⟨as,z1,z2,z3⟩:=z3O I ih ds vs its ps q rv e1
    exact ⟨_,.tuple ho hc hdt (by simpa using z1),by unfold hG;exact z2,by unfold kG;omega⟩
  | own k=>
   unfold Dat at h
   obtain ⟨a,rfl,hk⟩:=h
   cases r
   obtain ⟨ds,vs,h1,h2,h3⟩:=c.at_ k a hk
   have e:(match O[k]? with|some ds=>(z1Q (z2u O n) ds).map da|none=>none)=some p:=e
   rw [h1] at e
   cases e1:z1Q (z2u O n) ds with
   | none=>simp only [e1] at e;cases e
   | some ps=>
    simp only [e1] at e;cases e
    obtain ⟨its,rv,⟨o,k',ho,hc,hd,hdt⟩,hz⟩:=I.list (.of h2)
    obtain ⟨as,z1,z2,z3⟩:=z3O I ih ds vs its ps h3 rv e1
    exact ⟨_,.list ho hc hdt (by simpa using z1),by unfold hG;exact z2,by unfold kG;omega⟩
  | dct=>cases e
  | exn _=>cases e
  | tab _=>cases e
  | map _ _=>cases e
  | adr _=>cases e
end
def py (O:Ow) (d:D):Option db:=z2u O 8 d
def rPy (K:aj) (f:db->db->Option Bool):R2:=fun v w H Q=>∃ hid μ O x y a b k,l7 K H hid μ O/\Dat K H hid μ x v/\Dat K H hid μ y w/\py O x=some a/\py O y=some b/\f a b=some k/\Q (.bl k) H
def fPy (f:db->db->Option Bool):Ow->D->D->R D:=fun O x y=>match py O x,py O y with
 | some a,some b=>match f a b with
  | some k=>.ok (.bl k) O
  | none=>.bad
 | _,_=>.bad
section
variable {X:Cx} {Ex:Nat->Hp->Prop}
theorem z5y:OpD X Ex (rPy X.K f) (fPy f):=by
 intro H hid μ O x y v w Q c dx dy q
 unfold fPy at q
 split at q
 ·rename_i a b e1 e2
  split at q
  ·rename_i k e3
   exact ⟨hid,μ,O,x,y,a,b,k,c,dx,dy,e1,e2,e3,post.here q c z2m⟩
  ·exact ak q
 ·exact ak q
def eqF:db->db->Option Bool:=fun a b=>some (aZ a b)
def neF:db->db->Option Bool:=fun a b=>some (!PyData.eqv a b)
def inF:db->db->Option Bool:=fun a b=>match b with
 | .list xs=>some (xs.any fun y=>aZ y a)
 | .tuple xs=>some (xs.any fun y=>aZ y a)
 | _=>none
def ziS:db->db->Option Bool:=fun a b=>match b with
 | .list xs=>some (!xs.any fun y=>aZ y a)
 | .tuple xs=>some (!xs.any fun y=>aZ y a)
 | _=>none
theorem z8g (h1:p.canLay0=true) (h2:p.depth <= 8):lS p=true:=by
 unfold lS
 rw [h1,decide_eq_true (show p.depth <= 64 by omega)];rfl
theorem z9X (hu:X.A.units + 64 < cLine):OpR X (b0 .Eq) (rPy X.K eqF):=by
 intro pins s σ H x y v u Q I rx ry h
 obtain ⟨hid,μ,O,dx,dy,a,b,k,c,h1,h2,e1,e2,e3,q⟩:=h
 obtain ⟨as,z1,z2,z3⟩:=z2g I c 8 dx x v a h1 rx e1
 obtain ⟨bs,y1,y2,y3⟩:=z2g I c 8 dy y u b h2 ry e2
 cases e3
 exact PyProof.Rows.eq_dataH z1 y1 (z8g z2 z3) (z8g y2 y3) hu ⟨.bl _,H,I,rfl,q⟩
theorem zat (hu:X.A.units + 64 < cLine):OpR X (b0 .NotEq) (rPy X.K neF):=by
 intro pins s σ H x y v u Q I rx ry h
 obtain ⟨hid,μ,O,dx,dy,a,b,k,c,h1,h2,e1,e2,e3,q⟩:=h
 obtain ⟨as,z1,z2,z3⟩:=z2g I c 8 dx x v a h1 rx e1
 obtain ⟨bs,y1,y2,y3⟩:=z2g I c 8 dy y u b h2 ry e2
 cases e3
 exact PyProof.Rows.ne_dataH z1 y1 (z8g z2 z3) (z8g y2 y3) hu ⟨.bl _,H,I,rfl,q⟩
theorem zfE {A:ba} {n m:Nat} (h:m <= 8) (hu:A.units + 64 < cLine):A.units + 1 + min n m < cLine:=by
 have:=li n m
 omega
theorem zgy (hu:X.A.units + 64 < cLine):OpR X (b0 .In) (rPy X.K inF):=by
 intro pins s σ H x y v u Q I rx ry h
 obtain ⟨hid,μ,O,dx,dy,a,b,k,c,h1,h2,e1,e2,e3,q⟩:=h
 obtain ⟨as,z1,z2,z3⟩:=z2g I c 8 dx x v a h1 rx e1
 obtain ⟨bs,y1,y2,y3⟩:=z2g I c 8 dy y u b h2 ry e2
 cases b with
 | list xs=>cases e3;exact SeqAt.in_list_reads y1 z1 y2 z2 (zfE z3 hu) ⟨.bl _,H,I,rfl,q⟩
 | tuple xs=>cases e3;exact SeqAt.in_tuple_reads y1 z1 y2 z2 (zfE z3 hu) ⟨.bl _,H,I,rfl,q⟩
 | _=>cases e3
theorem zeR (hu:X.A.units + 64 < cLine):OpR X (b0 .NotIn) (rPy X.K ziS):=by
 intro pins s σ H x y v u Q I rx ry h
 obtain ⟨hid,μ,O,dx,dy,a,b,k,c,h1,h2,e1,e2,e3,q⟩:=h
 obtain ⟨as,z1,z2,z3⟩:=z2g I c 8 dx x v a h1 rx e1
 obtain ⟨bs,y1,y2,y3⟩:=z2g I c 8 dy y u b h2 ry e2
 cases b with
 | list xs=>cases e3;exact SeqAt.notIn_list_reads y1 z1 y2 z2 (zfE z3 hu) ⟨.bl _,H,I,rfl,q⟩
 | tuple xs=>cases e3;exact SeqAt.notIn_tuple_reads y1 z1 y2 z2 (zfE z3 hu) ⟨.bl _,H,I,rfl,q⟩
 | _=>cases e3
end
end DL
namespace DL
open PySem L2
section
variable {e:aK}
def lsV (O:Ow):D->Option (List D)
 | .lst ds=>some ds
 | .own k=>O[k]?
 | _=>none
def tpV:D->Option (List D)
 | .tup ds=>some ds
 | _=>none
theorem z3c (cl:l7 K H hid μ O) (h:Dat K H hid μ d v) (e:lsV O d=some ds):∃ p vs,v=.ref p/\SqL K H p vs/\l8 K H hid μ ds vs:=by
 cases d with
 | lst xs=>
  unfold Dat at h
  obtain ⟨p,vs,rfl,l,q⟩:=h
  cases e
  exact ⟨p,vs,rfl,l.sq,q⟩
 | own k=>
  unfold Dat at h
  obtain ⟨p,rfl,hk⟩:=h
  obtain ⟨ds',vs,h1,h2,h3⟩:=cl.at_ k p hk
  have e:O[k]?=some ds:=e
  rw [h1] at e;cases e
  exact ⟨p,vs,rfl,.of h2,h3⟩
 | _=>cases e
theorem z7E (h:Dat K H hid μ d v) (e:tpV d=some ds):∃ p vs,v=.ref p/\SqT K H p vs/\l8 K H hid μ ds vs:=by
 cases d with
 | tup xs=>
  unfold Dat at h
  obtain ⟨p,vs,rfl,l,q⟩:=h
  cases e
  exact ⟨p,vs,rfl,l.sq,q⟩
 | _=>cases e
def zmX:Ow->D->D->R D:=fun O x y=>match x,y with
 | .str s,.str t=>if s.length + t.length <= 100000 then .ok (.str (s ++ t)) O else .bad
 | _,_=>.bad
end
theorem zaK (h:l8 K H hid μ ds vs) (e:atI ds i=some d):∃ v,atI vs i=some v/\Dat K H hid μ d v:=by
 unfold atI at e ⊢
 rw [<- h.length]
 cases q:ixN ds.length i with
 | none=>rw [q] at e;cases e
 | some j=>rw [q] at e;exact h.get e
def fIx:Ow->D->D->R D:=fun O x y=>match y with
 | .int i=>match lsV O x with
  | some ds=>match atI ds i with
   | some d=>.ok d O
   | none=>.bad
  | none=>match tpV x with
   | some ds=>match atI ds i with
    | some d=>.ok d O
    | none=>.bad
   | none=>match x with
    | .str cs=>if cs.length <= 100000 then match atI cs i with
      | some ch=>.ok (.str [ch]) O
      | none=>.bad
     else .bad
    | _=>.bad
 | _=>.bad
section
variable {X:Cx} {Ex:Nat->Hp->Prop} {pos:Pos} {a b c e:aK} {ta tb:DE}
theorem zjP:OpD X Ex (rIx X.K) fIx:=by
 intro H hid μ O x y v w Q c dx dy q
 unfold fIx at q
 split at q
 ·rename_i i
  unfold Dat at dy;subst dy
  split at q
  ·rename_i ds e
   obtain ⟨p,vs,rfl,sq,dd⟩:=z3c c dx e
   split at q
   ·rename_i d ed
    obtain ⟨z,h1,h2⟩:=zaK dd ed
    exact .inl ⟨p,vs,i,z,rfl,rfl,sq,h1,post.here q c h2⟩
   ·exact ak q
  ·split at q
   ·rename_i ds e
    obtain ⟨p,vs,rfl,sq,dd⟩:=z7E dx e
    split at q
    ·rename_i d ed
     obtain ⟨z,h1,h2⟩:=zaK dd ed
     exact .inr (.inl ⟨p,vs,i,z,rfl,rfl,sq,h1,post.here q c h2⟩)
    ·exact ak q
   ·split at q
    ·rename_i cs _ _
     unfold Dat at dx;subst dx
     obtain ⟨hl,q⟩:=post.ite q
     split at q
     ·rename_i ch ed
      refine .inr (.inr ⟨_,i,ch,rfl,rfl,?_,?_,post.here q c zaf⟩)
      ·show cs.toArray.size <= _
       rw [aA];exact z1K hl
      ·simpa using ed
     ·exact ak q
    ·exact ak q
 ·exact ak q
theorem zlF (ha:PD X Ex a ta) (hb:PD X Ex b tb) (hs:zd7 b):PD X Ex (.Subscript a b pos) (dOp fIx ta tb):=z22 (zm9 zk0 ha.out hb.out hs) (zaO zjP)
def z17 (f:Ow->List D->R D) (t:DA):DE:=fun σ O=>(t σ O).bnd fun xs O1=>f O1 xs
def z4P (X:Cx) (Ex:Nat->Hp->Prop) (r:List V->Hp->VK->Prop) (f:Ow->List D->R D):Prop:=∀ (H:Hp) (hid μ:List af) (O:Ow) (xs:List D) (vs:List V) (Q:VK),l7 X.K H hid μ O->l8 X.K H hid μ xs vs->z1q Ex X.K H hid μ (f O xs) Q->r vs H Q
theorem zgg (h:z4P X Ex r f) (hid μ:List af) (σ:Sg) (O:Ow) (σv:St) (H:Hp) (Q:VK) (e1:l9 X.K H hid μ σ σv) (c1:l7 X.K H hid μ O) (q:z1q Ex X.K H hid μ (z17 f t σ O) Q):tCB r (rdA Ex X.K t) σv H Q:=
 rdA.go e1 c1 q fun xs O1 vs H1 μ1 e2 x c d p=>h H1 hid μ1 O1 xs vs Q c d p
theorem z4e {x:Str} {id:String} {p:Pos} {es:List aK} {r:List V->Hp->VK->Prop} {f:Ow->List D->R D} {t:DA} (hc:mj X (.builtin id) r) (h:z4P X Ex r f) (hg:Gl X x) (hm:X.mg x=none) (hv:a8 x=some (.builtin id)) (ha:PDA X Ex (e :: es) t)
  (hn:x ≠ "__name__":=by decide) (hdb:(x == ("__debug__":Str))=false:=by decide) (he:aD (e :: es) X.env=(false,eval e X.env) :: aD es X.env:=by rfl) (hpl:(backTo pos (aD es X.env)).any (·.1)=false:=by rfl):
  PD X Ex (.Call (.Name x p) (e :: es) [] pos) (z17 f t):=z22 (z49 hc hg hm hv ha.out hn hdb he hpl) (zgg h)
theorem z4Y (hc:mj X (.type T) r) (h:z4P X Ex r f) (hg:Gl X x) (hm:X.mg x=none) (hv:a8 x=some (.type T)) (ha:PDA X Ex (e :: es) t)
  (hn:x ≠ "__name__":=by decide) (hdb:(x == ("__debug__":Str))=false:=by decide) (he:aD (e :: es) X.env=(false,eval e X.env) :: aD es X.env:=by rfl) (hpl:(backTo pos (aD es X.env)).any (·.1)=false:=by rfl):
  PD X Ex (.Call (.Name x p) (e :: es) [] pos) (z17 f t):=z22 (z9C hc hg hm hv ha.out hn hdb he hpl) (zgg h)
def z38:Ow->List D->R D:=fun O xs=>match xs with
 | [x]=>match lsV O x with
  | some ds=>.ok (.int ds.length) O
  | none=>match tpV x with
   | some ds=>.ok (.int ds.length) O
   | none=>match x with
    | .str cs=>if cs.length <= 100000 then .ok (.int cs.length) O else .bad
    | _=>.bad
 | _=>.bad
theorem zkY:z4P X Ex (fun xs H Q=>∃ x n,xs=[x]/\zmo X.K x H n/\Q (.int n) H) z38:=by
 intro H hid μ O xs vs Q c d q
 unfold z38 at q
 split at q
 ·rename_i x
  obtain ⟨v,rfl,dx⟩:=z3S d
  split at q
  ·rename_i ds e
   obtain ⟨p,ws,rfl,sq,dd⟩:=z3c c dx e
   exact ⟨_,ds.length,rfl,.inl ⟨ws,sq,dd.length⟩,post.here q c z1r⟩
  ·split at q
   ·rename_i ds e
    obtain ⟨p,ws,rfl,sq,dd⟩:=z7E dx e
    exact ⟨_,ds.length,rfl,.inr ⟨ws,sq,dd.length⟩,post.here q c z1r⟩
   ·split at q
    ·rename_i cs _ _
     unfold Dat at dx;subst dx
     obtain ⟨hl,q⟩:=post.ite q
     refine ⟨_,cs.length,rfl,⟨?_,?_⟩,post.here q c z1r⟩
     ·show cs.toArray.size <= _
      rw [aA];exact z1K hl
     ·show cs.length=cs.toArray.size
      rw [aA]
    ·exact ak q
 ·exact ak q
def zma:Ow->List D->R D:=fun O xs=>match xs with
 | [.int i]=>.ok (.int i) O
 | [.bl k]=>.ok (.int (if k then 1 else 0)) O
 | _=>.bad
theorem zkF:z4P X Ex (fun xs H Q=>(∃ i,xs=[.int i]/\Q (.int i) H) \/ ∃ k,xs=[.bl k]/\Q (.int (if k then 1 else 0)) H) zma:=by
 intro H hid μ O xs vs Q c d q
 unfold zma at q
 split at q
 ·obtain ⟨v,rfl,dx⟩:=z3S d
  unfold Dat at dx;subst dx
  exact .inl ⟨_,rfl,post.here q c z1r⟩
 ·obtain ⟨v,rfl,dx⟩:=z3S d
  unfold Dat at dx;subst dx
  exact .inr ⟨_,rfl,post.here q c z1r⟩
 ·exact ak q
def z3R:Ow->List D->R D:=fun O xs=>match xs with
 | [x]=>match lsV O x with
  | some ds=>.ok (.tup ds) O
  | none=>match tpV x with
   | some ds=>.ok (.tup ds) O
   | none=>.bad
 | _=>.bad
theorem zfe:z4P X Ex (fun xs H Q=>∃ p ys,xs=[.ref p]/\((SqL X.K H p ys/\∀ l,H l=none->Q (.ref l) (upd H l (.tup ys))) \/ (SqT X.K H p ys/\Q (.ref p) H))) z3R:=by
 intro H hid μ O xs vs Q c d q
 unfold z3R at q
 split at q
 ·rename_i x
  obtain ⟨v,rfl,dx⟩:=z3S d
  split at q
  ·rename_i ds e
   obtain ⟨p,ws,rfl,sq,dd⟩:=z3c c dx e
   exact ⟨p,ws,rfl,.inl ⟨sq,fun l hl=>post.ok q (.laid hl) (c.laid hl) (Dat.newT c hl dd)⟩⟩
  ·split at q
   ·rename_i ds e
    obtain ⟨p,ws,rfl,sq,dd⟩:=z7E dx e
    refine ⟨p,ws,rfl,.inr ⟨sq,post.here q c ?_⟩⟩
    cases x with
    | tup ys=>cases e;exact dx
    | _=>cases e
   ·exact ak q
 ·exact ak q
def zbG (o:Bool):Ow->List D->R D:=fun O xs=>match xs with
 | [x]=>match (match lsV O x with|some ds=>some ds|none=>tpV x) with
  | some ds=>if o=true then .ok (.own O.length) (O ++ [ds]) else .ok (.lst ds) O
  | none=>.bad
 | _=>.bad
theorem zgN (o:Bool):z4P X Ex (fun xs H Q=>∃ p ys,xs=[.ref p]/\(SqL X.K H p ys \/ SqT X.K H p ys)/\∀ l,H l=none->Q (.ref l) (upd H l (.lst ys))) (zbG o):=by
 intro H hid μ O xs vs Q c d q
 unfold zbG at q
 split at q
 ·rename_i x
  obtain ⟨v,rfl,dx⟩:=z3S d
  split at q
  ·rename_i ds e
   have h:∃ p ws,v=.ref p/\(SqL X.K H p ws \/ SqT X.K H p ws)/\l8 X.K H hid μ ds ws:=by
    cases e1:lsV O x with
    | some es=>
     rw [e1] at e;cases e
     obtain ⟨p,ws,h1,sq,dd⟩:=z3c c dx e1
     exact ⟨p,ws,h1,.inl sq,dd⟩
    | none=>
     rw [e1] at e
     obtain ⟨p,ws,h1,sq,dd⟩:=z7E dx e
     exact ⟨p,ws,h1,.inr sq,dd⟩
   obtain ⟨p,ws,rfl,sq,dd⟩:=h
   refine ⟨p,ws,rfl,sq,fun l hl=>?_⟩
   cases o with
   | true=>exact post.ok (show z1q Ex X.K H hid μ (.ok (.own O.length) (O ++ [ds])) Q from q) (.cell hl) (c.cell hl dd) (z2f c.len)
   | false=>exact post.ok (show z1q Ex X.K H hid μ (.ok (.lst ds) O) Q from q) (.laid hl) (c.laid hl) (Dat.newL c hl dd)
  ·exact ak q
 ·exact ak q
def zbw:Ow->List D->R D:=fun O xs=>match xs with
 | [.int i,.int j]=>.ok (.int (if j > i then j else i)) O
 | _=>.bad
def zbC:Ow->List D->R D:=fun O xs=>match xs with
 | [.int i,.int j]=>.ok (.int (if j < i then j else i)) O
 | _=>.bad
theorem zh9:z4P X Ex (fun xs H Q=>∃ i j,xs=[.int i,.int j]/\Q (.int (if j > i then j else i)) H) zbw:=by
 intro H hid μ O xs vs Q c d q
 unfold zbw at q
 split at q
 ·obtain ⟨v,w,rfl,d1,d2⟩:=zcV d
  unfold Dat at d1 d2;subst d1;subst d2
  exact ⟨_,_,rfl,post.here q c z1r⟩
 ·exact ak q
theorem zh6:z4P X Ex (fun xs H Q=>∃ i j,xs=[.int i,.int j]/\Q (.int (if j < i then j else i)) H) zbC:=by
 intro H hid μ O xs vs Q c d q
 unfold zbC at q
 split at q
 ·obtain ⟨v,w,rfl,d1,d2⟩:=zcV d
  unfold Dat at d1 d2;subst d1;subst d2
  exact ⟨_,_,rfl,post.here q c z1r⟩
 ·exact ak q
end
def DSp (K:aj) (Ec:XK->Nat->Hp->Prop) (n:Nat) (F:List D->Ow->R D):Sp:=fun vs H Q E=>vs.length=n/\∃ hid μ ds O,l8 K H hid μ ds vs/\l7 K H hid μ O/\z1q (Ec E) K H hid μ (F ds O) Q
abbrev Ec0:XK->Nat->Hp->Prop:=fun _ _ _=>False
section
variable {X:Cx} {CX:CXT} {k:Nat} {f:af} {fd:cX} {ps:List Str} {E:XK} {Ec:XK->Nat->Hp->Prop} {x:Str} {p pos:Pos} {e:aK} {es:List aK} {t:DA} {F:List D->Ow->R D} {n:Nat}
def dFn (n:Nat) (F:List D->Ow->R D) (t:DA):DE:=fun σ O=>(t σ O).bnd fun ds O1=>if ds.length=n then F ds O1 else .bad
theorem zlr (G:mq X.prog X.w X.K X.mg X.base CX k f fd ps (DSp X.K Ec n F)) (hr:me k X.A) (hg:Gl X x) (hm:X.mg x=some (.ref f)) (hk:cC X.K (.ref f)=true) (hb:Binds X.K fd ps []) (hx:z7p CX X E) (ha:PDA X (Ec E) (e :: es) t)
  (hdb:(x == ("__debug__":Str))=false:=by decide) (he:aD (e :: es) X.env=(false,eval e X.env) :: aD es X.env:=by rfl) (hpl:(backTo pos (aD es X.env)).any (·.1)=false:=by rfl):
  PD X (Ec E) (.Call (.Name x p) (e :: es) [] pos) (dFn n F t):=
 z22 (zgW (dvs:=[]) (ds:=[]) G hr hg hm hk hb .nil hx ha.out hdb he hpl) fun hid μ σ O σv H Q e1 c1 q=>rdA.go e1 c1 q fun ds O1 vs H1 μ1 e2 x2 c2 d2 q2=>by
  obtain ⟨hl,q2⟩:=post.ite q2
  refine ⟨by rw [dh,<- d2.length];exact hl,hid,μ1,ds,O1,?_,c2,q2⟩
  rw [dh];exact d2
end
def fin (r:RS):R D:=match r with
 | .nx _ O=>.ok .non O
 | .rt d O=>.ok d O
 | .exc c O=>.exc c O
 | _=>.bad
def z2P (n:Nat) (t:DS):List D->Ow->R D:=fun ds O=>fin (t (ds.map some ++ aq (n - ds.length) none) O)
theorem z6o (h:l8 K H hid μ ds vs) (N:List Str):l9 K H hid μ (ds.map some ++ aq (N.length - ds.length) none) (L2.start N vs):=by
 unfold L2.start
 have hl:=h.length
 refine ⟨by simp [hl],fun i d e=>?_⟩
 have hi:i < ds.length:=by
  by_cases hi:i < ds.length
  ·exact hi
  ·rw [bp (by simpa using hi),dH] at e
   split at e <;> cases e
 rw [aL (by simpa using hi),bc] at e
 cases q:ds[i]? with
 | none=>rw [q] at e;cases e
 | some d'=>
  rw [q] at e;cases e
  obtain ⟨v,h1,h2⟩:=h.get q
  exact ⟨v,by rw [aL (by simp;omega),bc,h1];rfl,h2⟩
def z42:D->String
 | .non => "NoneType"
 | .bl _ => "bool"
 | .int _ => "int"
 | .str _ => "str"
 | .lst _ => "list"
 | .own _ => "list"
 | .tup _ => "tuple"
 | .dct => "dict"
 | .exn _ => "exception"
 | .tab _ => "bool"
 | .map _ _ => "dict"
 | .adr _ => "function"
def zc4 (t c:String):Bool:=t == c || (t == "bool" && c == "int")
section
variable {X:Cx} {Ex:Nat->Hp->Prop} {pos:Pos} {a b c e:aK} {ta te:DE} {pins:List (af × Obj)} {σv:St} {H:Hp} {s:ai} {hid μ:List af} {O:Ow}
def z5M:List String:=["NoneType", "bool", "int", "str", "list", "tuple", "dict"]
theorem z3m (K:aj) {t c:String} (ht:t ∈ z5M) (hc:c ∈ ["int", "bool", "str", "list", "tuple", "dict"]):aI K (.type t) (.type c)=some (zc4 t c):=by
 simp only [z5M,av,aM,or_false] at ht hc
 rcases ht with rfl|rfl|rfl|rfl|rfl|rfl|rfl <;> rcases hc with rfl|rfl|rfl|rfl|rfl|rfl <;> first|rfl|decide
theorem z6v (I:L2.Inv X pins σv H s) (cl:l7 X.K H hid μ O) (h:Dat X.K H hid μ d v) (r:RelV v u) (hf:(z42 d == "function")=false):∃ (T:ae) (Hh:aP->Prop),PySem.W.KitX X.K u T Hh/\Hh s.heap/\u ≠ .builtin "__main__.__loader__#opaque"/\∀ c ∈ (["int", "bool", "str", "list", "tuple", "dict"]:List String),aI X.K T (.type c)=some (zc4 (z42 d) c):=by
 cases d with
 | non=>unfold Dat at h;subst h;cases r;exact ⟨.type "NoneType",_,kS,dR,(fun z=>nomatch z),fun c hc=>z3m X.K (t := "NoneType") (by simp [z5M]) hc⟩
 | bl _=>unfold Dat at h;subst h;cases r;exact ⟨.type "bool",_,kT,dR,(fun z=>nomatch z),fun c hc=>z3m X.K (t := "bool") (by simp [z5M]) hc⟩
 | int _=>unfold Dat at h;subst h;obtain ⟨t,rfl⟩:=r;exact ⟨.type "int",_,PySem.W.kitx_int,dR,(fun z=>nomatch z),fun c hc=>z3m X.K (t := "int") (by simp [z5M]) hc⟩
 | str _=>unfold Dat at h;subst h;obtain ⟨t,rfl⟩:=r;exact ⟨.type "str",_,PySem.W.kitx_str,dR,(fun z=>nomatch z),fun c hc=>z3m X.K (t := "str") (by simp [z5M]) hc⟩
 | lst ds=>
  unfold Dat at h
  obtain ⟨p,vs,rfl,l,q⟩:=h
  cases r
  obtain ⟨its,rv,⟨o,n,h1,h2,_⟩,_⟩:=I.list l.sq
  exact ⟨.type "list",_,kU,⟨o,h1,h2⟩,(fun z=>nomatch z),fun c hc=>z3m X.K (t := "list") (by simp [z5M]) hc⟩
 | own k=>
  unfold Dat at h
  obtain ⟨p,rfl,hk⟩:=h
  cases r
  obtain ⟨ds,vs,_,h2,_⟩:=cl.at_ k p hk
  obtain ⟨its,rv,⟨o,n,h1,h2,_⟩,_⟩:=I.list (.of h2)
  exact ⟨.type "list",_,kU,⟨o,h1,h2⟩,(fun z=>nomatch z),fun c hc=>z3m X.K (t := "list") (by simp [z5M]) hc⟩
 | tup ds=>
  unfold Dat at h
  obtain ⟨p,vs,rfl,l,q⟩:=h
  cases r
  obtain ⟨its,rv,⟨o,h1,h2,_⟩,_⟩:=I.tuple l.sq
  exact ⟨.type "tuple",_,PySem.W.kitx_tuple,⟨o,h1,h2⟩,(fun z=>nomatch z),fun c hc=>z3m X.K (t := "tuple") (by simp [z5M]) hc⟩
 | dct=>
  unfold Dat at h
  obtain ⟨p,rfl,hr,_⟩:=h
  cases r
  obtain ⟨_,_,vs,_,o,es,ep,h1,h2,_⟩:=Rd.ok hr I.hok
  exact ⟨.type "dict",_,kW,⟨o,h1,h2.1⟩,(fun z=>nomatch z),fun c hc=>z3m X.K (t := "dict") (by simp [z5M]) hc⟩
 | tab _=>unfold Dat at h;obtain ⟨rfl,_⟩:=h;cases r;exact ⟨.type "bool",_,kT,dR,(fun z=>nomatch z),fun c hc=>z3m X.K (t := "bool") (by simp [z5M]) hc⟩
 | map ks ds=>
  unfold Dat at h
  obtain ⟨p,vs,rfl,hr,_⟩:=h
  cases r
  obtain ⟨_,_,vs,_,o,es,ep,h1,h2,_⟩:=Rd.ok hr I.hok
  exact ⟨.type "dict",_,kW,⟨o,h1,h2.1⟩,(fun z=>nomatch z),fun c hc=>z3m X.K (t := "dict") (by simp [z5M]) hc⟩
 | adr _=>cases hf
 | exn C=>
  unfold Dat at h
  obtain ⟨p,φ,rfl,⟨k,g⟩,hr,_⟩:=h
  cases r
  obtain ⟨y,_⟩:=Rd.ok hr I.hok
  refine ⟨_,_,zgl k,g _ y,(fun z=>nomatch z),fun c hc=>?_⟩
  rw [k.kit c hc]
  simp only [av,aM,or_false] at hc
  rcases hc with rfl|rfl|rfl|rfl|rfl|rfl <;> rfl
def kOk:List String:=["int", "bool", "str", "list", "tuple", "dict"]
theorem zdG:mj X (.builtin "isinstance") (fun xs H Q=>∃ x C hid μ O d,xs=[x,.ty C]/\C ∈ kOk/\l7 X.K H hid μ O/\Dat X.K H hid μ d x/\(z42 d == "function")=false/\Q (.bl (zc4 (z42 d) C)) H):=by
 intro pins s σ H xs us Q I r h
 obtain ⟨x,C,hid,μ,O,d,rfl,hC,cl,dx,hf,q⟩:=h
 obtain ⟨u,w',rfl,rx,rc⟩:=za5 r
 cases rc
 obtain ⟨T,Hh,Z,p,hx,hk⟩:=z6v I cl dx rx hf
 exact wT I (jk Z I.kIn p (hk _ hC) hx fun tk htk=>⟨.bl _,H,I.tok tk,rfl,q⟩)
def z5U (C:String) (t:DE):DE:=fun σ O=>(t σ O).bnd fun d O1=>if (z42 d == "function")=true then .bad else .ok (.bl (zc4 (z42 d) C)) O1
theorem z8P (ha:PD X Ex a ta) (hn:n ∈ kOk) (hg:Gl X "isinstance") (hm:X.mg "isinstance" = none) (hv:a8 "isinstance" = some (.builtin "isinstance")) (hgC:Gl X C) (hmC:X.mg C=none) (hvC:a8 C=some (.type n)) (hCn:C ≠ "__name__":=by decide)
  (hCd:(C == ("__debug__":Str))=false:=by decide) (he:aD [a,.Name C p'] X.env=(false,eval a X.env) :: aD [.Name C p'] X.env:=by rfl) (he2:aD [.Name C p'] X.env=[(false,eval (.Name C p') X.env)]:=by rfl) (hpl:(backTo pos (aD [.Name C p'] X.env)).any (·.1)=false:=by rfl):
  PD X Ex (.Call (.Name "isinstance" p) [a,.Name C p'] [] pos) (z5U n ta):=
 z22 (z49 (zdG (X:=X)) hg hm hv (z1P ha.out (z1P (z8p (v:=.ty n) hgC hmC hvC rfl hCn hCd) z3r he2) he) (by decide) (by decide) he hpl) fun hid μ σ O σv H Q e1 c1 q=>rd.go e1 c1 q fun d O1 v H1 μ1 e2 x cl r p2=>by
  obtain ⟨hf,p2⟩:=post.iteN p2
  exact ⟨v,n,hid,μ1,O1,d,rfl,hn,cl,r,hf,post.here p2 cl z2m⟩
def zbN (to:DE) (t:DA):DE:=fun σ O=>(to σ O).bnd fun x O1=>match x with
 | .own k=>(t σ O1).bnd fun ys O2=>match ys,O2[k]? with
  | [y],some ds=>if ds.length < 100000 then .ok .non (O2.set k (ds ++ [y])) else .bad
  | _,_=>.bad
 | _=>.bad
theorem ze5 (ho:PD X Ex o to) (ha:PDA X Ex (e :: es) t) (hbase:attributeBase o "append" X.env (eval o X.env)=eval o X.env:=by rfl)
  (hfew:((backTo cpos (aD (e :: es) X.env)).all (fun x=>!x.1) && (backToKw cpos (keywordEach [] X.env)).all (fun x=>x.1.isSome) && decide ((e :: es).length + ([]:List eG).length + (if ([]:List eG).isEmpty then 0 else 1) < 30))=true:=by rfl)
  (hline:(apos.endLine == cpos.line)=true:=by rfl) (hs:aD (e :: es) X.env=(false,eval e X.env) :: aD es X.env:=by rfl) (hplain:(backTo cpos (aD es X.env)).any (·.1)=false:=by rfl):
  PD X Ex (.Call (.Attribute o "append" apos) (e :: es) [] cpos) (zbN to t):=
 z22 (z91 cJ c9 dE z3y ho.out ha.out hbase hfew hline hs hplain) fun hid μ σ O σv H Q e1 c1 q=>rd.go e1 c1 q fun d O1 v H1 μ1 e2 x cl r p=>by
  cases d with
  | own k=>
   have hr:=r
   unfold Dat at r
   obtain ⟨A,rfl,hk⟩:=r
   obtain ⟨ds,vs,h1,h2,h3⟩:=cl.at_ k A hk
   refine ⟨.inl ⟨rfl,vs,.of h2⟩,rdA.go e2 cl p fun ys O2 ws H2 μ2 e3 x3 c3 d3 p3=>?_⟩
   split at p3
   ·rename_i y es' hds
    obtain ⟨hl,p3⟩:=post.ite p3
    obtain ⟨w,rfl,dw⟩:=z3S d3
    have hk2:μ2[k]?=some A:=by
     have:=hr.ext x3
     unfold Dat at this
     obtain ⟨A',e',hk'⟩:=this
     cases e';exact hk'
    obtain ⟨ds2,vs2,g1,g2,g3⟩:=c3.at_ k A hk2
    rw [hds] at g1;cases g1
    refine ⟨A,vs2,w,rfl,rfl,g2,aN (by rw [<- g3.length];exact hl) (by decide),?_⟩
    exact post.ok p3 (.put (aW hk2) ⟨_,g2⟩) (c3.put hk2 (g3.append (.cons dw .nil))) z5i
   ·exact ak p3
  | _=>exact ak p
def zcH (te to ti:DE):DS:=fun σ O=>(te σ O).bnS fun y O1=>(to σ O1).bnS fun x O2=>(ti σ O2).bnS fun i O3=>match x,i with
 | .own k,.int i=>match O3[k]? with
  | some ds=>match ixN ds.length i with
   | some j=>.nx σ (O3.set k (ds.set j y))
   | none=>.bad
  | none=>.bad
 | _,_=>.bad
theorem zgx (he:PD X Ex e te) (ho:PD X Ex o to) (hi:PD X Ex i ti) (ha:∀ v,assign (.Subscript o i pos) X.env v=(do
   let ov <- holding [v] (eval o X.env)
   let iv <- holding [v,ov] (eval i X.env)
   standAt pos
   holding [v,ov,iv] (setItem ov iv v)
   release [v,ov,iv] []):=by intro _;rfl) (hs:fv [.Subscript o i pos] e spos.line X.env=pure false:=by rfl) (hw:fw [.Subscript o i pos] e X.env=pure none:=by rfl)
  (h1:(fq [.Subscript o i pos] X.env).map (·.2)=[assign (.Subscript o i pos) X.env]:=by rfl):PDS X Ex (.Assign [.Subscript o i pos] e spos) (zcH te to ti):=
 z56 (zdw he.out (zl6 ho.out hi.out zeN ha) hs hw h1) fun hid μ σ O E σv H e1 c1 q=>rd.goS e1 c1 q fun y O1 v H1 μ1 e2 x1 c2 d2 q2=>rd.goS e2 c2 q2 fun x O2 u H2 μ2 e3 x2 c3 d3 q3=>rd.goS e3 c3 q3 fun ii O3 w H3 μ3 e4 x3 c4 d4 q4=>by
  split at q4
  ·rename_i k j
   split at q4
   ·rename_i ds hds
    split at q4
    ·rename_i m hm
     have d3':=d3.ext x3
     unfold Dat at d3' d4
     obtain ⟨A,rfl,hk⟩:=d3'
     subst d4
     obtain ⟨ds2,vs2,g1,g2,g3⟩:=c4.at_ k A hk
     rw [hds] at g1;cases g1
     refine ⟨A,vs2,j,m,rfl,rfl,g2,by rw [<- g3.length];exact hm,?_⟩
     exact q4 σv _ μ3 (.put (aW hk) ⟨_,g2⟩) (e4.ext (.put (aW hk) ⟨_,g2⟩)) (c4.put hk (g3.set ((d2.ext x2).ext x3) m))
    ·exact ak q4
   ·exact ak q4
  ·exact ak q4
def bls:List D->Option (List Bool)
 | []=>some []
 | .bl b :: r=>(bls r).map (b :: ·)
 | _=>none
theorem zdc:∀ {ds:List D} {vs:List V} {bs:List Bool},l8 K H hid μ ds vs->bls ds=some bs->vs=bs.map V.bl
 | [],vs,bs,h,e=>by unfold l8 at h;subst h;cases e;rfl
 | d :: ds,vs,bs,h,e=>by
  unfold l8 at h
  obtain ⟨v,r,rfl,h1,h2⟩:=h
  cases d with
  | bl b=>
   unfold bls at e
   cases q:bls ds with
   | none=>rw [q] at e;cases e
   | some cs=>
    rw [q] at e;cases e
    unfold Dat at h1;subst h1
    rw [zdc h2 q];rfl
  | _=>cases e
def z9L:Ow->List D->R D:=fun O xs=>match xs with
 | [x]=>match lsV O x with
  | some ds=>match bls ds with
   | some bs=>.ok (.bl (bs.all id)) O
   | none=>.bad
  | none=>.bad
 | _=>.bad
def zju:Ow->List D->R D:=fun O xs=>match xs with
 | [x]=>match lsV O x with
  | some ds=>match bls ds with
   | some bs=>.ok (.bl (bs.any id)) O
   | none=>.bad
  | none=>.bad
 | _=>.bad
theorem zky:z4P X Ex (fun xs H Q=>∃ (p:af) (bs:List Bool),xs=[.ref p]/\SqL X.K H p (bs.map V.bl)/\Q (.bl (bs.all id)) H) z9L:=by
 intro H hid μ O xs vs Q c d q
 unfold z9L at q
 split at q
 ·rename_i x
  obtain ⟨v,rfl,dx⟩:=z3S d
  split at q
  ·rename_i ds e
   obtain ⟨p,ws,rfl,sq,dd⟩:=z3c c dx e
   split at q
   ·rename_i bs eb
    refine ⟨p,bs,rfl,?_,post.here q c z2m⟩
    rw [<- zdc dd eb];exact sq
   ·exact ak q
  ·exact ak q
 ·exact ak q
theorem zkp:z4P X Ex (fun xs H Q=>∃ (p:af) (bs:List Bool),xs=[.ref p]/\SqL X.K H p (bs.map V.bl)/\Q (.bl (bs.any id)) H) zju:=by
 intro H hid μ O xs vs Q c d q
 unfold zju at q
 split at q
 ·rename_i x
  obtain ⟨v,rfl,dx⟩:=z3S d
  split at q
  ·rename_i ds e
   obtain ⟨p,ws,rfl,sq,dd⟩:=z3c c dx e
   split at q
   ·rename_i bs eb
    refine ⟨p,bs,rfl,?_,post.here q c z2m⟩
    rw [<- zdc dd eb];exact sq
   ·exact ak q
  ·exact ak q
 ·exact ak q
theorem zcW (bs:List Bool):(aU bs.length).all (fun i=>bs.getD i true)=bs.all id:=by
 rw [cV,aG,aG]
 constructor
 ·intro h b hb
  obtain ⟨i,hi,e⟩:=ft.mp hb
  have:=h i (by simpa using hi)
  rw [aS,aw hi,e] at this
  exact this
 ·intro h i hi
  have hi:i < bs.length:=by simpa using hi
  rw [aS,aw hi]
  exact h _ (bG hi)
theorem zdX (bs:List Bool):(aU bs.length).any (fun i=>bs.getD i true)=bs.any id:=by
 rw [cV,dM,dM]
 constructor
 ·rintro ⟨i,hi,h⟩
  have hi:i < bs.length:=by simpa using hi
  rw [aS,aw hi] at h
  exact ⟨_,bG hi,h⟩
 ·rintro ⟨b,hb,h⟩
  obtain ⟨i,hi,e⟩:=ft.mp hb
  exact ⟨i,by simpa using hi,by rw [aS,aw hi,e];exact h⟩
theorem zdm {bs:List Bool} {its:List ae} (r:ma (bs.map V.bl) its) {i:Nat} {v:ae} (h:its.toArray[i]?=some v):v=.bool (bs.getD i true):=by
 have h:its[i]?=some v:=by simpa using h
 have hi:i < bs.length:=by
  have:=r.length
  have:=(ao.mp h).1
  simp at *;omega
 obtain ⟨u,h1,h2⟩:=r.get (i:=i) (x:=.bl bs[i]) (by rw [bc,aw hi];rfl)
 rw [h] at h1;cases h1
 cases h2
 rw [aS,aw hi];rfl
theorem zco (hc:X.calm=true):mj X (.builtin "all") (fun xs H Q=>∃ (p:af) (bs:List Bool),xs=[.ref p]/\SqL X.K H p (bs.map V.bl)/\Q (.bl (bs.all id)) H):=by
 intro pins s σ H xs us Q I r h
 obtain ⟨p,bs,rfl,sq,q⟩:=h
 obtain ⟨u,rfl,ru⟩:=z4R r
 cases ru
 obtain ⟨its,rv,pl,hz⟩:=I.list sq
 have hl:its.toArray.size=bs.length:=by have:=rv.length;simp at *;omega
 have hne:p ≠ s.heap.objs.size:=by obtain ⟨o,n,e,_⟩:=pl;exact aX (aF e)
 refine wT I (call_all_walk (fe pl.isList ?_))
 refine ⟨s.heap.objs.size,_,_,its.toArray.size,_,_,fun i=>bs.getD i true,rfl,lB (show X.A.in1.handled=none from I.ok.hd hc) _ p hne its.toArray,⟨⟨_,aC _ rfl,rfl,rfl⟩,pl.isList.push _⟩,fun i v s' Q' E' hP hQ=>?_,fun h' tk hk htk=>?_⟩
 ·rw [zdm rv hP];exact cQ hQ
 ·rw [hl,zcW]
  exact ⟨.bl _,H,I.kept (t':=tk) fun b o e=>hk b o (by simpa using aX (aF e)) (ah _ e),rfl,q⟩
theorem zcy (hc:X.calm=true):mj X (.builtin "any") (fun xs H Q=>∃ (p:af) (bs:List Bool),xs=[.ref p]/\SqL X.K H p (bs.map V.bl)/\Q (.bl (bs.any id)) H):=by
 intro pins s σ H xs us Q I r h
 obtain ⟨p,bs,rfl,sq,q⟩:=h
 obtain ⟨u,rfl,ru⟩:=z4R r
 cases ru
 obtain ⟨its,rv,pl,hz⟩:=I.list sq
 have hl:its.toArray.size=bs.length:=by have:=rv.length;simp at *;omega
 have hne:p ≠ s.heap.objs.size:=by obtain ⟨o,n,e,_⟩:=pl;exact aX (aF e)
 refine wT I (call_any_walk (fe pl.isList ?_))
 refine ⟨s.heap.objs.size,_,_,its.toArray.size,_,_,fun i=>bs.getD i true,rfl,lB (show X.A.in1.handled=none from I.ok.hd hc) _ p hne its.toArray,⟨⟨_,aC _ rfl,rfl,rfl⟩,pl.isList.push _⟩,fun i v s' Q' E' hP hQ=>?_,fun h' tk hk htk=>?_⟩
 ·rw [zdm rv hP];exact cQ hQ
 ·rw [hl,zdX]
  exact ⟨.bl _,H,I.kept (t':=tk) fun b o e=>hk b o (by simpa using aX (aF e)) (ah _ e),rfl,q⟩
end
section
variable {X:Cx} {Ex:Nat->Hp->Prop} {pos:Pos} {a b c e o:aK} {ta tb te to:DE} {pins:List (af × Obj)} {σv:St} {H:Hp} {s:ai} {hid μ:List af} {O:Ow}
def zjn (K:aj):R2:=fun x y H Q=>∃ l b xs zs,x=.ref l/\y=.ref b/\SqL K H l xs/\SqL K H b zs/\xs.length + zs.length <= sizeLine/\∀ p,H p=none->Q (.ref p) (upd H p (.lst (xs ++ zs)))
theorem ziO:OpR X (cU .Add) (zjn X.K):=by
 intro pins s σ H x y v u Q I rx ry h
 obtain ⟨l,b,xs,zs,rfl,rfl,h1,h2,hz,q⟩:=h
 cases rx
 cases ry
 obtain ⟨its,r1,p1,z1⟩:=I.list h1
 obtain ⟨its2,r2,p2,z2⟩:=I.list h2
 obtain ⟨⟨c1,d1,t1,s1⟩,n1,g1,k1,m1,w1⟩:=p1
 obtain ⟨⟨c2,d2,t2,s2⟩,n2,g2,k2,m2,w2⟩:=p2
 simp only at k1 m1 w1 k2 m2 w2
 subst k1 m1 w1 k2 m2 w2
 have ea:its.toArray ++ its2.toArray=(its ++ its2).toArray:=by simp
 have l1:=r1.length
 have l2:=r2.length
 refine ip ⟨_,g1,rfl⟩ ⟨_,g2,rfl⟩ PySem.noFill_list_add PySem.seq_list_add PySem.F.slot_list_add PySem.F.entry_list_add (PySem.F.args_list_add_2 _ _)
  (PyProof.Rows.list_addW l b its.toArray its2.toArray n1 n2 none none s1 s2 (by simp only [aA];omega)) ⟨g1,g2,?_⟩
 rw [ea]
 exact ⟨.ref _,_,I.lnew (t':=s.toks) (r1.append r2) (by rw [aE];omega),rfl,q _ I.fresh⟩
def z4i:Ow->D->D->R D:=fun O x y=>match x,y with
 | .int i,.int j=>.ok (.int (i + j)) O
 | .str p,.str q=>if p.length + q.length <= 100000 then .ok (.str (p ++ q)) O else .bad
 | .tup xs,.tup ys=>if xs ≠ []/\xs.length + ys.length <= 100000 then .ok (.tup (xs ++ ys)) O else .bad
 | x,y=>match lsV O x,lsV O y with
  | some xs,some ys=>if xs.length + ys.length <= 100000 then .ok (.lst (xs ++ ys)) O else .bad
  | _,_=>.bad
def ziC (K:aj):R2:=fun x y H Q=>(∃ i j,x=.int i/\y=.int j/\Q (.int (i + j)) H) \/ (∃ i j,x=.str i/\y=.str j/\i.length + j.length <= sizeLine/\Q (.str (i ++ j)) H) \/ zkj K x y H Q \/ zjn K x y H Q
theorem zem:OpR X (cU .Add) (ziC X.K):=OpR.or zl3 (OpR.or zbK (OpR.or zi4 ziO))
theorem ze7:OpD X Ex (ziC X.K) z4i:=by
 intro H hid μ O x y v w Q c dx dy q
 unfold z4i at q
 split at q
 ·unfold Dat at dx dy;subst dx;subst dy
  exact .inl ⟨_,_,rfl,rfl,post.here q c z1r⟩
 ·rename_i p q'
  unfold Dat at dx dy;subst dx;subst dy
  obtain ⟨hl,q⟩:=post.ite q
  refine .inr (.inl ⟨_,_,rfl,rfl,?_,?_⟩)
  ·show p.toArray.size + q'.toArray.size <= _
   simp only [aA];exact z1K hl
  ·have e:((⟨p.toArray⟩:Str) ++ (⟨q'.toArray⟩:Str))=⟨(p ++ q').toArray⟩:=by
    show (⟨p.toArray ++ q'.toArray⟩:Str)=_
    simp
   rw [e]
   exact post.here q c zaf
 ·rename_i xs ys
  have dx0:=dx
  unfold Dat at dx dy
  obtain ⟨p,vs,rfl,l1,q1⟩:=dx
  obtain ⟨p',vs',rfl,l2,q2⟩:=dy
  obtain ⟨⟨hn,hl⟩,q⟩:=post.ite q
  have e1:=q1.length
  have e2:=q2.length
  refine .inr (.inr (.inl ⟨p,p',vs,vs',rfl,rfl,l1.sq,l2.sq,?_,z1K (by omega),?_,?_⟩))
  ·rintro rfl
   exact hn (de.mp e1)
  ·rintro rfl
   have:ys=[]:=de.mp e2
   subst this
   rw [dh] at q
   exact post.here q c dx0
  ·intro _ l hl0
   exact post.ok q (.laid hl0) (c.laid hl0) (Dat.newT c hl0 (q1.append q2))
 ·split at q
  ·rename_i xs ys e1 e2
   obtain ⟨p,vs,rfl,s1,q1⟩:=z3c c dx e1
   obtain ⟨p',vs',rfl,s2,q2⟩:=z3c c dy e2
   obtain ⟨hl,q⟩:=post.ite q
   have l1:=q1.length
   have l2:=q2.length
   exact .inr (.inr (.inr ⟨p,p',vs,vs',rfl,rfl,s1,s2,z1K (by omega),fun l hl0=>post.ok q (.laid hl0) (c.laid hl0) (Dat.newL c hl0 (q1.append q2))⟩))
  ·exact ak q
theorem zkU (ha:PD X Ex a ta) (hb:PD X Ex b tb):PD X Ex (.BinOp a .Add b pos) (dOp z4i ta tb):=z5Q zem ze7 ha hb
def zmq (i:Int):List Nat:=((toString i:Str)).cps.toList
def zeS:Ow->List D->R D:=fun O xs=>match xs with
 | [.int i]=>if i.natAbs < 2 ^ 64 then .ok (.str (zmq i)) O else .bad
 | _=>.bad
theorem zbX (h:n < 2 ^ 64):n.log2 < 1920:=by
 by_cases hn:n=0
 ·subst hn;decide
 ·have:=(Nat.log2_lt hn (k:=64)).mpr h
  omega
theorem z8r (x:Str):(⟨x.cps.toList.toArray⟩:Str)=x:=by
 cases x;simp
theorem zhY:z4P X Ex (fun xs H Q=>∃ i,xs=[.int i]/\i.natAbs.log2 < 1920/\Q (.str (toString i)) H) zeS:=by
 intro H hid μ O xs vs Q c d q
 unfold zeS at q
 split at q
 ·rename_i i
  obtain ⟨v,rfl,dx⟩:=z3S d
  unfold Dat at dx;subst dx
  obtain ⟨hl,q⟩:=post.ite q
  refine ⟨i,rfl,zbX hl,post.here q c ?_⟩
  unfold Dat zmq
  rw [z8r]
 ·exact ak q
def dS1 (g:List Nat->List Nat->Option D) (to:DE) (t:DA):DE:=fun σ O=>(to σ O).bnd fun x O1=>match x with
 | .str i=>(t σ O1).bnd fun ys O2=>match ys with
  | [.str j]=>match g i j with
   | some d=>.ok d O2
   | none=>.bad
  | _=>.bad
 | _=>.bad
def z9E:List D->Option (List Str)
 | []=>some []
 | .str cs :: r=>(z9E r).map (⟨cs.toArray⟩ :: ·)
 | _=>none
theorem zef:∀ {ds:List D} {vs:List V} {ys:List Str},l8 K H hid μ ds vs->z9E ds=some ys->vs=ys.map V.str
 | [],vs,ys,h,e=>by unfold l8 at h;subst h;cases e;rfl
 | d :: ds,vs,ys,h,e=>by
  unfold l8 at h
  obtain ⟨v,r,rfl,h1,h2⟩:=h
  cases d with
  | str cs=>
   unfold z9E at e
   cases q:z9E ds with
   | none=>rw [q] at e;cases e
   | some zs=>
    rw [q] at e;cases e
    unfold Dat at h1;subst h1
    rw [zef h2 q];rfl
  | _=>cases e
theorem z5s:∀ {ys:List Str} {us:List ae},ma (ys.map V.str) us->eB us ys:=by
 intro ys
 induction ys with
 | nil=>intro us r;rw [gK] at r;cases r;exact .nil
 | cons y ys ih=>
  intro us r
  rw [bM] at r
  cases r with
  | cons r1 r2=>
   obtain ⟨t,e⟩:=r1
   subst e
   exact .cons y t (ih r2)
def zlq (K:aj):V->List V->Hp->VK->Prop:=fun x xs H Q=>∃ i p ys,x=.str i/\xs=[.ref p]/\(SqL K H p (ys.map V.str) \/ SqT K H p (ys.map V.str))/\i.length <= 16/\(ys.map (·.length)).sum + ys.length <= 1048576/\Q (.str (jU i ys)) H
theorem zhZ:MtR X "str.join" (zlq X.K):=by
 intro pins s σ H x xs v us Q I rx rs h
 obtain ⟨i,p,ys,rfl,rfl,sq,hi,hw,q⟩:=h
 obtain ⟨t,rfl⟩:=rx
 obtain ⟨u,rfl,ru⟩:=z4R rs
 cases ru
 rcases sq with sq|sq
 ·obtain ⟨its,r1,p1,z1⟩:=I.list sq
  exact wT I (PyProof.Rows.join_listW p1.isList (z5s r1) hi hw fun t' k htk=>⟨.str _,H,I.tok k,⟨_,rfl⟩,q⟩)
 ·obtain ⟨its,r1,p1,z1⟩:=I.tuple sq
  exact wT I (PyProof.Rows.join_tupleW p1 (z5s r1) hi hw fun t' k htk=>⟨.str _,H,I.tok k,⟨_,rfl⟩,q⟩)
def zbA (to:DE) (t:DA):DE:=fun σ O=>(to σ O).bnd fun x O1=>match x with
 | .str i=>(t σ O1).bnd fun ys O2=>match ys with
  | [z]=>match (match lsV O2 z with|some ds=>some ds|none=>tpV z) with
   | some ds=>match z9E ds with
    | some zs=>if i.length <= 16/\(zs.map (·.length)).sum + zs.length <= 1048576 then .ok (.str (jU ⟨i.toArray⟩ zs).cps.toList) O2 else .bad
    | none=>.bad
   | none=>.bad
  | _=>.bad
 | _=>.bad
theorem zhR (ho:PD X Ex o to) (ha:PDA X Ex (e :: es) t) (hbase:attributeBase o "join" X.env (eval o X.env)=eval o X.env:=by rfl)
  (hfew:((backTo cpos (aD (e :: es) X.env)).all (fun x=>!x.1) && (backToKw cpos (keywordEach [] X.env)).all (fun x=>x.1.isSome) && decide ((e :: es).length + ([]:List eG).length + (if ([]:List eG).isEmpty then 0 else 1) < 30))=true:=by rfl)
  (hline:(apos.endLine == cpos.line)=true:=by rfl) (hs:aD (e :: es) X.env=(false,eval e X.env) :: aD es X.env:=by rfl) (hplain:(backTo cpos (aD es X.env)).any (·.1)=false:=by rfl):
  PD X Ex (.Call (.Attribute o "join" apos) (e :: es) [] cpos) (zbA to t):=
 z22 (z91 js PySem.F.slot_str_join PySem.F.type_str_join zhZ ho.out ha.out hbase hfew hline hs hplain) fun hid μ σ O σv H Q e1 c1 q=>rd.go e1 c1 q fun d O1 v H1 μ1 e2 x cl r p=>by
  cases d with
  | str i=>
   unfold Dat at r
   subst r
   refine ⟨rfl,rdA.go e2 cl p fun ys O2 ws H2 μ2 e3 x3 c3 d3 p3=>?_⟩
   split at p3
   ·rename_i z
    obtain ⟨w,rfl,dw⟩:=z3S d3
    split at p3
    ·rename_i ds hds
     split at p3
     ·rename_i zs hzs
      obtain ⟨⟨h1,h2⟩,p3⟩:=post.ite p3
      have h:∃ p ws,w=.ref p/\(SqL X.K H2 p ws \/ SqT X.K H2 p ws)/\l8 X.K H2 hid μ2 ds ws:=by
       cases e1:lsV O2 z with
       | some es=>
        rw [e1] at hds;cases hds
        obtain ⟨p,ws,h1,sq,dd⟩:=z3c c3 dw e1
        exact ⟨p,ws,h1,.inl sq,dd⟩
       | none=>
        rw [e1] at hds
        obtain ⟨p,ws,h1,sq,dd⟩:=z7E dw hds
        exact ⟨p,ws,h1,.inr sq,dd⟩
      obtain ⟨pp,ws,rfl,sq,dd⟩:=h
      have ev:=zef dd hzs
      subst ev
      refine ⟨_,pp,zs,rfl,rfl,sq,?_,h2,post.here p3 c3 ?_⟩
      ·show i.toArray.size <= 16
       simpa using h1
      ·unfold Dat;rw [z8r]
     ·exact ak p3
    ·exact ak p3
   ·exact ak p3
  | _=>exact ak p
abbrev DO:=Sg->Ow->R (Option Int)
def rdO (Ex:Nat->Hp->Prop) (K:aj) (t:DO):TO:=fun σv H Q=>∃ hid μ σ O,l9 K H hid μ σ σv/\l7 K H hid μ O/\post Ex K (fun _ _ (d v:Option Int)=>d=v) H hid μ (t σ O) Q
structure PDO (X:Cx) (Ex:Nat->Hp->Prop) (e:Option aK) (t:DO):Prop where
 out:PO X e (rdO Ex X.K t)
def z3u:DO:=fun _ O=>.ok none O
def z3k (t:DE):DO:=fun σ O=>(t σ O).bnd fun d O1=>match d with
 | .int i=>.ok (some i) O1
 | _=>.bad
theorem PO.imp {e:Option aK} {t t':TO} (h:PO X e t) (f:∀ σ H Q,t' σ H Q->t σ H Q):PO X e t':=fun pins s σ H Q I q=>h pins s σ H Q I (f σ H Q q)
theorem zeH:PDO X Ex none z3u:=PDO.mk <| PO.imp zgR fun σv H Q ⟨hid,μ,σ,O,e1,c1,q⟩=>post.here (v:=none) q c1 rfl
theorem zfo (h:PD X Ex e te):PDO X Ex (some e) (z3k te):=PDO.mk <| PO.imp (zhc h.out) fun σv H Q ⟨hid,μ,σ,O,e1,c1,q⟩=>rd.go e1 c1 q fun d O1 v H1 μ1 e2 x cl r p=>by
 cases d with
 | int i=>unfold Dat at r;subst r;exact ⟨i,rfl,post.here (v:=some i) p cl rfl⟩
 | _=>exact ak p
theorem rdO.go {α' β':Type} {rel':Hp->List af->α'->β'->Prop} {t:DO} {hid μ:List af} {σ:Sg} {O:Ow} {σv:St} {H:Hp} {Q1:Option Int->Hp->Prop} {k:Option Int->Ow->R α'} {Q:β'->Hp->Prop} (e1:l9 X.K H hid μ σ σv) (c1:l7 X.K H hid μ O)
  (q:post Ex X.K rel' H hid μ ((t σ O).bnd k) Q)
  (f:∀ v O1 H1 μ1,l9 X.K H1 hid μ1 σ σv->Ext H μ H1 μ1->l7 X.K H1 hid μ1 O1->post Ex X.K rel' H1 hid μ1 (k v O1) Q->Q1 v H1):rdO Ex X.K t σv H Q1:=
 ⟨hid,μ,σ,O,e1,c1,post.bnd q fun d O1 v H1 μ1 x c r p=>by
  have r:d=v:=r
  subst r
  exact f d O1 H1 μ1 (e1.ext x) x c p⟩
def zms:V->Option Int->Option Int->Hp->VK->Prop:=fun x lo hi H Q=>∃ i,x=.str i/\i.length <= sizeLine/\Q (.str (lK i lo hi)) H
theorem zbI {h:aP} {sl:af} {vl vu:ae} {lo hi:Option Int} (hs:h.IsSliceOf sl vl vu .none) (pl:fj vl lo) (pu:fj vu hi):∃ l u:Option (Int × Tok),h.IsSlice sl l u none/\l.map (·.1)=lo/\u.map (·.1)=hi:=by
 obtain ⟨ob,g,k1,k2⟩:=hs
 cases pl with
 | none=>
  cases pu with
  | none=>exact ⟨none,none,⟨ob,g,k1,k2⟩,rfl,rfl⟩
  | int j t=>exact ⟨none,some (j,t),⟨ob,g,k1,k2⟩,rfl,rfl⟩
 | int i t=>
  cases pu with
  | none=>exact ⟨some (i,t),none,⟨ob,g,k1,k2⟩,rfl,rfl⟩
  | int j t'=>exact ⟨some (i,t),some (j,t'),⟨ob,g,k1,k2⟩,rfl,rfl⟩
theorem zl5:SlR X zms:=by
 intro pins s σ H x v vl vu lo hi sl Q I rx hs pl pu h
 obtain ⟨i,rfl,hz,q⟩:=h
 obtain ⟨t,rfl⟩:=rx
 obtain ⟨l,u,hs2,rfl,rfl⟩:=zbI hs pl pu
 refine ⟨"str",_,PySem.F.slot_str_getitem.lookup,jR s i t,?_⟩
 exact wT I (wpAny_getItem_str_slice (l:=l) (u:=u) (st:=none) hs2 rfl (post_val_or_str ⟨bb (Txt.slice_le i _ _) hz,fun t' k htk=>⟨.str _,H,I.tok k,⟨_,rfl⟩,q⟩⟩))
def zbd (xs:List D) (lo hi:Option Int):List D:=(xs.drop (HT.sIx xs.length 0 lo)).take (HT.sIx xs.length xs.length hi - HT.sIx xs.length 0 lo)
def fSl (O:Ow) (x:D) (lo hi:Option Int):R D:=match x with
 | .str i=>if i.length <= 100000 then .ok (.str (lK ⟨i.toArray⟩ lo hi).cps.toList) O else .bad
 | .tup ds=>if HT.sIx ds.length 0 lo=0/\HT.sIx ds.length ds.length hi=ds.length then .bad else .ok (.tup (zbd ds lo hi)) O
 | x=>match lsV O x with
  | some ds=>.ok (.lst (zbd ds lo hi)) O
  | none=>.bad
def zn4 (K:aj):V->Option Int->Option Int->Hp->VK->Prop:=fun x lo hi H Q=>zms x lo hi H Q \/ zmt K x lo hi H Q \/ zmw K x lo hi H Q
theorem z8e {K:aj} {ds:List D} {vs:List V} (h:l8 K H hid μ ds vs) (lo hi:Option Int):l8 K H hid μ (zbd ds lo hi) (zgb vs lo hi):=by
 unfold zbd zgb
 rw [h.length]
 exact l8.take _ (l8.drop _ h)
def zl8:Ow->D->D->R D:=fun O x y=>match x,y with
 | .str i,.str j=>.ok (.bl (!(bR ⟨j.toArray⟩ ⟨i.toArray⟩ 0 j.length 1).isEmpty)) O
 | _,_=>.bad
theorem zi6:OpD X Ex (fun x y H Q=>∃ i j,x=.str i/\y=.str j/\Q (.bl (!(bR j i 0 j.length 1).isEmpty)) H) zl8:=by
 intro H hid μ O x y v w Q c dx dy q
 unfold zl8 at q
 split at q
 ·rename_i i j
  unfold Dat at dx dy;subst dx;subst dy
  refine ⟨_,_,rfl,rfl,post.here q c ?_⟩
  have e:(⟨j.toArray⟩:Str).length=j.length:=by show j.toArray.size=_;simp
  rw [e];exact z2m
 ·exact ak q
end
def z1n (K:aj) (mg:Str->Option ae) (x:Str) (st:cu):Prop:=∃ f fd,mg x=some (.ref f)/\L2.Fun K x x st f fd
structure Callee (P:aJ) (w:aR) (K:aj) (mg:Str->Option ae) (base:aP) (x:Str) (k n:Nat) (F:List D->Ow->R D):Prop where
 ex:∃ f fd ps,mg x=some (.ref f)/\cC K (.ref f)=true/\Binds K fd ps []/\mq P w K mg base CX0 k f fd ps (DSp K Ec0 n F)
theorem Callee.imp (c:Callee P w K mg base x k n F)
  (h:∀ ds O H hid μ Q,l7 K H hid μ O->z1q Ex0 K H hid μ (G ds O) Q->z1q Ex0 K H hid μ (F ds O) Q):Callee P w K mg base x k n G:=by
 obtain ⟨f,fd,ps,hm,hkp,hb,Fo⟩:=c.ex
 refine ⟨f,fd,ps,hm,hkp,hb,Fo.imp fun vs H Q E ⟨hl,hid,μ,ds,O,d,cl,q⟩=>⟨hl,hid,μ,ds,O,d,cl,h ds O H hid μ Q cl q⟩⟩
theorem Callee.bad (c:Callee P w K mg base x k n F):Callee P w K mg base x k n (fun _ _=>.bad):=
 c.imp fun _ _ _ _ _ _ _ q=>ak q
def frz (O:Ow) (n:Nat):Nat->D->Option D
 | 0,d=>match d with
  | .own k=>if k < n then some (.own k) else none
  | .lst _=>none
  | .tup _=>none
  | .map _ _=>none
  | d=>some d
 | f + 1,d=>match d with
  | .own k=>if k < n then some (.own k) else match O[k]? with
   | some ds=>(z1Q (frz O n f) ds).map .lst
   | none=>none
  | .lst ds=>(z1Q (frz O n f) ds).map .lst
  | .tup ds=>(z1Q (frz O n f) ds).map .tup
  | .map _ _=>none
  | d=>some d
def zb7 (n:Nat) (r:R D):R D:=match r with
 | .ok d O=>match frz O n 8 d,z1Q (z1Q (frz O n 8)) (O.take n) with
  | some d',some O'=>.ok d' O'
  | _,_=>.bad
 | r=>r
section
variable {K:aj} {H:Hp} {hid μ ν:List af} {O:Ow} {n:Nat}
theorem z43 (ih:∀ d d' v,f d=some d'->Dat K H hid μ d v->Dat K H hid μ' d' v):∀ (ds ds':List D) (vs:List V),z1Q f ds=some ds'->l8 K H hid μ ds vs->l8 K H hid μ' ds' vs
 | [],ds',vs,e,h=>by cases e;unfold l8 at h ⊢;exact h
 | d :: ds,ds',vs,e,h=>by
  unfold z1Q at e
  split at e
  ·rename_i p ps e1 e2
   cases e
   unfold l8 at h
   obtain ⟨v,r,rfl,h1,h2⟩:=h
   exact .cons (ih d p v e1 h1) (z43 ih ds ps r e2 h2)
  ·cases e
theorem zfU (c:l7 K H hid (μ ++ ν) O) (hn:μ.length=n):∀ (f:Nat) (d d':D) (v:V),frz O n f d=some d'->Dat K H hid (μ ++ ν) d v->Dat K H hid μ d' v:=by
 have sub:∀ {a:af},a ∉ μ ++ ν->a ∉ μ:=fun h m=>h (cK _ m)
 have low:∀ {k:Nat} {v:V},k < n->Dat K H hid (μ ++ ν) (.own k) v->Dat K H hid μ (.own k) v:=fun {k v} hk h=>by
  unfold Dat at h ⊢
  obtain ⟨a,rfl,e⟩:=h
  rw [aL (by omega)] at e
  exact ⟨a,rfl,e⟩
 have dc:∀ {v:V},Dat K H hid (μ ++ ν) .dct v->Dat K H hid μ .dct v:=fun {v} h=>by
  unfold Dat at h ⊢
  obtain ⟨a,rfl,r,n1,n2⟩:=h
  exact ⟨a,rfl,r,n1,sub n2⟩
 have xc:∀ {C:Nat} {v:V},Dat K H hid (μ ++ ν) (.exn C) v->Dat K H hid μ (.exn C) v:=fun {C v} h=>by
  unfold Dat at h ⊢
  obtain ⟨a,φ,rfl,g,r,n1,n2⟩:=h
  exact ⟨a,φ,rfl,g,r,n1,sub n2⟩
 intro f
 induction f with
 | zero=>
  intro d d' v e h
  cases d with
  | own k=>
   unfold frz at e;dsimp only at e
   split at e
   ·rename_i hk;cases e;exact low hk h
   ·cases e
  | lst ds=>cases e
  | tup ds=>cases e
  | dct=>cases e;exact dc h
  | map ks ds=>cases e
  | adr _=>cases e;unfold Dat at h ⊢;exact h
  | exn C=>cases e;exact xc h
  | tab P=>cases e;unfold Dat at h ⊢;exact h
  | non=>cases e;unfold Dat at h ⊢;exact h
  | bl b=>cases e;unfold Dat at h ⊢;exact h
  | int i=>cases e;unfold Dat at h ⊢;exact h
  | str i=>cases e;unfold Dat at h ⊢;exact h
 | succ f ih=>
  intro d d' v e h
  cases d with
  | own k=>
   unfold frz at e;dsimp only at e
   split at e
   ·rename_i hk;cases e;exact low hk h
   ·rename_i hk
    unfold Dat at h
    obtain ⟨a,rfl,hk2⟩:=h
    obtain ⟨ds,vs,h1,h2,h3⟩:=c.at_ k a hk2
    rw [h1] at e
    dsimp only at e
    cases e1:z1Q (frz O n f) ds with
    | none=>rw [e1] at e;cases e
    | some ps=>
     rw [e1] at e;cases e
     unfold Dat
     refine ⟨a,vs,rfl,.inl ⟨.inl h2,c.nh a (aW hk2),fun m=>?_⟩,z43 ih ds ps vs e1 h3⟩
     obtain ⟨j,hj,ej⟩:=ft.mp m
     have q1:(μ ++ ν)[j]?=some a:=by rw [aL hj,aw hj,ej]
     obtain ⟨w1,z1⟩:=ao.mp q1
     obtain ⟨w2,z2⟩:=ao.mp hk2
     have:=(iW c.nd).mp (z1.trans z2.symm)
     omega
  | lst ds=>
   unfold frz at e;dsimp only at e
   unfold Dat at h
   obtain ⟨a,vs,rfl,l,q⟩:=h
   cases e1:z1Q (frz O n f) ds with
   | none=>rw [e1] at e;cases e
   | some ps=>
    rw [e1] at e;cases e
    unfold Dat
    exact ⟨a,vs,rfl,l.imp (fun z=>⟨z.1,z.2.1,sub z.2.2⟩) id,z43 ih ds ps vs e1 q⟩
  | tup ds=>
   unfold frz at e;dsimp only at e
   unfold Dat at h
   obtain ⟨a,vs,rfl,l,q⟩:=h
   cases e1:z1Q (frz O n f) ds with
   | none=>rw [e1] at e;cases e
   | some ps=>
    rw [e1] at e;cases e
    unfold Dat
    exact ⟨a,vs,rfl,l.imp (fun z=>⟨z.1,z.2.1,sub z.2.2⟩) id,z43 ih ds ps vs e1 q⟩
  | dct=>cases e;exact dc h
  | map ks ds=>cases e
  | adr _=>cases e;unfold Dat at h ⊢;exact h
  | exn C=>cases e;exact xc h
  | tab P=>cases e;unfold Dat at h ⊢;exact h
  | non=>cases e;unfold Dat at h ⊢;exact h
  | bl b=>cases e;unfold Dat at h ⊢;exact h
  | int i=>cases e;unfold Dat at h ⊢;exact h
  | str i=>cases e;unfold Dat at h ⊢;exact h
theorem z8a {α β:Type} {f:α->Option β}:∀ {l:List α} {r:List β},z1Q f l=some r->r.length=l.length
 | [],r,e=>by cases e;rfl
 | x :: l,r,e=>by
  unfold z1Q at e
  split at e
  ·rename_i p ps e1 e2;cases e;simp [z8a e2]
  ·cases e
theorem zb8 {α β:Type} {f:α->Option β}:∀ {l:List α} {r:List β} {k:Nat} {y:β},z1Q f l=some r->r[k]?=some y->∃ x,l[k]?=some x/\f x=some y
 | [],r,k,y,e,h=>by cases e;simp at h
 | x :: l,r,k,y,e,h=>by
  unfold z1Q at e
  split at e
  ·rename_i p ps e1 e2
   cases e
   cases k with
   | zero=>simp at h;subst h;exact ⟨x,by simp,e1⟩
   | succ k=>obtain ⟨z,h1,h2⟩:=zb8 (k:=k) e2 (by simpa using h);exact ⟨z,by simpa using h1,h2⟩
  ·cases e
theorem zfs {Ex:Nat->Hp->Prop} {r:R D} {Q:VK} (hn:μ.length=n) (q:z1q Ex K H hid μ (zb7 n r) Q):z1q Ex K H hid μ r Q:=by
 cases r with
 | bad=>exact q
 | exc c O'=>exact q
 | ok d O'=>
  intro v H' μ' x c h
  obtain ⟨ν,rfl⟩:=x.pre
  have q1:z1q Ex K H hid μ (match frz O' n 8 d,z1Q (z1Q (frz O' n 8)) (O'.take n) with|some d',some O2=>.ok d' O2|_,_=>.bad) Q:=q
  cases e1:frz O' n 8 d with
  | none=>rw [e1] at q1;exact ak q1
  | some d'=>
   cases e2:z1Q (z1Q (frz O' n 8)) (O'.take n) with
   | none=>rw [e1,e2] at q1;exact ak q1
   | some O2=>
    rw [e1,e2] at q1
    have xe:Ext H μ H' μ:=⟨⟨[],by simp⟩,x.kept,fun _ m=>.inl m,x.there,x.tab⟩
    have hl:O'.length=(μ ++ ν).length:=c.len.symm
    have c2:l7 K H' hid μ O2:=by
     refine ⟨?_,(dG.mp c.nd).1,fun a m=>c.nh a (cK _ m),c.ht,fun k a e=>?_⟩
     ·rw [z8a e2,dJ,hl,aE,hn];omega
     ·have hk:k < μ.length:=(ao.mp e).1
      obtain ⟨ds,vs,h1,h2,h3⟩:=c.at_ k a (by rw [aL hk];exact e)
      have hk2:k < O2.length:=by rw [z8a e2,dJ,hl,aE,hn];omega
      obtain ⟨ds',g1,g2⟩:=zb8 e2 (aw hk2)
      have:ds'=ds:=by
       rw [fO,if_pos (by omega),h1] at g1
       cases g1;rfl
      subst this
      exact ⟨_,vs,aw hk2,h2,z43 (zfU c hn 8) _ _ vs g2 h3⟩
    exact q1 v H' μ xe c2 (zfU c hn 8 d d' v e1 h)
end
def ziQ (F:List D->Ow->R D):List D->Ow->R D:=fun ds O=>zb7 O.length (F ds O)
def zmg (sc scope:b9) (N':List Str) (sl:List Nat):Bool:=
 (match scope.kind with|.function=>true|_=>false) && decide ((scope.names.map (·.1)).Nodup) && (scope.names.all fun y=>!(y.2 == .free) || sc.names.lookup y.1 == some .cell || sc.names.lookup y.1 == some .free) &&
 (N'.zipIdx.all fun p=>!((scope.names.any fun y=>y.1 == p.1 && y.2 == .local) || (scope.names.any fun y=>y.1 == p.1 && y.2 == .cell)) || sl.contains p.2)
theorem z3Z (h:zmg sc scope N' sl=true):BOk sc scope N' sl:=by
 unfold zmg at h
 simp only [bh,decide_eq_true_eq,aG] at h
 obtain ⟨⟨⟨h1,h2⟩,h3⟩,h4⟩:=h
 refine ⟨?_,h2,fun y hy hf=>?_,fun i x hx hm=>?_⟩
 ·cases e:scope.kind <;> rw [e] at h1 <;> first|rfl|cases h1
 ·have:=h3 y hy
  rw [hf] at this
  simpa using this
 ·have hp:(x,i) ∈ N'.zipIdx:=by
   rw [List.mem_zipIdx_iff_getElem?];exact hx
  have h:=h4 _ hp
  have hany:((scope.names.any fun y=>y.1 == x && y.2 == .local) || (scope.names.any fun y=>y.1 == x && y.2 == .cell))=true:=by
   rw [gN]
   exact hm.imp (fun m=>dM.mpr ⟨_,m,by simp⟩) fun m=>dM.mpr ⟨_,m,by simp⟩
  have h:(!((scope.names.any fun y=>y.1 == x && y.2 == .local) || (scope.names.any fun y=>y.1 == x && y.2 == .cell)) || sl.contains i)=true:=h
  rw [hany] at h
  simpa using h
structure zlo (mg:Str->Option ae) (x:Str) (cs:List Nat):Prop where
 ex:∃ t,mg x=some (.str ⟨cs.toArray⟩ t)
section
variable {X:Cx} {Ex:Nat->Hp->Prop} {pos:Pos} {a b c e:aK} {ta:DE} {pins:List (af × Obj)} {σv:St} {H:Hp} {s:ai} {hid μ:List af} {O:Ow}
theorem zgG (h:zlo X.mg x cs) (hg:Gl X x:=by rfl) (hd:(x == ("__debug__":Str))=false:=by decide):PD X Ex (.Name x pos) (dC (.str cs)):=by
 obtain ⟨t,h⟩:=h.ex
 exact zfF cs hg h rfl hd
def zgI (C C':String) (t:DE):DE:=fun σ O=>(t σ O).bnd fun d O1=>if (z42 d == "function")=true then .bad else .ok (.bl (zc4 (z42 d) C || zc4 (z42 d) C')) O1
theorem zcU:mj X (.builtin "isinstance") (fun xs H Q=>∃ x p C C' hid μ O d,xs=[x,.ref p]/\SqT X.K H p [.ty C,.ty C']/\C ∈ kOk/\C' ∈ kOk/\l7 X.K H hid μ O/\Dat X.K H hid μ d x/\(z42 d == "function")=false/\Q (.bl (zc4 (z42 d) C || zc4 (z42 d) C')) H):=by
 intro pins s σ H xs us Q I r h
 obtain ⟨x,tp,C,C',hid,μ,O,d,rfl,sq,hC,hC',cl,dx,hf,q⟩:=h
 obtain ⟨u,w',rfl,rx,rc⟩:=za5 r
 cases rc
 obtain ⟨T,Hh,Z,p,hx,hk⟩:=z6v I cl dx rx hf
 obtain ⟨its,rv,⟨⟨c1,d1,t1,s1⟩,h1,h2,n,h3⟩,hz⟩:=I.tuple sq
 simp only at h2 h3
 subst h2 h3
 obtain ⟨v1,v2,rfl,r1,r2⟩:=za5 rv
 cases r1;cases r2
 refine wT I (PySem.W.kia_tup (b:=zc4 (z42 d) C || zc4 (z42 d) C') Z I.kIn p h1 ?_ hx fun tk htk=>⟨.bl _,H,I.tok tk,rfl,q⟩)
 unfold lF
 rw [hk _ hC]
 cases zc4 (z42 d) C with
 | true=>rfl
 | false=>
  dsimp only
  unfold lF
  rw [hk _ hC']
  cases zc4 (z42 d) C' <;> rfl
theorem zhM (ha:PD X Ex a ta) (hn:n ∈ kOk) (hn':n' ∈ kOk) (hg:Gl X "isinstance") (hm:X.mg "isinstance" = none) (hv:a8 "isinstance" = some (.builtin "isinstance")) (hgC:Gl X C) (hmC:X.mg C=none) (hvC:a8 C=some (.type n))
  (hgC':Gl X C') (hmC':X.mg C'=none) (hvC':a8 C'=some (.type n')) (hCn:C ≠ "__name__":=by decide) (hCd:(C == ("__debug__":Str))=false:=by decide) (hCn':C' ≠ "__name__":=by decide) (hCd':(C' == ("__debug__":Str))=false:=by decide)
  (he:aD [a,.Tuple [.Name C p',.Name C' p''] kt pt] X.env=(false,eval a X.env) :: aD [.Tuple [.Name C p',.Name C' p''] kt pt] X.env:=by rfl) (he2:aD [.Tuple [.Name C p',.Name C' p''] kt pt] X.env=[(false,eval (.Tuple [.Name C p',.Name C' p''] kt pt) X.env)]:=by rfl)
  (hpl:(backTo pos (aD [.Tuple [.Name C p',.Name C' p''] kt pt] X.env)).any (·.1)=false:=by rfl) (h3:aD [.Name C p',.Name C' p''] X.env=(false,eval (.Name C p') X.env) :: aD [.Name C' p''] X.env:=by rfl) (h4:aD [.Name C' p''] X.env=[(false,eval (.Name C' p'') X.env)]:=by rfl):
  PD X Ex (.Call (.Name "isinstance" p) [a,.Tuple [.Name C p',.Name C' p''] kt pt] [] pos) (zgI n n' ta):=
 z22 (z49 (zcU (X:=X)) hg hm hv (z1P ha.out (z1P (zfR (z1P (z8p (v:=.ty n) hgC hmC hvC rfl hCn hCd) (z1P (z8p (v:=.ty n') hgC' hmC' hvC' rfl hCn' hCd') z3r h4) h3)) z3r he2) he) (by decide) (by decide) he hpl) fun hid μ σ O σv H Q e1 c1 q=>rd.go e1 c1 q fun d O1 v H1 μ1 e2 x cl r p2=>by
  obtain ⟨hf,p2⟩:=post.iteN p2
  exact ⟨by show 2 <= sizeLine;decide,fun l hl=>⟨v,l,n,n',hid,μ1,O1,d,rfl,.of z18,hn,hn',cl.laid hl,r.ext (.laid hl),hf,post.ok p2 (.laid hl) (cl.laid hl) z2m⟩⟩
def zmQ (O:Ow):D->R D
 | .int i=>.ok (.int (-i)) O
 | _=>.bad
def zfc (t:DE):DE:=fun σ O=>(t σ O).bnd fun x O1=>zmQ O1 x
theorem zjH (ha:PD X Ex a ta):PD X Ex (.UnaryOp .USub a pos) (zfc ta):=
 z22 (zlW zkT ha.out) fun hid μ σ O σv H Q e1 c1 q=>rd.go e1 c1 q fun d O1 v H1 μ1 e2 x cl r p=>by
  cases d with
  | int i=>unfold Dat at r;subst r;exact ⟨i,rfl,post.here p cl z1r⟩
  | _=>exact ak p
def fIn:Ow->D->D->R D:=fun O x y=>match y with
 | .str _=>zl8 O x y
 | _=>fPy inF O x y
def zbY:Ow->D->D->R D:=fun O x y=>match y with
 | .str _=>match zl8 O x y with
  | .ok (.bl b) O1=>.ok (.bl (!b)) O1
  | _=>.bad
 | _=>fPy ziS O x y
theorem zfY (hu:X.A.units + 64 < cLine):OpR X (b0 .In) (fun x y H Q=>rPy X.K inF x y H Q \/ ∃ i j,x=.str i/\y=.str j/\Q (.bl (!(bR j i 0 j.length 1).isEmpty)) H):=OpR.or (zgy hu) zdZ
theorem zfW:OpD X Ex (fun x y H Q=>rPy X.K inF x y H Q \/ ∃ i j,x=.str i/\y=.str j/\Q (.bl (!(bR j i 0 j.length 1).isEmpty)) H) fIn:=by
 intro H hid μ O x y v w Q c dx dy q
 unfold fIn at q
 split at q
 ·exact .inr (zi6 H hid μ O _ _ v w Q c dx dy q)
 ·exact .inl (z5y H hid μ O x y v w Q c dx dy q)
theorem zds (hu:X.A.units + 64 < cLine):OpR X (b0 .NotIn) (fun x y H Q=>rPy X.K ziS x y H Q \/ ∃ i j,x=.str i/\y=.str j/\Q (.bl (!(!(bR j i 0 j.length 1).isEmpty))) H):=OpR.or (zeR hu) z8V
theorem zdQ:OpD X Ex (fun x y H Q=>rPy X.K ziS x y H Q \/ ∃ i j,x=.str i/\y=.str j/\Q (.bl (!(!(bR j i 0 j.length 1).isEmpty))) H) zbY:=by
 intro H hid μ O x y v w Q c dx dy q
 unfold zbY at q
 split at q
 ·rename_i cs
  cases x with
  | str i=>
   unfold Dat at dx dy;subst dx;subst dy
   refine .inr ⟨_,_,rfl,rfl,post.here (d:=D.bl (!(!(bR ⟨cs.toArray⟩ ⟨i.toArray⟩ 0 cs.length 1).isEmpty))) q c ?_⟩
   have e:(⟨cs.toArray⟩:Str).length=cs.length:=by show cs.toArray.size=_;simp
   rw [e];exact z2m
  | _=>exact ak q
 ·exact .inl (z5y H hid μ O x y v w Q c dx dy q)
end
section
variable {X:Cx} {pins:List (af × Obj)} {σv:St} {H:Hp} {s:ai}
theorem Inv.turns (ch:List af) (I:L2.Inv X pins σv H s) (k:∀ b o,b ∉ ch->s.heap.get? b=some o->h'.get? b=some o) (hf:∀ b ∈ ch,z8u X pins H b) (ht:0 < t':=by first|assumption|exact Inv.tk ‹_›):L2.Inv X pins σv H { s with heap:=h',toks:=t' }:=by
 have nit:∀ b u,H b=some u->b ∉ ch:=fun b u e z=>by rw [(hf b z).1] at e;cases e
 have un:Un (frs X.stack) ch H H s.heap h':=⟨fun b o e _ _ n=>k b o n e,fun b o e _ _ n=>⟨o.slots,k b o n e⟩,fun _ _ _ n _=>n,fun b o e n=>⟨o,k b o n e⟩,fun _ _ e=>e,fun _ _ _ e=>e,fun b ps e=>⟨#[],by rw [e];simp⟩⟩
 have hok:HOk X.prog X.w H h':=fun b u e=>(I.hok b u e).stay (fun c v hc q=>k c v (by
  rcases hc with z|z
  ·rw [z];exact nit b u e
  ·exact nit c _ z) q) (fun _ q=>q) fun _ _ q=>q
 exact I.call (t':=t') (d':=s.drawn) un hok I.bare fun b hb=>let ⟨_,f1,_,f3,f4,f5⟩:=hf b hb;⟨f3,f1,f4,f5⟩
end
def Itz (K:aj) (l m:af):It:=
 ⟨fun i H=>∃ xs ys x y,SqL K H l xs/\SqL K H m ys/\xs[i]?=some x/\ys[i]?=some y,
   fun i H v H'=>∃ p x y,H p=none/\v=.ref p/\(∀ xs,SqL K H l xs->xs[i]?=some x)/\(∀ ys,SqL K H m ys->ys[i]?=some y)/\H'=upd H p (.tup [x,y]),
   fun i H=>∃ xs ys,SqL K H l xs/\SqL K H m ys/\(xs.length <= i \/ ys.length <= i)⟩
def mD (K:aj) (src:Src) (a:af) (H:Hp) (hid μ:List af):Prop:=∀ hid' H' μ' O',Mv H hid μ H' hid' μ'->l7 K H' hid' μ' O'->∃ ds vs,SqL K H' a vs/\l8 K H' hid' μ' ds vs/\∀ i,src.get O' i=ds[i]?
section
variable {K:aj} {H:Hp} {hid μ:List af}
theorem mD.own (hk:μ[k]?=some a):mD K (.own k) a H hid μ:=by
 intro hid' H' μ' O' m c
 obtain ⟨ν,rfl⟩:=m.pre
 have hk':(μ ++ ν)[k]?=some a:=by rw [aL (ao.mp hk).1];exact hk
 obtain ⟨ds,vs,h1,h2,h3⟩:=c.at_ k a hk'
 exact ⟨ds,vs,.of h2,h3,fun i=>by show (match O'[k]? with|some ds=>ds[i]?|none=>none)=_;rw [h1]⟩
theorem mD.mv (h:mD K src a H hid μ) (e:Mv H hid μ H1 hid1 μ1):mD K src a H1 hid1 μ1:=fun hid' H' μ' O' m c=>h hid' H' μ' O' (e.trans m) c
theorem mf.zip (h1:mD K s1 a H hid μ) (h2:mD K s2 b H hid μ):mf K (Itz K a b) (.zip s1 s2) H hid μ:=by
 intro hid' H' μ' O' m c i
 obtain ⟨ds,vs,q1,d1,g1⟩:=h1 hid' H' μ' O' m c
 obtain ⟨es,ws,q2,d2,g2⟩:=h2 hid' H' μ' O' m c
 show match (match s1.get O' i,s2.get O' i with|some x,some y=>some (D.tup [x,y])|_,_=>none) with|some d=>_|none=>_
 rw [g1,g2]
 cases e1:ds[i]? with
 | none=>
  dsimp only
  exact ⟨vs,ws,q1,q2,.inl (by rw [<- d1.length];exact aQ.mp e1)⟩
 | some x=>
  cases e2:es[i]? with
  | none=>
   dsimp only
   exact ⟨vs,ws,q1,q2,.inr (by rw [<- d2.length];exact aQ.mp e2)⟩
  | some y=>
   dsimp only
   obtain ⟨v,w1,r1⟩:=d1.get e1
   obtain ⟨w,w2,r2⟩:=d2.get e2
   refine ⟨⟨vs,ws,v,w,q1,q2,w1,w2⟩,fun z H'' yl=>?_⟩
   obtain ⟨p,v',w',hp,rfl,f1,f2,rfl⟩:=yl
   have t1:=f1 vs q1
   rw [w1] at t1;cases t1
   have t2:=f2 ws q2
   rw [w2] at t2;cases t2
   exact ⟨.laid hp,c.laid hp,Dat.newT c hp (.cons r1 (.cons r2 .nil))⟩
end
def zeB:D->Option Src
 | .lst ds=>some (.val ds)
 | .own k=>some (.own k)
 | _=>none
def zn7 (t:DA):DI:=fun σ O=>(t σ O).bnd fun xs O1=>match xs with
 | [x,y]=>match zeB x,zeB y with
  | some p,some q=>.ok (.zip p q) O1
  | _,_=>.bad
 | _=>.bad
section
variable {X:Cx} {Ex:Nat->Hp->Prop} {c:aK} {pins:List (af × Obj)} {H:Hp} {s:ai} {hid μ:List af} {O:Ow}
theorem zfM:a8 "zip" = some (.type "zip"):=by boot_by_name
theorem zkz {i j:Nat} {x y:Str} {px py pt:Pos} {kt:Nat} (hc:X.calm=true) (hN:X.N.Nodup) (hi:X.N[i]?=some x) (hj:X.N[j]?=some y) (hx:Loc X.env.scope x) (hy:Loc X.env.scope y)
  (hf:X.fn x=true \/ X.env.scope.names.lookup x=some .local) (hf2:X.fn y=true \/ X.env.scope.names.lookup y=some .local):PG X (.Tuple [.Name x px,.Name y py] kt pt) ((Tg.two i j).rd X.K):=
 zjb hc (zaL (z84 hN hi hx hf) (zaL (z84 hN hj hy hf2) zhz))
def z7K:Ow->List D->R D:=fun O xs=>match xs with
 | [.str cs]=>match jC ⟨cs.toArray⟩ with
  | some n=>if cs.length <= 640 then .ok (.int n) O else .bad
  | none=>.bad
 | xs=>zma O xs
theorem zdB:mj X (.type "int") (fun xs H Q=>∃ x n,xs=[.str x]/\jC x=some n/\x.length <= 640/\Q (.int n) H):=by
 intro pins s σ H xs us Q I r h
 obtain ⟨x,n,rfl,hn,hl,q⟩:=h
 obtain ⟨u,rfl,t,rfl⟩:=z4R r
 exact PySem.W.KIN.call_text hn hl ⟨.int _,H,I.tok _,⟨_,rfl⟩,q⟩
def zjz:List V->Hp->VK->Prop:=fun xs H Q=>((∃ i,xs=[.int i]/\Q (.int i) H) \/ ∃ k,xs=[.bl k]/\Q (.int (if k then 1 else 0)) H) \/ ∃ x n,xs=[.str x]/\jC x=some n/\x.length <= 640/\Q (.int n) H
theorem zcj:mj X (.type "int") zjz:=mj.or zdk zdB
theorem zhB:z4P X Ex zjz z7K:=by
 intro H hid μ O xs vs Q c d q
 unfold z7K at q
 split at q
 ·rename_i cs
  obtain ⟨v,rfl,dx⟩:=z3S d
  unfold Dat at dx;subst dx
  split at q
  ·rename_i n hn
   obtain ⟨hl,q⟩:=post.ite q
   refine .inr ⟨_,n,rfl,hn,?_,post.here q c z1r⟩
   show cs.toArray.size <= 640
   simpa using hl
  ·exact ak q
 ·exact .inl (zkF H hid μ O _ vs Q c d q)
end
section
variable {X:Cx} {Ex:Nat->Hp->Prop} {pos dpos:Pos} {e o i:aK} {ti:DE} {pins:List (af × Obj)} {σv:St} {H:Hp} {s:ai} {hid μ:List af} {O:Ow}
theorem zeQ:PDS X Ex (.Pass pos) z2j:=z56 zik fun hid μ σ O E σv H e1 c1 q=>q σv H μ .refl e1 c1
def zkB:DE:=fun _ O=>.ok .dct O
theorem zkh:PD X Ex (.Dict [] [] pos) zkB:=
 z22 zeZ fun hid μ σ O σv H Q e1 c1 q=>fun p hp=>post.ok q (.laid hp) (c1.laid hp) (by
  unfold Dat
  exact ⟨p,rfl,.inl z18,c1.not_in hp⟩)
def zhG (tab:List (Int × Int)):List (Key × V):=tab.map fun kv=>(fD kv.1,V.int kv.2)
def z3L (tab:List (Int × Int)) (i:Int):Option Int:=(tab.find? fun kv=>kv.1 == i).map (·.2)
def zjy (tab:List (Int × Int)) (i:Int):Option Int:=match za4 (z4E [] (zhG tab)) (fD i) with
 | some (.int v)=>some v
 | _=>none
def zjD (at_:List (Int × Int)->Int->Option Int) (tab:List (Int × Int)) (t:DE):DE:=fun σ O=>(t σ O).bnd fun x O1=>match x with
 | .int i=>match at_ tab i with
  | some v=>.ok (.int v) O1
  | none=>.bad
 | _=>.bad
def zkP:List (Int × Int)->DE->DE:=zjD zjy
def zjF:List (Int × Int)->DE->DE:=zjD z3L
theorem z5A:∀ {tab:List (Int × Int)},Q (tab.map fun kv=>(V.int kv.1,V.int kv.2)) H->z8y (tab.map fun kv=>(tC (.int kv.1),tC (.int kv.2))) σ H Q
 | [],h=>h
 | kv :: r,h=>by
  show z8y (r.map fun kv=>(tC (.int kv.1),tC (.int kv.2))) σ H fun ps H3=>Q ((V.int kv.1,V.int kv.2) :: ps) H3
  exact z5A (tab:=r) h
theorem zjE (tab:List (Int × Int)) (h:PPs X dpos keys values trs) (htr:trs=tab.map fun kv=>(tC (.int kv.1),tC (.int kv.2))) (hall:keys.all (·.isSome)=true) (hl:keys.length=values.length) (h0:keys ≠ []) (h15:keys.length <= 15) (h15':tab.length <= 15)
  (hu:X.A.units + 1 < cLine) (hi:PD X Ex i ti) (hs:zlk i):PD X Ex (.Subscript (.Dict keys values dpos) i pos) (zkP tab ti):=
 z22 (ziN hu (ziJ h hall hl h0 h15) hi.out hs) fun hid μ σ O σv H Q e1 c1 q=>fun p hp=>by
  subst htr
  refine z5A ⟨z18,zhG tab,by simp [zhG,kV],by simpa [zhG] using h15',?_⟩
  rw [zhu]
  have x0:Ext H μ (upd H p (.dK (z4E [] (zhG tab)))) μ:=.laid hp
  refine rd.go (e1.ext x0) (c1.laid hp) (post.ext q x0) fun d O1 v H1 μ1 e2 x1 c2 r p2=>?_
  cases d with
  | int j=>
   unfold Dat at r;subst r
   have p2:z1q Ex X.K H1 hid μ1 (match zjy tab j with|some v=>.ok (.int v) O1|none=>.bad) Q:=p2
   cases et:zjy tab j with
   | none=>rw [et] at p2;exact ak p2
   | some v=>
    rw [et] at p2
    have hv:za4 (z4E [] (zhG tab)) (fD j)=some (.int v):=by
     unfold zjy at et
     split at et
     ·rename_i w hw;cases et;exact hw
     ·cases et
    refine ⟨p,.int v,rfl,.inl ⟨z4E [] (zhG tab),fD j,.inl (x1.keep p _ z18 (c1.not_in hp).2),rfl,hv.symm⟩,post.here p2 c2 z1r⟩
  | _=>exact ak p2
def zlg:List DictEntry->List (Int × Int)->Bool
 | [],[]=>true
 | e :: es,(k,v) :: r=>(match e.key with|.int i _=>i == k|_=>false) && (e.hash == hashInt k) && (match e.val with|.int i _=>i == v|_=>false) && zlg es r
 | _,_=>false
def zlj (o:Obj) (tab:List (Int × Int)):Bool:=(match o.cls with|.type n=>n == "dict"|_=>false) && o.dict.isNone && o.slots.isEmpty && decide ((tab.map (·.1)).Nodup) && (match o.data with|.dict es _=>zlg es.toList tab|_=>false)
structure zhF (K:aj) (mg:Str->Option ae) (x:Str) (tab:List (Int × Int)):Prop where
 ex:∃ e o,mg x=some (.ref e)/\K.lookup e=some o/\zlj o tab=true/\(e == sysModules)=false
theorem z7C:∀ {es:List DictEntry} {tab:List (Int × Int)},zlg es tab=true->∃ kvs:List (Int × ae),Pairs (intKind P w) es kvs/\(∀ e ∈ es,∃ k,(intKind P w).is k e.key=true/\e.hash=(intKind P w).hash k)/\kvs.map (·.1)=tab.map (·.1)/\
  ∀ i,(valueAt kvs i).isSome=(z3L tab i).isSome/\∀ v,z3L tab i=some v->∃ t,valueAt kvs i=some (.int v t)
 | [],[],_=>⟨[],.nil,by simp,rfl,fun i=>⟨rfl,fun v h=>by cases h⟩⟩
 | [],_ :: _,h=>by cases h
 | _ :: _,[],h=>by cases h
 | e :: es,(k,v) :: r,h=>by
  obtain ⟨hash,key,val⟩:=e
  unfold zlg at h
  simp only [bh] at h
  obtain ⟨⟨⟨h1,h2⟩,h3⟩,h4⟩:=h
  split at h1
  ·rename_i i t
   split at h3
   ·rename_i j u
    have h1:i=k:=by simpa using h1
    have h2:hash=hashInt k:=by simpa using h2
    have h3:j=v:=by simpa using h3
    subst h1 h3
    obtain ⟨kvs,p,ks,em,at_⟩:=z7C (P:=P) (w:=w) h4
    have isk:(intKind P w).is i (.int i t)=true:=by show gd i (.int i t)=true;simp [gd]
    refine ⟨(i,.int j u) :: kvs,.cons isk rfl p,fun e he=>?_,by simp [em],fun q=>?_⟩
    ·rcases av.mp he with rfl|he
     ·exact ⟨i,isk,h2⟩
     ·exact ks e he
    ·unfold valueAt z3L
     by_cases hq:i=q
     ·subst hq
      simp
     ·have f1:(decide ((i,ko j u).1=q))=false:=by simpa using hq
      have f2:((i,j).1 == q)=false:=by simpa using hq
      rw [dD,dD,f1,f2]
      exact at_ q
   ·cases h3
  ·cases h1
theorem zf0 {P:aJ} {w:aR} {o:Obj} {tab:List (Int × Int)} (h:zlj o tab=true):∃ f:Int->Option ae,(∀ (hp:aP) (e:af),hp.get? e=some o->hp.MapOf (intKind P w) e f)/\∀ i,(f i).isSome=(z3L tab i).isSome/\∀ v,z3L tab i=some v->∃ t,f i=some (.int v t):=by
 obtain ⟨cls,dict,data,slots⟩:=o
 unfold zlj at h
 simp only [bh,decide_eq_true_eq] at h
 obtain ⟨⟨⟨⟨h1,h2⟩,h3⟩,h4⟩,h5⟩:=h
 split at h1
 ·rename_i n
  have h1:n = "dict":=by simpa using h1
  split at h5
  ·rename_i es ep
   obtain ⟨kvs,p,ks,em,at_⟩:=z7C (P:=P) (w:=w) h5
   refine ⟨valueAt kvs,fun hp e he=>?_,at_⟩
   refine Heap.DictOf.mapOf (knd:=intKind P w) ⟨_,es,ep,he,⟨?_,?_,?_⟩,rfl,?_,p,by rw [em];exact h4⟩
   ·show iN n=_;rw [h1]
   ·simpa using h2
   ·simpa using h3
   ·intro e he
    exact ks e (by simpa using he)
  ·cases h5
 ·cases h1
theorem zdL (h:zhF X.K X.mg x tab):∃ e,X.mg x=some (.ref e)/\(e == sysModules)=false/\∃ f:Int->Option ae,(∀ (pins:List (af × Obj)) (σv:St) (H:Hp) (s:ai),L2.Inv X pins σv H s->s.heap.MapOf (intKind X.prog X.w) e f)/\
  ∀ i,(f i).isSome=(z3L tab i).isSome/\∀ v,z3L tab i=some v->∃ t,f i=some (.int v t):=by
 obtain ⟨e,o,h1,h2,h3,h4⟩:=h.ex
 obtain ⟨f,m,at_⟩:=zf0 (P:=X.prog) (w:=X.w) h3
 exact ⟨e,h1,h4,f,fun pins σv H s I=>m _ e (I.kIn e o h2),at_⟩
theorem z5d (i:Int) (t:Tok):(intKind P w).is i (.int i t)=true:=by show gd i (.int i t)=true;simp [gd]
theorem ziA (h:zhF X.K X.mg x tab) (hg:Gl X x) (hi:PD X Ex i ti) (hs:zlk i) (hd:(x == ("__debug__":Str))=false:=by decide):PD X Ex (.Subscript (.Name x p) i pos) (zjF tab ti):=by
 obtain ⟨e,h1,h4,f,mp,at_⟩:=zdL h
 refine ⟨?_⟩
 rintro pins s σv H Q I ⟨hid,μ,σ,O,e1,c1,q⟩
 refine zdS (T := "dict") iP.lookup hs (z6L (v:=.ref e) hg h1 rfl hd pins s σv H (fun v H1=>v=.ref e/\H1=H) I ⟨rfl,rfl⟩ |> fun z=>thn z fun u s1 ⟨v,H1,I1,ru,ev,eh⟩=>?_)
 subst ev eh
 cases ru
 refine thn (hi.out pins s1 σv H1 _ I1 (rd.go e1 c1 q (Q1:=fun y H2=>∃ hid μ2 O2 d,l7 X.K H2 hid μ2 O2/\Dat X.K H2 hid μ2 d y/\z1q Ex X.K H2 hid μ2 (match d with|.int i=>(match z3L tab i with|some v=>.ok (.int v) O2|none=>.bad)|_=>.bad) Q)
  fun d O2 y H2 μ2 e2 x2 c2 r p2=>⟨hid,μ2,O2,d,c2,r,p2⟩)) fun u s2 ⟨y,H2,I2,ru,hid,μ2,O2,d,c2,r,p2⟩=>?_
 have M:=mp pins σv H2 s2 I2
 cases d with
 | int j=>
  unfold Dat at r;subst r
  obtain ⟨t,rfl⟩:=ru
  have p2:z1q Ex X.K H2 hid μ2 (match z3L tab j with|some v=>.ok (.int v) O2|none=>.bad) Q:=p2
  cases et:z3L tab j with
  | none=>rw [et] at p2;exact ak p2
  | some v=>
   rw [et] at p2
   obtain ⟨t',ht⟩:=(at_ j).2 v et
   exact ⟨M.typeIs,wpAny_getItem_of (z5d j t) M ht ⟨.int v,H2,I2.tok _,⟨_,rfl⟩,post.here p2 c2 z1r⟩⟩
 | _=>exact ak p2
def z4N (neg:Bool) (tab:List (Int × Int)) (t:DE):DE:=fun σ O=>(t σ O).bnd fun x O1=>match x with
 | .int i=>.ok (.bl (if neg=true then !(z3L tab i).isSome else (z3L tab i).isSome)) O1
 | _=>.bad
theorem zb4 (neg:Bool) (h:zhF X.K X.mg x tab) (hg:Gl X x) (hi:PD X Ex i ti) (hd:(x == ("__debug__":Str))=false:=by decide):PC X (if neg=true then .NotIn else .In) i (.Name x p) (rd Ex X.K (z4N neg tab ti)):=by
 obtain ⟨e,h1,h4,f,mp,at_⟩:=zdL h
 rintro pins s σv H Q I ⟨hid,μ,σ,O,e1,c1,q⟩
 refine thn (hi.out pins s σv H _ I (rd.go e1 c1 q (Q1:=fun y H2=>∃ hid μ2 O2 d,l7 X.K H2 hid μ2 O2/\Dat X.K H2 hid μ2 d y/\z1q Ex X.K H2 hid μ2 (match d with|.int i=>.ok (.bl (if neg=true then !(z3L tab i).isSome else (z3L tab i).isSome)) O2|_=>.bad) Q)
  fun d O2 y H2 μ2 e2 x2 c2 r p2=>⟨hid,μ2,O2,d,c2,r,p2⟩)) fun u s2 ⟨y,H2,I2,ru,hid,μ2,O2,d,c2,r,p2⟩=>?_
 refine thn (z6L (v:=.ref e) hg h1 rfl hd pins s2 σv H2 (fun v H1=>v=.ref e/\H1=H2) I2 ⟨rfl,rfl⟩) fun w s3 ⟨v,H3,I3,rw',ev,eh⟩=>?_
 subst ev eh
 cases rw'
 have M:=mp pins σv H3 s3 I3
 cases d with
 | int j=>
  unfold Dat at r;subst r
  obtain ⟨t,rfl⟩:=ru
  have p2:z1q Ex X.K H3 hid μ2 (.ok (.bl (if neg=true then !(z3L tab j).isSome else (z3L tab j).isSome)) O2) Q:=p2
  rw [<- (at_ j).1] at p2
  cases neg with
  | false=>exact wpAny_in_of (z5d j t) h4 M ⟨.bl _,H3,I3.tok _,rfl,post.here p2 c2 z2m⟩
  | true=>exact wpAny_notIn_of (z5d j t) h4 M ⟨.bl _,H3,I3.tok _,rfl,post.here p2 c2 z2m⟩
 | _=>exact ak p2
theorem zej (h:zhF X.K X.mg x tab) (hg:Gl X x) (hi:PD X Ex i ti) (hd:(x == ("__debug__":Str))=false:=by decide) (hm:behindInMarks .NotIn (.Name x p)=false:=by rfl):PD X Ex (.Compare i [.NotIn] [.Name x p] pos) (z4N true tab ti):=⟨zkg (zb4 true h hg hi hd) hm⟩
theorem zlB (e1:l9 X.K H hid μ σ σv) (c1:l7 X.K H hid μ O) (q:z5J Ex X.K H hid μ (z1W td σ O) Q):tB (rd Ex X.K td) σv H Q:=
 zaX (X:=X) (t:=rd Ex X.K td) (td:=td) (fun hid μ σ O σv H Q e1 c1 q=>⟨hid,μ,σ,O,e1,c1,q⟩) hid μ σ O σv H Q e1 c1 q
theorem zbP (h:zhF X.K X.mg x tab) (hg:Gl X x) (hi:PD X Ex i ti) (hd:(x == ("__debug__":Str))=false:=by decide) (hm:behindInMarks .NotIn (.Name x p)=false:=by rfl):PDT X Ex (.Compare i [.NotIn] [.Name x p] pos) (z1W (z4N true tab ti)):=
 zbc (zl4 (zb4 true h hg hi hd) hm) fun hid μ σ O σv H Q e1 c1 q=>zlB e1 c1 q
end
end DL
namespace DL
open PySem L2 PyProof.Rows
def zcC:List D->Option (List (List Nat))
 | []=>some []
 | .str cs :: r=>(zcC r).map (cs :: ·)
 | _=>none
section
variable {H:Hp} {hid μ:List af}
theorem z9Q {K:aj}:∀ {ds:List D} {vs:List V} {ss:List (List Nat)},l8 K H hid μ ds vs->zcC ds=some ss->vs=ss.map fun cs=>V.str ⟨cs.toArray⟩
 | [],vs,ys,h,e=>by unfold l8 at h;subst h;cases e;rfl
 | d :: ds,vs,ys,h,e=>by
  unfold l8 at h
  obtain ⟨v,r,rfl,h1,h2⟩:=h
  cases d with
  | str cs=>
   unfold zcC at e
   cases q:zcC ds with
   | none=>rw [q] at e;cases e
   | some zs=>
    rw [q] at e;cases e
    unfold Dat at h1;subst h1
    rw [z9Q h2 q];rfl
  | _=>cases e
theorem zjI:a8 "len" = some (.builtin "len"):=by boot_by_name
theorem zji:a8 "all" = some (.builtin "all"):=by boot_by_name
theorem zj4:a8 "any" = some (.builtin "any"):=by boot_by_name
theorem zgk:a8 "int" = some (.type "int"):=by boot_by_name
theorem zgu:a8 "str" = some (.type "str"):=by boot_by_name
theorem z7N:a8 "tuple" = some (.type "tuple"):=by boot_by_name
theorem zak:a8 "list" = some (.type "list"):=by boot_by_name
theorem zkS:a8 "max" = some (.builtin "max"):=by boot_by_name
theorem zkH:a8 "min" = some (.builtin "min"):=by boot_by_name
theorem z8E:a8 "sorted" = some (.builtin "sorted"):=by boot_by_name
theorem z19:a8 "isinstance" = some (.builtin "isinstance"):=by boot_by_name
theorem ziP:a8 "bool" = some (.type "bool"):=by boot_by_name
end
end DL
namespace DL
theorem zgD {α:Type} (pre ds:List α) (d:α):(pre ++ d :: ds)[pre.length]?=some d:=by simp
theorem z8w:∀ (ds pre acc:List D) (f:Nat),ds.length <= f->(∀ d ∈ ds,∀ acc:List D,acc.length < 100000->step d O acc=.ok (acc ++ g d) O)->acc.length + (ds.flatMap g).length + ds.length < 100000->
  z1p (.val (pre ++ ds)) step f pre.length O acc=.ok (acc ++ ds.flatMap g) O
 | [],pre,acc,f,_,_,_=>by
  cases f <;> (unfold z1p;simp [Src.get])
 | d :: ds,pre,acc,0,h,_,_=>by simp at h
 | d :: ds,pre,acc,f + 1,h,hs,hl=>by
  unfold z1p
  have e:Src.get (.val (pre ++ d :: ds)) O pre.length=some d:=zgD pre ds d
  rw [e]
  simp only [cn,aE,bX] at hl
  show ((step d O acc).bnd fun acc' O'=>z1p (.val (pre ++ d :: ds)) step f (pre.length + 1) O' acc')=_
  rw [hs d aH acc (by omega)]
  show z1p (.val (pre ++ d :: ds)) step f (pre.length + 1) O (acc ++ g d)=_
  have:=z8w ds (pre ++ [d]) (acc ++ g d) f (by simpa using h) (fun d' h'=>hs d' (au _ h')) (by rw [aE];omega)
  rw [f8,List.singleton_append,aE,d7] at this
  rw [this];simp
theorem z9i (hi:it0 σ O=.ok (.val ds) O) (hl:ds.length < 50000)
  (hp:∀ d ∈ ds,z7r ts ((clr (clr (σ ++ aq ext none) [i]) [i]).set i (some d)) O=.ok (p d) O) (he:∀ d ∈ ds,p d=true->te ((clr (clr (σ ++ aq ext none) [i]) [i]).set i (some d)) O=.ok (e d) O) (o:Bool):
  z1i o ext it0 (.one i) ts [] te σ O=z8L o (.ok ((ds.filter p).map e) O):=by
 unfold z1i z3M
 rw [hi]
 show z8L o (noX (z1p (.val ds) _ ds.length 0 O []))=_
 have step:∀ d ∈ ds,∀ acc:List D,acc.length < 100000->z4B ⟨it0,.one i,ts⟩ [] te (clr (σ ++ aq ext none) (z12 [⟨it0,.one i,ts⟩])) d O acc=.ok (acc ++ (if p d=true then [e d] else [])) O:=by
  intro d hd acc ha
  show (match Tg.put (.one i) d (clr (clr (σ ++ aq ext none) [i]) [i]) with|some σ1=>(z7r ts σ1 O).bnd fun b O3=>if b=true then z3a [] te σ1 O3 acc else .ok acc O3|none=>.bad)=_
  show (z7r ts ((clr (clr (σ ++ aq ext none) [i]) [i]).set i (some d)) O).bnd _=_
  rw [hp d hd]
  show (if p d=true then z3a [] te _ O acc else .ok acc O)=_
  by_cases hpd:p d=true
  ·rw [if_pos hpd,if_pos hpd]
   unfold z3a
   rw [he d hd hpd]
   show (if acc.length < 100000 then _ else _)=_
   rw [if_pos ha]
  ·rw [if_neg hpd,if_neg hpd];simp
 have hb:∀ l:List D,(l.flatMap fun d=>if p d=true then [e d] else [])=(l.filter p).map e:=by
  intro l
  induction l with
  | nil=>rfl
  | cons x l ih=>
   rw [cn,ih,i3]
   by_cases hx:p x=true
   ·rw [if_pos hx,if_pos hx];rfl
   ·rw [if_neg hx,if_neg hx];rfl
 have hlen:((ds.filter p).map e).length <= ds.length:=by rw [az];exact cm _ _
 have w:=z8w (O:=O) (g:=fun d=>if p d=true then [e d] else []) ds [] [] ds.length (aB _) step (by rw [hb];simp at hlen ⊢;omega)
 rw [cG,hb,cG] at w
 have w':z1p (.val ds) (z4B ⟨it0,.one i,ts⟩ [] te (clr (σ ++ aq ext none) (z12 [⟨it0,.one i,ts⟩]))) ds.length 0 O []=.ok ((ds.filter p).map e) O:=w
 rw [w'];rfl
theorem z9o (I:Nat->Sg->Ow->Prop) (h:∀ i σ O d,I i σ O->ds[i]?=some d->∃ σ' O',step d σ O=.nx σ' O'/\I (i + 1) σ' O'):
  ∀ (f i:Nat) (σ:Sg) (O:Ow),I i σ O->ds.length <= i + f->i <= ds.length->∃ σ' O',z3l (.val ds) step f i σ O=.nx σ' O'/\I ds.length σ' O'
 | 0,i,σ,O,hI,h1,h2=>by
  have:i=ds.length:=by omega
  subst this
  refine ⟨σ,O,?_,hI⟩
  unfold z3l
  have e:Src.get (.val ds) O ds.length=none:=by simp [Src.get]
  rw [e]
 | f + 1,i,σ,O,hI,h1,h2=>by
  unfold z3l
  have eg:Src.get (.val ds) O i=ds[i]?:=rfl
  rw [eg]
  cases e:ds[i]? with
  | none=>
   have:i=ds.length:=by have:=aQ.mp e;omega
   subst this
   exact ⟨σ,O,rfl,hI⟩
  | some d=>
   obtain ⟨σ',O',e1,e2⟩:=h i σ O d hI e
   dsimp only
   rw [e1]
   exact z9o I h f (i + 1) σ' O' e2 (by omega) (by have:=(ao.mp e).1;omega)
theorem z9G (I:Nat->Ow->List D->Prop) (h:∀ i O acc d,I i O acc->ds[i]?=some d->∃ acc' O',step d O acc=.ok acc' O'/\I (i + 1) O' acc'):
  ∀ (f i:Nat) (O:Ow) (acc:List D),I i O acc->ds.length <= i + f->i <= ds.length->∃ acc' O',z1p (.val ds) step f i O acc=.ok acc' O'/\I ds.length O' acc'
 | 0,i,O,acc,hI,h1,h2=>by
  have:i=ds.length:=by omega
  subst this
  refine ⟨acc,O,?_,hI⟩
  unfold z1p
  have e:Src.get (.val ds) O ds.length=none:=by simp [Src.get]
  rw [e]
 | f + 1,i,O,acc,hI,h1,h2=>by
  unfold z1p
  have eg:Src.get (.val ds) O i=ds[i]?:=rfl
  rw [eg]
  cases e:ds[i]? with
  | none=>
   have:i=ds.length:=by have:=aQ.mp e;omega
   subst this
   exact ⟨acc,O,rfl,hI⟩
  | some d=>
   obtain ⟨acc',O',e1,e2⟩:=h i O acc d hI e
   dsimp only
   rw [e1]
   exact z9G I h f (i + 1) O' acc' e2 (by omega) (by have:=(ao.mp e).1;omega)
def z4g (n:Nat):D->Bool
 | .own k=>decide (k < n)
 | .lst _=>false
 | .tup _=>false
 | .map _ _=>false
 | _=>true
def z4z (O:Ow):Prop:=∀ c ∈ O,∀ d ∈ c,z4g O.length d=true
theorem z3I (h:z4g n d=true):frz O n f d=some d:=by
 cases d with
 | own k=>
  have h:k < n:=by simpa [z4g] using h
  cases f <;> (unfold frz;dsimp only;rw [if_pos h])
 | lst ds=>cases h
 | tup ds=>cases h
 | map _ _=>cases h
 | _=>cases f <;> rfl
theorem z2w {α:Type} {f:α->Option α}:∀ {l:List α},(∀ x ∈ l,f x=some x)->z1Q f l=some l
 | [],_=>rfl
 | x :: l,h=>by
  unfold z1Q
  rw [h x aH,z2w fun y hy=>h y (au _ hy)]
theorem z6B {O':Ow} {d:D} {cs:List D} (hO:∀ c ∈ O',∀ d ∈ c,z4g O'.length d=true) (X:Ow) (h:frz (O' ++ X) O'.length 8 d=some (.lst cs)):zb7 O'.length (.ok d (O' ++ X))=.ok (.lst cs) O':=by
 unfold zb7
 dsimp only
 rw [h]
 have:(O' ++ X).take O'.length=O':=by simp
 rw [this,z2w fun c hc=>z2w fun d hd=>z3I (hO c hc d hd)]
section
variable {σ σ':Sg} {O O1 O2:Ow} {t u ta tb:DE} {tA:DA} {x y:D} {b:Bool} {ds:List D}
theorem z10 (h:t σ O=.ok x O1):z0T t z0X σ O=.ok [x] O1:=by show ((t σ O).bnd _)=_;rw [h];rfl
theorem z1a (h1:t σ O=.ok x O1) (h2:u σ O1=.ok y O2):z0T t (z0T u z0X) σ O=.ok [x,y] O2:=by
 show ((t σ O).bnd _)=_
 rw [h1]
 show ((z0T u z0X σ O1).bnd _)=_
 rw [z10 h2];rfl
theorem z1T (h1:t σ O=.ok x O1) (h2:tA σ O1=.ok ds O2):z0T t tA σ O=.ok (x :: ds) O2:=by
 show ((t σ O).bnd _)=_
 rw [h1]
 show ((tA σ O1).bnd _)=_
 rw [h2];rfl
theorem z6y (h:tA σ O=.ok ds O1) (hn:ds.length=n):dFn n F tA σ O=F ds O1:=by show ((tA σ O).bnd _)=_;rw [h];show (if ds.length=n then _ else _)=_;rw [if_pos hn]
theorem z2c (h:tA σ O=.ok ds O1):z17 f tA σ O=f O1 ds:=by show ((tA σ O).bnd _)=_;rw [h];rfl
theorem z1g (h1:ta σ O=.ok x O1) (h2:tb σ O1=.ok y O2):dOp f ta tb σ O=f O2 x y:=by
 show ((ta σ O).bnd _)=_
 rw [h1]
 show ((tb σ O1).bnd _)=_
 rw [h2];rfl
theorem z1s (h:t σ O=.ok (.bl b) O1):z1W t σ O=.ok b O1:=by show ((t σ O).bnd _)=_;rw [h];rfl
theorem z1w (h:t σ O=.ok (.bl b) O1):z37 t σ O=.ok b O1:=by show ((t σ O).bnd _)=_;rw [h];rfl
theorem z25 (h:c σ O=.ok b O1):z2W c σ O=.ok (!b) O1:=by show ((c σ O).bnd _)=_;rw [h];rfl
theorem z2T (h:t σ O=.ok (.lst ds) O1):dIt t σ O=.ok (.val ds) O1:=by show ((t σ O).bnd _)=_;rw [h];rfl
theorem z4p (h:t σ O=.ok (.tup ds) O1):dIt t σ O=.ok (.val ds) O1:=by show ((t σ O).bnd _)=_;rw [h];rfl
theorem z5c (h:t σ O=.ok x O1):z24 i t σ O=.nx (σ.set i (some x)) O1:=by show ((t σ O).bnS _)=_;rw [h];rfl
theorem z1h (h:t σ O=.ok x O1):z1v t σ O=.rt x O1:=by show ((t σ O).bnS _)=_;rw [h];rfl
theorem z8c (h:t σ O=.ok x O1):z35 t σ O=.nx σ O1:=by show ((t σ O).bnS _)=_;rw [h];rfl
theorem z2b (h:c σ O=.ok b O1):sIf c a d σ O=if b=true then a σ O1 else d σ O1:=by show ((c σ O).bnS _)=_;rw [h];rfl
theorem z1D (h:a σ O=.nx σ' O1):z1e a d σ O=d σ' O1:=by show (match a σ O with|.nx σ' O'=>_|r=>r)=_;rw [h]
theorem z5j (h:a σ O=.rt x O1):z1e a d σ O=.rt x O1:=by show (match a σ O with|.nx σ' O'=>_|r=>r)=_;rw [h]
theorem zaq (h:it σ O=.ok src O1):z7h it g body σ O=z3l src (fun d σ O=>match g.put d σ with|some σ'=>body σ' O|none=>.bad) (src.size O1) 0 σ O1:=by show ((it σ O).bnS _)=_;rw [h];rfl
theorem z2z (h:tA σ O=.ok [.int (n:Nat)] O1) (hn:n < 100000):z31 tA σ O=.ok (.val ((aU n).map fun (i:Nat)=>D.int (i:Int))) O1:=by
 have hc:-1000000 <= ((n:Nat):Int)/\((n:Nat):Int) <= 1000000:=by constructor <;> omega
 unfold z31
 rw [h]
 dsimp only [R.bnd]
 rw [if_pos hc]
 unfold zge
 have e2:(((n:Nat):Int) - 0).toNat=n:=by omega
 rw [e2]
 congr 2
 refine dI fun i _=>?_
 rw [Int.zero_add]
theorem zaM (h:cs.length <= 100000):z38 O [.str cs]=.ok (.int cs.length) O:=by
 show (if cs.length <= 100000 then R.ok (D.int cs.length) O else R.bad)=_
 rw [if_pos h]
theorem z5g (hi:i < ds.length):fIx O (.tup ds) (.int (i:Int))=.ok ds[i] O:=by
 show (match L2.atI ds (i:Int) with|some d=>R.ok d O|none=>R.bad)=_
 rw [L2.atI_nat (aw hi)]
theorem z6d (hi:i < ds.length):fIx O (.lst ds) (.int (i:Int))=.ok ds[i] O:=by
 show (match L2.atI ds (i:Int) with|some d=>R.ok d O|none=>R.bad)=_
 rw [L2.atI_nat (aw hi)]
end
theorem zaI (O:Ow) (n:Nat):∀ l:List Int,z1Q (z2u O n) (l.map D.int)=some (l.map iB)
 | []=>rfl
 | x :: l=>by
  have e:z2u O n (.int x)=some (.int x):=by cases n <;> rfl
  show z1Q (z2u O n) (D.int x :: l.map D.int)=_
  unfold z1Q
  rw [e,zaI O n l];rfl
theorem zkL (O:Ow) (l:List Int):fPy eqF O (.lst (l.map D.int)) (.lst [])=.ok (.bl l.isEmpty) O:=by
 unfold fPy py
 have e:z2u O 8 (.lst (l.map D.int))=some (.list (l.map iB)):=by
  show (z1Q (z2u O 7) (l.map D.int)).map da=_
  rw [zaI];rfl
 rw [e]
 cases l <;> rfl
theorem zaF {α:Type} {src:Src} {step:D->Ow->List D->R (List D)} {O:Ow} {inj:α->D} {g:α->List D} {all:List α} (hg:∀ i,src.get O i=(all.map inj)[i]?):∀ (ds pre:List α) (acc:List D) (f:Nat),all=pre ++ ds->ds.length <= f->
  (∀ a ∈ ds,∀ acc:List D,acc.length < 100000->step (inj a) O acc=.ok (acc ++ g a) O)->acc.length + (ds.flatMap g).length + ds.length < 100000->z1p src step f pre.length O acc=.ok (acc ++ ds.flatMap g) O
 | [],pre,acc,f,ha,_,_,_=>by
  have e:src.get O pre.length=none:=by rw [hg,ha];simp
  cases f <;> (unfold z1p;rw [e];simp)
 | d :: ds,pre,acc,0,_,h,_,_=>by simp at h
 | d :: ds,pre,acc,f + 1,ha,h,hs,hl=>by
  unfold z1p
  have e:src.get O pre.length=some (inj d):=by rw [hg,ha];simp
  rw [e]
  simp only [cn,aE,bX] at hl
  show ((step (inj d) O acc).bnd fun acc' O'=>z1p src step f (pre.length + 1) O' acc')=_
  rw [hs d aH acc (by omega)]
  show z1p src step f (pre.length + 1) O (acc ++ g d)=_
  have:=zaF hg ds (pre ++ [d]) (acc ++ g d) f (by rw [ha];simp) (by simpa using h) (fun d' h'=>hs d' (au _ h')) (by rw [aE];omega)
  rw [aE,d7] at this
  rw [this];simp
theorem z2S {α β:Type} (p:α->Bool) (e:α->β):∀ l:List α,(l.flatMap fun d=>if p d=true then [e d] else [])=(l.filter p).map e
 | []=>rfl
 | x :: l=>by
  rw [cn,z2S p e l,i3]
  by_cases hx:p x=true
  ·rw [if_pos hx,if_pos hx];rfl
  ·rw [if_neg hx,if_neg hx];rfl
theorem z4D {α:Type} {ext:Nat} {it0:DI} {g:Tg} {ts:List DT} {te:DE} {σ:Sg} {O O0:Ow} {src:Src} {l:List α} {inj:α->D} {p:α->Bool} {e:α->D} {τ:α->Sg} {o:Bool} (hi:it0 σ O0=.ok src O) (hg:∀ i,src.get O i=(l.map inj)[i]?) (hsz:src.size O=l.length) (hl:l.length < 50000)
  (hτ:∀ a ∈ l,g.put (inj a) (clr (clr (σ ++ aq ext none) (g.slots ++ [])) (g.slots ++ []))=some (τ a)) (hp:∀ a ∈ l,z7r ts (τ a) O=.ok (p a) O) (he:∀ a ∈ l,p a=true->te (τ a) O=.ok (e a) O):
  z1i o ext it0 g ts [] te σ O0=z8L o (.ok ((l.filter p).map e) O):=by
 unfold z1i z3M
 rw [hi]
 show z8L o (noX (z1p src _ (src.size O) 0 O []))=_
 have step:∀ a ∈ l,∀ acc:List D,acc.length < 100000->z4B ⟨it0,g,ts⟩ [] te (clr (σ ++ aq ext none) (z12 [⟨it0,g,ts⟩])) (inj a) O acc=.ok (acc ++ (if p a=true then [e a] else [])) O:=by
  intro a ha acc hacc
  show (match g.put (inj a) (clr (clr (σ ++ aq ext none) (g.slots ++ [])) (g.slots ++ [])) with|some σ1=>(z7r ts σ1 O).bnd fun b O3=>if b=true then z3a [] te σ1 O3 acc else .ok acc O3|none=>.bad)=_
  rw [hτ a ha]
  show (z7r ts (τ a) O).bnd _=_
  rw [hp a ha]
  show (if p a=true then z3a [] te _ O acc else .ok acc O)=_
  by_cases hpd:p a=true
  ·rw [if_pos hpd,if_pos hpd]
   unfold z3a
   rw [he a ha hpd]
   show (if acc.length < 100000 then _ else _)=_
   rw [if_pos hacc]
  ·rw [if_neg hpd,if_neg hpd];simp
 have hlen:((l.filter p).map e).length <= l.length:=by rw [az];exact cm _ _
 have w:=zaF (O:=O) (inj:=inj) (g:=fun d=>if p d=true then [e d] else []) hg l [] [] l.length rfl (aB _) step (by rw [z2S];simp at hlen ⊢;omega)
 rw [z2S,cG] at w
 have w':z1p src (z4B ⟨it0,g,ts⟩ [] te (clr (σ ++ aq ext none) (z12 [⟨it0,g,ts⟩]))) (src.size O) 0 O []=.ok ((l.filter p).map e) O:=by rw [hsz];exact w
 rw [w'];rfl
section
variable {α:Type} {ext:Nat} {it0:DI} {i:Nat} {t:DT} {te:DE} {σ:Sg} {O O0:Ow} {l:List α} {inj:α->D} {p:α->Bool} {e:α->D} {τ:α->Sg} {o:Bool}
theorem z8i {σ:Sg} {O:Ow} {b:Bool} (h:t σ O=.ok b O):z7r [t] σ O=.ok b O:=by
 show ((t σ O).bnd _)=_
 rw [h];cases b <;> rfl
theorem z9W (hi:it0 σ O0=.ok (.val (l.map inj)) O) (hl:l.length < 50000) (hτ:∀ a,(clr (clr (σ ++ aq ext none) [i]) [i]).set i (some (inj a))=τ a) (hp:∀ a ∈ l,t (τ a) O=.ok (p a) O) (he:∀ a ∈ l,p a=true->te (τ a) O=.ok (e a) O):
  z1i o ext it0 (.one i) [t] [] te σ O0=z8L o (.ok ((l.filter p).map e) O):=
 z4D (g:=.one i) hi (fun _=>rfl) (by show (l.map inj).length=_;simp) hl (fun a _=>congrArg some (hτ a)) (fun a ha=>z8i (hp a ha)) he
theorem z79 (hi:it0 σ O0=.ok (.val (l.map inj)) O) (hl:l.length < 50000) (hτ:∀ a,(clr (clr (σ ++ aq ext none) [i]) [i]).set i (some (inj a))=τ a) (he:∀ a ∈ l,te (τ a) O=.ok (e a) O):
  z1i o ext it0 (.one i) [] [] te σ O0=z8L o (.ok (l.map e) O):=by
 have:=z4D (o:=o) (g:=.one i) (ts:=[]) (p:=fun _=>true) (te:=te) hi (fun _=>rfl) (by show (l.map inj).length=_;simp) hl (fun a _=>congrArg some (hτ a)) (fun a ha=>rfl) fun a ha _=>he a ha
 rw [this,ki.mpr (fun _ _=>rfl)]
end
theorem z8x {α:Type} {it:DI} {i:Nat} {body:DS} {σ:Sg} {O0 O:Ow} {l:List α} {inj:α->D} (hi:it σ O0=.ok (.val (l.map inj)) O) (I:Nat->Sg->Ow->Prop) (h:∀ (k:Nat) a σ O,l[k]?=some a->I k σ O->∃ σ' O',body (σ.set i (some (inj a))) O=.nx σ' O'/\I (k + 1) σ' O') (h0:I 0 σ O):
  ∃ σ' O',z7h it (.one i) body σ O0=.nx σ' O'/\I l.length σ' O':=by
 obtain ⟨σ',O',l1,l2⟩:=z9o (ds:=l.map inj) (step:=fun d σ O=>match Tg.put (.one i) d σ with|some σ'=>body σ' O|none=>.bad) I (fun j σ O d hI hd=>by
  rw [bc] at hd
  cases e:l[j]? with
  | none=>rw [e] at hd;cases hd
  | some a=>
   rw [e] at hd;cases hd
   exact h j a σ O e hI) (l.map inj).length 0 σ O h0 (by simp) (bW _)
 rw [az] at l2
 exact ⟨σ',O',(zaq hi).trans l1,l2⟩
theorem z87:∀ l:List Bool,bls (l.map D.bl)=some l
 | []=>rfl
 | x :: l=>by
  show (bls (l.map D.bl)).map (x :: ·)=_
  rw [z87 l];rfl
theorem zfP {α:Type} (O:Ow) (l:List α) (p:α->Bool):zju O [.lst (l.map fun a=>D.bl (p a))]=.ok (.bl (l.any p)) O:=by
 show (match bls (l.map fun a=>D.bl (p a)) with|some bs=>R.ok (D.bl (bs.any id)) O|none=>R.bad)=_
 have:(l.map fun a=>D.bl (p a))=(l.map p).map D.bl:=by rw [bK];rfl
 rw [this,z87]
 show R.ok (D.bl _) O=_
 rw [kH];rfl
theorem z33 {α:Type} (O:Ow) (l:List α) (p:α->Bool):z9L O [.lst (l.map fun a=>D.bl (p a))]=.ok (.bl (l.all p)) O:=by
 show (match bls (l.map fun a=>D.bl (p a)) with|some bs=>R.ok (D.bl (bs.all id)) O|none=>R.bad)=_
 have:(l.map fun a=>D.bl (p a))=(l.map p).map D.bl:=by rw [bK];rfl
 rw [this,z87]
 show R.ok (D.bl _) O=_
 rw [kI];rfl
end DL
namespace DL
open PySem L2
structure XAt (h0:aP) (H:Hp) (h:aP) (a:af) (C:ae):Prop where
 ex:∃ oe vs,h.get? a=some oe/\(oe.cls=C/\oe.dict=none)/\oe.data=.fields vs/\1 < vs.size/\(vs[1]?=some .none \/ ∃ T oT ts,vs[1]?=some (.ref T)/\T ≠ a/\h0.get? T=none/\H T=none/\h.get? T=some oT/\oT.data=.fields ts/\ts[3]?=some .none)
 new:h0.get? a=none
 free:H a=none
theorem zcA (o:Obj) (f):(o.mapFields f).dict=o.dict:=by
 obtain ⟨c,d,dt,sl⟩:=o;cases dt <;> rfl
structure Kp (h0:aP) (H:Hp) (fs:List af) (h h':aP):Prop where
 keep:∀ b o,h.get? b=some o->b ∉ fs->(H b ≠ none \/ h0.get? b ≠ none)->h'.get? b=some o
 slot:∀ b o,h.get? b=some o->b ∈ fs->∃ sl,h'.get? b=some { o with slots:=sl }
 there:∀ b o,h.get? b=some o->∃ o',h'.get? b=some o'
 size:h.objs.size <= h'.objs.size
section
variable {M:jh} {A:ba} {E:ae->ai->Prop} {s:ai} {base h0:aP} {H:Hp} {env:Env} {outer:List Env} {L a:af} {C:ae} {Q:Unit->ai->Prop}
theorem zcx (hfr:A.frames=some (env :: outer)) (hl:s.heap.FunFrames base (env :: outer)) (hf:env.frame=some L) (he:s.heap.get? a=some oe) (hC:oe.cls=C/\oe.dict=none) (hd:oe.data=.fields vs) (hsz:1 < vs.size) (new:h0.get? a=none) (free:H a=none)
  (hH:∀ b,s.heap.objs.size <= b->H b=none) (h0s:∀ b,s.heap.objs.size <= b->h0.get? b=none) (h:∀ h',Kp h0 H (frs (env :: outer)) s.heap h'->XAt h0 H h' a C->Q () { s with heap:=h' }):
  ar M A (do let f <- frameOf env;let pl <- entryPlaceOf L hn;let b <- kj head f .none (bj L) .none pl;setField (.ref a) 1 b) (fun _ s'=>ar M A (setFlight (.ref a) none) Q E s') E s:=by
 have nin:a ∉ frs (env :: outer):=fun hm=>by
  obtain ⟨_,o,ho,hnf⟩:=hl.mem hm
  rw [he] at ho;cases ho
  exact hnf vs hd
 refine aa (wpAny_frameOf_fun hfr hl hf fun h1 ⟨z1,k1,sl1⟩=>aa (wpAny_entryPlaceOf fun pl hpl=>?_))
 unfold kj newFields
 refine aa (bn ?_ (hpl.sizeOk5 _ _ _ _ _))
 have e1:h1.get? a=some oe:=(k1 a nin).trans he
 generalize hob:({ cls:=.type "traceback",dict:=none,data:=.fields ([head,.ref L,.none,bj L,.none] ++ (if pl.isEmpty then aq 6 cj else pl)).toArray }:Obj)=ob
 have hobd:ob.data=.fields ([head,.ref L,.none,bj L,.none] ++ (if pl.isEmpty then aq 6 cj else pl)).toArray:=by rw [<- hob]
 have e2:=ah (h:=h1) ob e1
 refine dN e2 hd hsz ?_
 have nT:h1.objs.size ≠ a:=cM (aF e1)
 have d3:=cf hd (·.setIfInBounds 1 (cP h1.objs.size))
 have e3:=bC (en (·.setIfInBounds 1 (cP h1.objs.size))) e2 (cE d3)
 have t3:((h1.push ob).update a (en (·.setIfInBounds 1 (cP h1.objs.size)))).get? h1.objs.size=some ob:=(bq _ _ (bo nT)).trans (aC h1 (cE hobd))
 unfold setFlight
 refine aa (bd e3 d3 (x:=.ref h1.objs.size) (by simp [hsz]) ?_)
 rw [if_pos (show (cP h1.objs.size != cj)=true by simp)]
 have tsz:3 < ([head,.ref L,.none,bj L,.none] ++ (if pl.isEmpty then aq 6 cj else pl)).toArray.size:=by simp only [aA,aE,bX,fF];omega
 refine dN t3 hobd tsz (h _ ?_ ?_)
 ·have old:∀ b o,b ≠ a->h1.get? b=some o->(((h1.push ob).update a (en (·.setIfInBounds 1 (cP h1.objs.size)))).update h1.objs.size (en (·.setIfInBounds 3 ((none:Option af).elim cj fun f=>bj f)))).get? b=some o:=fun b o hb e=>by
   rw [bq _ _ (cM (aF e)),bq _ _ (bo hb)]
   exact ah _ e
  refine ⟨fun b o e hb hk=>old b o (fun z=>?_) ((k1 b hb).trans e),fun b o e hb=>?_,fun b o e=>?_,?_⟩
  ·subst z
   rcases hk with q|q
   ·exact q free
   ·exact q new
  ·obtain ⟨sl,q⟩:=sl1 b o e
   exact ⟨sl,old b _ (fun z=>nin (z ▸ hb)) q⟩
  ·by_cases hb:b=a
   ·subst hb
    exact ⟨_,(bq _ _ nT).trans e3⟩
   ·obtain ⟨sl,q⟩:=sl1 b o e
    exact ⟨_,old b _ hb q⟩
  ·rw [gp,gp,bQ,z1];exact dQ _
 ·refine ⟨⟨_,_,(bq _ _ nT).trans e3,⟨(iJ _ _).trans hC.1,(zcA _ _).trans hC.2⟩,d3,by simpa using hsz,.inr ⟨h1.objs.size,_,_,by simp [hsz],nT,?_,hH _ (by rw [z1];exact aB _),bC _ t3 (cE (cf hobd _)),cf hobd _,?_⟩⟩,new,free⟩
  ·exact h0s _ (by rw [z1];exact aB _)
  ·rw [gg]
   rw [if_pos tsz];rfl
theorem zdh (hfr:A.frames=some (env :: outer)) (hl:s.heap.FunFrames base (env :: outer)) (hf:env.frame=some L) (x:XAt h0 H s.heap a C) (hH:∀ b,s.heap.objs.size <= b->H b=none) (h0s:∀ b,s.heap.objs.size <= b->h0.get? b=none)
  (h:∀ h',Kp h0 H (frs (env :: outer)) s.heap h'->XAt h0 H h' a C->Q () { s with heap:=h' }):ar M A (noteFrame (.ref a) env) (fun _ s'=>ar M A (setFlight (.ref a) none) Q E s') E s:=by
 obtain ⟨⟨oe,vs,he,hC,hd,hsz,ht⟩,new,free⟩:=x
 unfold noteFrame
 simp only [hf]
 rcases ht with h1|⟨T,oT,ts,h1,nT,newT,freeT,hT,hdT,h3⟩
 ·refine aa (bd he hd h1 ?_)
  rw [if_neg (by decide)]
  exact zcx hfr hl hf he hC hd hsz new free hH h0s h
 ·refine aa (bd he hd h1 ?_)
  rw [if_pos (show (cP T != cj)=true by simp)]
  refine aa (bd hT hdT h3 ?_)
  rw [if_neg (show ¬ ((cj == bj L)=true) by simp [bj])]
  refine aa (dN hT hdT (fz.mp h3).1 ?_)
  have oth:∀ b,b ≠ T->(s.heap.update T (en (·.setIfInBounds 3 cj))).get? b=s.heap.get? b:=fun b hb=>bq _ _ (bo hb)
  have rec_:∀ b o,s.heap.get? b=some o->(∀ vs,o.data ≠ .fields vs)->b ≠ T:=fun b o hb hnf z=>by
   subst z;rw [hT] at hb;cases hb;exact hnf ts hdT
  have sz:(s.heap.update T (en (·.setIfInBounds 3 cj))).objs.size=s.heap.objs.size:=gp ..
  refine zcx (s:={ s with heap:=s.heap.update T (en (·.setIfInBounds 3 cj)) }) hfr (hl.of_keeps fun b o hb hnf=>⟨o,(oth b (rec_ b o hb hnf)).trans hb,rfl⟩) hf ((oth a (bo nT)).trans he) hC hd hsz new free (fun b hb=>hH b (by rw [<- sz];exact hb)) (fun b hb=>h0s b (by rw [<- sz];exact hb)) fun h' kp xa=>h h' ⟨fun b o e hb hk=>?_,fun b o e hb=>?_,fun b o e=>?_,by rw [<- sz];exact kp.size⟩ xa
  ·refine kp.keep b o ((oth b fun z=>?_).trans e) hb hk
   subst z
   rcases hk with q|q
   ·exact q freeT
   ·exact q newT
  ·refine kp.slot b o ((oth b fun z=>?_).trans e) hb
   subst z
   obtain ⟨_,o',ho',hnf⟩:=hl.mem hb
   rw [hT] at ho';cases ho'
   exact hnf ts hdT
  ·by_cases hb:b=T
   ·subst hb
    exact kp.there b _ (bC _ hT (cE (cf hdT _)))
   ·exact kp.there b o ((oth b hb).trans e)
end
open PyProof.Rows (AllBare)
def CXr (P:aJ) (w:aR) (Cl:Nat->ae):CXT:=fun outer H s E e s'=>∃ a c H',e=.ref a/\s'.os=s.os/\0 < s'.toks/\fi s'.gens/\Un (frs outer) [] H H' s.heap s'.heap/\HOk P w H' s'.heap/\XAt s.heap H' s'.heap a (Cl c)/\E (Cl c) none H'
abbrev Xk (Cl:Nat->ae) (E:XK):Nat->Hp->Prop:=fun c H=>E (Cl c) none H
def XOk (X:Cx) (Ex:Nat->Hp->Prop) (Cl:Nat->ae):Prop:=∀ (pins:List (af × Obj)) (σ:St) (H:Hp) (s:ai) (a:af) (c:Nat),Inv X pins σ H s->XAt X.s₀.heap H s.heap a (Cl c)->Ex c H->X.xe (.ref a) s
theorem HOk.here (x:L2.HOk P w H h) (e:h.get? a=none):H a=none:=by
 cases q:H a with
 | none=>rfl
 | some o=>
  exfalso
  have y:=x a o q
  have no:∀ u,h.get? a=some u->False:=fun u z=>by rw [e] at z;cases z
  cases o with
  | lst xs=>obtain ⟨_,_,_,_,e⟩:=y;exact no _ e
  | tup xs=>obtain ⟨_,_,_,_,e,_⟩:=y;exact no _ e
  | dK kvs=>obtain ⟨_,_,_,_,o,_,_,e,_⟩:=y;exact no _ e
  | dT kvs=>obtain ⟨_,_,_,_,o,_,_,e,_⟩:=y;exact no _ e
  | set S n=>obtain ⟨o,_,_,_,e,_⟩:=y;exact no _ e
  | ins C dx fs=>obtain ⟨_,_,_,e,_⟩:=y;exact no _ e
  | own y'=>obtain ⟨_,e⟩:=y;exact no _ e
  | xd fs=>obtain ⟨_,⟨_,_,_,e,_⟩,_⟩:=y;exact no _ e
  | rng lo hi=>obtain ⟨_,_,_,e⟩:=y;exact no _ e
  | frz ob u=>obtain ⟨e,_⟩:=y;exact no _ e
  | tbl ps=>exact no _ (show h.get? a=some _ from y)
  | met f y'=>exact no _ (show h.get? a=some _ from y)
  | ext φ=>obtain ⟨_,⟨_,e⟩,_⟩:=y;exact no _ e
theorem Kp.hok (k:Kp h0 H fs h h') (x:L2.HOk P w H h) (hf:∀ b ∈ fs,H b=none):L2.HOk P w H h':=fun a o e=>
 (x a o e).stay (fun b u hb q=>k.keep b u q (fun z=>by
  rcases hb with rfl|hb
  ·rw [hf _ z] at e;cases e
  ·rw [hf _ z] at hb;cases hb) (.inl (by
  rcases hb with rfl|hb
  ·rw [e];exact fun z=>nomatch z
  ·rw [hb];exact fun z=>nomatch z))) (fun _ q=>q) fun _ _ q=>q
theorem XAt.older (x:XAt h1 H h a C) (k:∀ b o,h0.get? b=some o->∃ o',h1.get? b=some o'):XAt h0 H h a C:=by
 have old:∀ b,h1.get? b=none->h0.get? b=none:=fun b e=>by
  cases q:h0.get? b with
  | none=>rfl
  | some o=>obtain ⟨o',z⟩:=k b o q;rw [e] at z;cases z
 obtain ⟨⟨oe,vs,he,hC,hd,hsz,ht⟩,new,free⟩:=x
 refine ⟨⟨oe,vs,he,hC,hd,hsz,ht.imp id fun ⟨T,oT,ts,h1,nT,newT,r⟩=>⟨T,oT,ts,h1,nT,old T newT,r⟩⟩,old a new,free⟩
section
variable {P:aJ} {w:aR} {K:aj} {mg:Str->Option ae} {base:aP} {N:List Str} {qual:Str} {scope:b9} {f:af} {cd:ae} {A:ba} {outer:List Env} {s:ai} {H:Hp} {E:XK} {Cl:Nat->ae}
theorem zgr:XOk (zeE (CXr P w Cl) P w K mg base N qual scope f cd A outer s H E) (Xk Cl E) Cl:=by
 intro pins σ H1 s1 a c I x q
 generalize hX:zeE (CXr P w Cl) P w K mg base N qual scope f cd A outer s H E=X at I x ⊢
 have hfr:(A.deeper (bf qual scope s.heap.objs.size f cd)).frames=some (bf qual scope s.heap.objs.size f cd :: outer):=by have:=I.ok.frames;rw [<- hX] at this;exact this
 have hst:s1.heap.FunFrames base (bf qual scope s.heap.objs.size f cd :: outer):=by have:=I.stack;rw [<- hX] at this;exact this
 have hfree:∀ b ∈ frs (bf qual scope s.heap.objs.size f cd :: outer),H1 b=none:=by have:=I.stkFree;rw [<- hX] at this;exact this
 have hok:HOk P w H1 s1.heap:=by have:=I.hok;rw [<- hX] at this;exact this
 have hbase:Un (frs outer) [] H H1 s.heap s1.heap:=by have:=I.base;rw [<- hX] at this;exact this
 have hos:s1.os=s.os:=by have:=I.os;rw [<- hX] at this;exact this
 have hsz:s.heap.objs.size <= s1.heap.objs.size:=by have:=I.sz;rw [<- hX] at this;exact this
 have hL:H1 s.heap.objs.size=none:=by have:=I.free;rw [<- hX] at this;exact this
 have hx:XAt s.heap H1 s1.heap a (Cl c):=by rw [<- hX] at x;exact x
 have hbare:=I.bare
 rw [<- hX]
 show ar (ay P w) (A.deeper (bf qual scope s.heap.objs.size f cd)) (leaving (bf qual scope s.heap.objs.size f cd) (.ref a)) (fun _ s''=>CXr P w Cl outer H s E (.ref a) s'') (fun e' s''=>CXr P w Cl outer H s E e' s'') s1
 unfold leaving
 refine aa (zdh hfr hst rfl hx (fun b hb=>hok.fresh hb) (fun b hb=>gF (bb hsz hb)) fun h' kp xa=>?_)
 refine ⟨a,c,H1,rfl,hos,I.tk,hbare,?_,kp.hok hok hfree,xa,q⟩
 refine ⟨fun b o e n hb hx=>?_,fun b o e n hb hx=>?_,fun b o e n hx=>hbase.free b o e n hx,fun b o e hx=>?_,hbase.tups,hbase.frzs,hbase.tbls⟩
 ·refine kp.keep b o (hbase.keep b o e n hb hx) (fun z=>?_) (.inr (by rw [e];exact fun z=>nomatch z))
  have z':b ∈ s.heap.objs.size :: frs outer:=z
  rcases av.mp z' with z2|z2
  ·exact absurd (aF e) (by rw [z2];exact bE _)
  ·exact hb z2
 ·obtain ⟨sl,e1⟩:=hbase.slot b o e n hb hx
  obtain ⟨sl',e2⟩:=kp.slot b _ e1 (show b ∈ s.heap.objs.size :: frs outer from au _ hb)
  exact ⟨sl',e2⟩
 ·obtain ⟨o',e1⟩:=hbase.there b o e hx
  exact kp.there b o' e1
end
section
variable {X:Cx} {Cl:Nat->ae} {E:XK}
theorem zbn (hex:X.ex=[]) (h:XOk X (Xk Cl E) Cl):z7p (CXr X.prog X.w Cl) X E:=by
 rintro pins σ H s e s' I ⟨a,c,H',rfl,os,htk,bare,un,hok,x,q⟩
 have I':Inv X pins σ H' s':=I.call' (ch:=[]) os un hok bare (fun b z=>absurd z (by simp))
 exact h pins σ H' s' a c I' (x.older fun b o e=>I.base.there b o e (by rw [hex];simp)) q
theorem zaP:z7p (CXr X.prog X.w Cl) X E0:=by
 rintro pins σ H s e s' I ⟨a,c,H',rfl,os,htk,bare,un,hok,x,q⟩
 exact ak q
end
abbrev zla:List ae:=[.type "ValueError",.type "Exception",.type "BaseException",.type "object"]
abbrev zlG (mg:Str->Option ae) (base:aP) (x:Str) (C:af):Prop:=PyProof.Rows.OwnCls x C zla "ValueError.__new__" mg base
section
variable {X:Cx} {Ex:Nat->Hp->Prop} {Cl:Nat->ae}
def zaR (c:Nat) (t:DA):DS:=fun σ O=>(t σ O).bnS fun xs O1=>if xs.length <= 1000 then .exc c O1 else .bad
theorem zfx (I:Inv X pins σ H s) (hex:X.ex=[]) (m:Heap.MadeExcOf s.heap h' a C vs):XAt X.s₀.heap H h' a C:=by
 obtain ⟨t,h1,h2,h3⟩:=m.there
 refine ⟨⟨_,_,h1,⟨rfl,rfl⟩,rfl,by simp,.inl rfl⟩,?_,HOk.here I.hok m.new⟩
 cases q:X.s₀.heap.get? a with
 | none=>rfl
 | some o=>
  obtain ⟨o',z⟩:=I.base.there a o q (by rw [hex];simp)
  rw [m.new] at z;cases z
theorem zcz (hX:XOk X Ex Cl) (hex:X.ex=[]) (hcl:Cl c=.ref C) (own:zlG X.mg X.base x C) (hc:X.calm=true) (hg:Gl X x) (ha:PDA X Ex (e :: es) t)
  (hdb:(x == ("__debug__":Str))=false:=by decide) (he:aD (e :: es) X.env=(false,eval e X.env) :: aD es X.env:=by rfl) (hpl:(backTo cpos (aD (e :: es) X.env)).any (·.1)=false:=by rfl) (hbk:∃ y z2C,backTo cpos (aD (e :: es) X.env)=(false,y) :: z2C:=by exact ⟨_,_,rfl⟩):
  PDS X Ex (.Raise (some (.Call (.Name x np) (e :: es) [] cpos)) none pos) (zaR c t):=by
 refine ⟨?_⟩
 rintro pins s σv H D I ⟨hid,μ,σ,O,e1,c1,q⟩
 obtain ⟨bm,N,nm,qn,bs,hdct,sn,sub,ab,col,dd,k0,k1,k2,k3,k5,mN,hC,hN,hni,TL⟩:=own.obj
 refine wpAny_Raise_call_subU (nm:=nm) (q:=qn) (N:=N) (bs:=bs) (hdct:=hdct) (sn:=sn) (sub:=sub) (ab:=ab) (col:=col) (dd:=dd) (k0:=k0) (k1:=k1) (k2:=k2) (k3:=k3) (k5:=k5) iC (bmB:=zla) (by rfl) iC (TL.hasType (by rfl)) (I.ok.hd hc) hpl hni (z58 I hg own.bound ⟨rfl,?_⟩ hdb)
 have go:=ha.out cpos pins s σv H (fun vs H1=>vs.length <= 1000/\Ex c H1) I ⟨hid,μ,σ,O,e1,c1,md.bnS (q:md Ex X.K H hid μ (zaR c t σ O) D) fun ds O1 vs H1 μ1 x2 c2 d2 q2=>by
  by_cases hl:ds.length <= 1000
  ·rw [if_pos hl] at q2
   exact ⟨by rw [<- d2.length];exact hl,q2 H1 μ1 .refl c2⟩
  ·rw [if_neg hl] at q2;exact ak q2⟩
 obtain ⟨y,z2C,hb⟩:=hbk
 rw [hb] at go ⊢
 refine gf (thn go fun us s1 ⟨vs,H1,I1,r,hl,hx⟩=>⟨rfl,bb (by rw [<- r.length];exact hl) (by decide),I1.bk _ _ hC,hN.keeps I1.bk,TL.keeps I1.bk,fun h' a m=>?_⟩)
 exact hX pins σv H1 { s1 with heap:=h' } a c (I1.kept (t':=s1.toks) m.keeps) (by rw [hcl];exact zfx I1 hex m) hx
end
abbrev cxX (Cl:Nat->ae) (P:aJ) (w:aR) (K:aj) (mg:Str->Option ae) (base:aP) (N:List Str) (qual:Str) (scope:b9) (f:af) (cdv:ae) (A:ba) (outer:List Env) (s:ai) (H:Hp) (E:XK):Cx:=
 zeE (CXr P w Cl) P w K mg base N qual scope f cdv A outer s H E
theorem ze3 {Cl:Nat->ae} {P:aJ} {w:aR} {K:aj} {mg:Str->Option ae} {base:aP} {N:List Str} {qual:Str} {scope:b9} {f:af} {cdv:ae} {A:ba} {outer:List Env} {s:ai} {H:Hp} {E:XK}:
  ji (ay P w) (cxX Cl P w K mg base N qual scope f cdv A outer s H E).A (cxX Cl P w K mg base N qual scope f cdv A outer s H E).env (cxX Cl P w K mg base N qual scope f cdv A outer s H E).xe:=
 PassesOwn.leaving (Q₁:=fun e s''=>CXr P w Cl outer H s E e s'') (E₁:=fun e' s''=>CXr P w Cl outer H s E e' s'')
theorem zl1 {Cl:Nat->ae} {P:aJ} {w:aR} {K:aj} {mg:Str->Option ae} {base:aP} {k:Nat} {f:af} {name qual:Str} {params:dX} {body:List cu} {scope:b9} {dV kV doc pm cdv ct oc:ae} {an od:Option af} {osl:Array (Option ae)} {N ps:List Str} {t:DS}
  (lk:K.lookup f=some ⟨oc,od,.func (bA name qual params body scope dV kV doc pm an cdv ct),osl⟩) (hcd:dk K cdv qual=true) (S:z13 N ps scope)
  (hbody:∀ (A:ba) (outer:List Env) (s:ai) (H:Hp) (E:XK),me k (A.deeper (bf qual scope s.heap.objs.size f cdv))->z5F (cxX Cl P w K mg base N qual scope f cdv A outer s H E) (Xk Cl E) body t):
  mq P w K mg base (CXr P w Cl) (k + 1) f (bA name qual params body scope dV kV doc pm an cdv ct) ps (DSp K (Xk Cl) ps.length (z2P N.length t)):=by
 refine z1d lk hcd S (fun vs H Q E h=>h.1) fun A outer s H vs Q E hr h=>?_
 obtain ⟨hl,hid,μ,ds,O,d,c,q⟩:=h
 refine ⟨_,(hbody A outer s H E hr).out,hid,μ,_,O,z6o d N,c,?_⟩
 unfold z2P at q
 generalize t (ds.map some ++ aq (N.length - ds.length) none) O=r at q
 cases r with
 | nx σ O'=>exact fun σv H' μ' x e c'=>q .non H' μ' x c' z5i
 | rt d' O'=>exact fun v H' μ' x c' r=>q v H' μ' x c' r
 | bk σ O'=>exact ak q
 | ct σ O'=>exact ak q
 | exc c' O'=>exact fun H' μ' x c2=>q H' μ' x c2
 | bad=>exact ak q
structure l0 (Cl:Nat->ae) (P:aJ) (w:aR) (K:aj) (mg:Str->Option ae) (base:aP) (x:Str) (k n:Nat) (F:List D->Ow->R D):Prop where
 ex:∃ f fd ps,mg x=some (.ref f)/\cC K (.ref f)=true/\Binds K fd ps []/\mq P w K mg base (CXr P w Cl) k f fd ps (DSp K (Xk Cl) n F)
theorem zdR {Cl:Nat->ae} {X:Cx} {E:XK} {x:Str} {k j n:Nat} {F:List D->Ow->R D} {p pos:Pos} {e:aK} {es:List aK} {t:DA} (c:l0 Cl X.prog X.w X.K X.mg X.base x k n F) (hx:z7p (CXr X.prog X.w Cl) X E) (hr:me j X.A) (hk:k <= j) (hg:Gl X x) (ha:PDA X (Xk Cl E) (e :: es) t)
  (hdb:(x == ("__debug__":Str))=false:=by decide) (he:aD (e :: es) X.env=(false,eval e X.env) :: aD es X.env:=by rfl) (hpl:(backTo pos (aD es X.env)).any (·.1)=false:=by rfl):
  PD X (Xk Cl E) (.Call (.Name x p) (e :: es) [] pos) (dFn n F t):=by
 obtain ⟨f,fd,ps,hm,hkp,hb,G⟩:=c.ex
 exact zlr (Ec:=Xk Cl) (E:=E) (G.mono hk) hr hg hm hkp hb hx ha hdb he hpl
theorem zhn {Cl:Nat->ae} {X:Cx} {x:Str} {k j n:Nat} {F:List D->Ow->R D} {p pos:Pos} {e:aK} {es:List aK} {t:DA} (c:l0 Cl X.prog X.w X.K X.mg X.base x k n F) (hr:me j X.A) (hk:k <= j) (hg:Gl X x) (ha:PDA X Ex0 (e :: es) t)
  (hdb:(x == ("__debug__":Str))=false:=by decide) (he:aD (e :: es) X.env=(false,eval e X.env) :: aD es X.env:=by rfl) (hpl:(backTo pos (aD es X.env)).any (·.1)=false:=by rfl):
  PD X Ex0 (.Call (.Name x p) (e :: es) [] pos) (dFn n F t):=zdR (E:=E0) c zaP hr hk hg ha hdb he hpl
theorem fnX {Cl:Nat->ae} {P:aJ} {w:aR} {K:aj} {mg:Str->Option ae} {base:aP} {k:Nat} {x:Str} {st:cu} {N ps:List Str} {t:DS} (h:z1n K mg x st) (S:z13 N ps (z0V st))
  (hb:∀ (kV doc pm:ae) (an:Option af) (cdv ct:ae) (us:List ae),us.length=ps.length->bindArgs (bA x x (z2I st) (z1O st) (z0V st) .none kV doc pm an cdv ct) ⟨us,[]⟩=pure (ps.zip us))
  (hbody:∀ (f:af) (cdv:ae) (A:ba) (outer:List Env) (s:ai) (H:Hp) (E:XK),me k (A.deeper (bf x (z0V st) s.heap.objs.size f cdv))->z5F (cxX Cl P w K mg base N x (z0V st) f cdv A outer s H E) (Xk Cl E) (z1O st) t):
  l0 Cl P w K mg base x (k + 1) ps.length (z2P N.length t):=by
 obtain ⟨f,fd,hm,F⟩:=h
 refine ⟨f,fd,ps,hm,F.kp,F.binds hb,?_⟩
 obtain ⟨oc,od,kV,doc,pm,an,cdv,ct,osl,rfl,lk,hcd⟩:=F.ex
 exact zl1 lk hcd S fun A outer s H E hr=>hbody f cdv A outer s H E hr
section
variable {Cl:Nat->ae} {P:aJ} {w:aR} {K:aj} {mg:Str->Option ae} {base:aP} {k n:Nat} {x:Str} {F G:List D->Ow->R D}
theorem l0.imp (c:l0 Cl P w K mg base x k n F) (h:∀ ds O H hid μ Ex Q,l7 K H hid μ O->z1q Ex K H hid μ (G ds O) Q->z1q Ex K H hid μ (F ds O) Q):l0 Cl P w K mg base x k n G:=by
 obtain ⟨f,fd,ps,hm,hkp,hb,Fo⟩:=c.ex
 refine ⟨f,fd,ps,hm,hkp,hb,Fo.imp fun vs H Q E ⟨hl,hid,μ,ds,O,d,cl,q⟩=>⟨hl,hid,μ,ds,O,d,cl,h ds O H hid μ _ Q cl q⟩⟩
theorem l0.bad (c:l0 Cl P w K mg base x k n F):l0 Cl P w K mg base x k n (fun _ _=>.bad):=c.imp fun _ _ _ _ _ _ _ _ q=>ak q
theorem l0.self (c:l0 Cl P w K mg base x k n F):l0 Cl P w K mg base x k n F:=c
end
def zlb (f:Nat->Option Bool):D->Option Bool
 | .exn C=>f C
 | .non=>some false
 | _=>none
def z6P (f:Nat->Option Bool) (t:DE):DE:=fun σ O=>(t σ O).bnd fun d O1=>match zlb f d with
 | some b=>.ok (.bl b) O1
 | none=>.bad
section
variable {X:Cx} {Ex:Nat->Hp->Prop} {pos:Pos} {a:aK} {ta:DE}
theorem zbk (f:Nat->Option Bool) (hc:∀ u,RelV cv u->u=cval) (hn:aI X.K (.type "NoneType") cval=some false) (hf:∀ C b,f C=some b->aI X.K (.ref C) cval=some b):
  mj X (.builtin "isinstance") (fun xs H Q=>∃ x hid μ O d b,xs=[x,cv]/\l7 X.K H hid μ O/\Dat X.K H hid μ d x/\zlb f d=some b/\Q (.bl b) H):=by
 intro pins s σ H xs us Q I r h
 obtain ⟨x,hid,μ,O,d,b,rfl,cl,dx,hb,q⟩:=h
 obtain ⟨u,w',rfl,rx,rc⟩:=za5 r
 obtain rfl:=hc _ rc
 cases d with
 | non=>
  unfold Dat at dx;subst dx;cases rx
  cases hb
  exact wT I (jk kS I.kIn dR hn (fun z=>nomatch z) fun tk htk=>⟨.bl _,H,I.tok tk,rfl,q⟩)
 | exn C=>
  unfold Dat at dx
  obtain ⟨p,φ,rfl,⟨k,g⟩,hr,_⟩:=dx
  cases rx
  obtain ⟨y,_⟩:=Rd.ok hr I.hok
  exact wT I (jk (zgl k) I.kIn (g _ y) (hf C b hb) (fun z=>nomatch z) fun tk htk=>⟨.bl _,H,I.tok tk,rfl,q⟩)
 | _=>cases hb
theorem zdA:∀ hid μ σ O σv H Q,l9 X.K H hid μ σ σv->l7 X.K H hid μ O->z1q Ex X.K H hid μ (z6P f ta σ O) Q->rd Ex X.K ta σv H fun v H1=>∃ x hid μ O d b,[v,cv]=[x,cv]/\l7 X.K H1 hid μ O/\Dat X.K H1 hid μ d x/\zlb f d=some b/\Q (.bl b) H1:=
 fun hid μ σ O σv H Q e1 c1 q=>rd.go e1 c1 q fun d O1 v H1 μ1 e2 x cl r p2=>by
  cases hb:zlb f d with
  | none=>rw [hb] at p2;exact ak p2
  | some b=>rw [hb] at p2;exact ⟨v,hid,μ1,O1,d,b,rfl,cl,r,hb,post.here p2 cl z2m⟩
theorem z3H (ha:PD X Ex a ta) (hg:Gl X "isinstance") (hm:X.mg "isinstance" = none) (hv:a8 "isinstance" = some (.builtin "isinstance")) (hgC:Gl X x) (hmC:X.mg x=some (.ref C0))
  (hn:aI X.K (.type "NoneType") (.ref C0)=some false) (hf:∀ C b,f C=some b->aI X.K (.ref C) (.ref C0)=some b)
  (hCd:(x == ("__debug__":Str))=false:=by decide) (he:aD [a,.Name x p'] X.env=(false,eval a X.env) :: aD [.Name x p'] X.env:=by rfl) (he2:aD [.Name x p'] X.env=[(false,eval (.Name x p') X.env)]:=by rfl) (hpl:(backTo pos (aD [.Name x p'] X.env)).any (·.1)=false:=by rfl):
  PD X Ex (.Call (.Name "isinstance" p) [a,.Name x p'] [] pos) (z6P f ta):=
 z22 (z49 (zbk (X:=X) (cv:=.ref C0) (cval:=.ref C0) f (fun u r=>by cases r;rfl) hn hf) hg hm hv (z1P ha.out (z1P (z6L (v:=.ref C0) hgC hmC rfl hCd) z3r he2) he) (by decide) (by decide) he hpl) zdA
theorem zhp (ha:PD X Ex a ta) (hg:Gl X "isinstance") (hm:X.mg "isinstance" = none) (hv:a8 "isinstance" = some (.builtin "isinstance")) (hgC:Gl X x) (hmC:X.mg x=none) (hvC:a8 x=some (.type n))
  (hn:aI X.K (.type "NoneType") (.type n)=some false) (hf:∀ C b,f C=some b->aI X.K (.ref C) (.type n)=some b) (hCn:x ≠ "__name__":=by decide)
  (hCd:(x == ("__debug__":Str))=false:=by decide) (he:aD [a,.Name x p'] X.env=(false,eval a X.env) :: aD [.Name x p'] X.env:=by rfl) (he2:aD [.Name x p'] X.env=[(false,eval (.Name x p') X.env)]:=by rfl) (hpl:(backTo pos (aD [.Name x p'] X.env)).any (·.1)=false:=by rfl):
  PD X Ex (.Call (.Name "isinstance" p) [a,.Name x p'] [] pos) (z6P f ta):=
 z22 (z49 (zbk (X:=X) (cv:=.ty n) (cval:=.type n) f (fun u r=>by cases r;rfl) hn hf) hg hm hv (z1P ha.out (z1P (z8p (v:=.ty n) hgC hmC hvC rfl hCn hCd) z3r he2) he) (by decide) (by decide) he hpl) zdA
end
open PyProof.Rows (AllBare IntsAre)
section
variable {X:Cx} {pins:List (af × Obj)} {σ:St} {H:Hp} {s:ai}
theorem Inv.fake (I:L2.Inv X pins σ H s) (hi:X.N[i]?=some x) (hx:¬ Vis X.env.scope x):L2.Inv X pins (σ.set i (some v)) H s:=by
 obtain ⟨m,hn,hl⟩:=I.loc
 refine ⟨I.ok,I.os,I.bare,I.base,⟨m,hn,fun j y w e1 e2 e3=>?_⟩,I.cell,I.free,I.freeC,I.pin,I.hok,by rw [bT];exact I.len,I.tk⟩
 by_cases hj:j=i
 ·subst hj
  rw [hi] at e1;cases e1
  exact absurd e3 hx
 ·rw [aY (bo hj)] at e2
  exact hl j y w e1 e2 e3
theorem PSs.fake (hi:X.N[i]?=some x) (hx:¬ Vis X.env.scope x) (h:PSs X body t):PSs X body fun D σ H=>t D (σ.set i (some v)) H:=
 fun pins s σ H D I q=>h pins s _ H D (Inv.fake I hi hx) q
end
theorem ml.empty (h:H P=some (.tbl #[])):ml H P:=⟨#[],h,trivial,fun pos cv e=>by cases e⟩
def zgo (K:aj) (Ec:XK->Nat->Hp->Prop) (n:Nat) (P:af) (F:List D->Ow->R D):Sp:=fun vs H Q E=>vs.length=n/\∃ hid μ ds O,l8 K H hid μ ds vs/\l7 K H hid μ O/\ml H P/\z1q (Ec E) K H hid μ (F ds O) Q
def zlc (n i:Nat) (P:Nat) (t:DS):List D->Ow->R D:=fun ds O=>fin (t ((ds.map some ++ aq (n - ds.length) none).set i (some (.tab P))) O)
theorem zkA {Cl:Nat->ae} {P:aJ} {w:aR} {K:aj} {mg:Str->Option ae} {base:aP} {k i:Nat} {f Pt:af} {x:Str} {name qual:Str} {params:dX} {body:List cu} {scope:b9} {dV kV doc pm cdv ct oc:ae} {an od:Option af} {osl:Array (Option ae)} {N ps:List Str} {t:DS}
  (lk:K.lookup f=some ⟨oc,od,.func (bA name qual params body scope dV kV doc pm an cdv ct),osl⟩) (hcd:dk K cdv qual=true) (S:z13 N ps scope) (hi:N[i]?=some x) (hx:¬ Vis scope x)
  (hbody:∀ (A:ba) (outer:List Env) (s:ai) (H:Hp) (E:XK),me k (A.deeper (bf qual scope s.heap.objs.size f cdv))->z5F (cxX Cl P w K mg base N qual scope f cdv A outer s H E) (Xk Cl E) body t):
  mq P w K mg base (CXr P w Cl) (k + 1) f (bA name qual params body scope dV kV doc pm an cdv ct) ps (zgo K (Xk Cl) ps.length Pt (zlc N.length i Pt t)):=by
 refine z1d lk hcd S (fun vs H Q E h=>h.1) fun A outer s H vs Q E hr h=>?_
 obtain ⟨hl,hid,μ,ds,O,d,c,ti,qq⟩:=h
 refine ⟨_,PSs.fake (v:=.bl false) hi hx (hbody A outer s H E hr).out,hid,μ,_,O,(z6o d N).set (d:=.tab Pt) (v:=.bl false) (by unfold Dat;exact ⟨rfl,ti⟩) i,c,?_⟩
 unfold zlc at qq
 generalize t ((ds.map some ++ aq (N.length - ds.length) none).set i (some (.tab Pt))) O=r at qq
 cases r with
 | nx σ O'=>exact fun σv H' μ' x e c'=>qq .non H' μ' x c' z5i
 | rt d' O'=>exact fun v H' μ' x c' r=>qq v H' μ' x c' r
 | bk σ O'=>exact ak qq
 | ct σ O'=>exact ak qq
 | exc c' O'=>exact fun H' μ' x c2=>qq H' μ' x c2
 | bad=>exact ak qq
structure z78 (mg:Str->Option ae) (base:aP) (c Pt:af):Prop where
 hd:lG base c Pt
 bl:base.BuiltinsAt mg Pt
theorem zdf
  (KX:K.In s₁.heap) (hns:s₁.heap.Ns bz mg) (hb:s₁.heap.Ns builtinsNs mb) (hbb:∀ x:Str,x ≠ "__name__"->mb x=a8 x) (hlim:s₁.heap.NoLimit) (hg:s₁.gens = #[]) (htk:0 < s₁.toks)
  (ha:s₁.heap.get? a=some { cls:=.type "list",data:=.seq vs.toArray }) (hi:kO vs ns) (hl:ns.length <= sizeLine) (hr:me k callerA)
  (hC:lG s₁.heap c Pt) (hP:s₁.heap.get? Pt=some (jD #[])) (hK:hJ K=true) (hB:s₁.heap.BuiltinsAt mg Pt)
  (F:∀ base:aP,K.In base->base.Ns bz mg->z78 mg base c Pt->mq P w K mg base CX k fa fd [x] sp) (hbind:∀ (s:ai) (u:ae),gx s fd ⟨[u],[]⟩ [(x,u)])
  (hsp:∀ H:Hp,H Pt=some (.tbl #[])->SqL K H a (ns.map V.int)->sp [.ref a] H (fun v _=>v=.bl true) fun _ _ _=>False)
  (hCX:∀ H e s',CX [] H s₁ (fun _ _ _=>False) e s'->False):
  codeAny (ay P w) callerA (.call (.ref fa) ⟨[.ref a],[]⟩) (fun r s'=>r=.ok (.ret (.bool true))/\OldK s₁.heap s'.heap/\s'.os=s₁.os/\fi s'.gens) s₁:=by
 have rv:=z8W hi
 have lenV:=hi.length
 have naP:a ≠ Pt:=by rintro rfl;rw [ha] at hP;cases hP
 have nKP:K.lookup Pt=none:=by
  cases q:K.lookup Pt with
  | none=>rfl
  | some o=>
   have e:=KX Pt o q
   rw [hP] at e;cases e
   have h2:=aG.mp hK (Pt,_) (PySem.W.mem_of_lookupK q)
   exact absurd (show false=true from h2) bH
 -- H: the table, and the script where it is none of the module's objects
 have core:∀ H:Hp,H Pt=some (.tbl #[])->SqL K H a (ns.map V.int)->HOk P w H s₁.heap->(∀ b,H b ≠ none->b=a \/ b=Pt)->(H a=none \/ (K.lookup a=none/\∃ o xs,H a=some (.frz o (.lst xs))))->
   codeAny (ay P w) callerA (.call (.ref fa) ⟨[.ref a],[]⟩) (fun r s'=>r=.ok (.ret (.bool true))/\OldK s₁.heap s'.heap/\s'.os=s₁.os/\fi s'.gens) s₁:=by
  intro H hT hS hok hA hKa
  have base_of:∀ {b:af} {o:Obj},s₁.heap.get? b=some o->H b=none->(zep s₁.heap H).get? b=some o:=fun e n=>zeX e n
  have noA:∀ {b:af} {o:Obj} {es:Array DictEntry} {ep:Nat},s₁.heap.get? b=some o->o.data=.dict es ep->H b=none:=fun {b o es ep} e d=>by
   cases q:H b with
   | none=>rfl
   | some u=>
    rcases hA b (by rw [q];simp) with e'|e'
    ·subst e'
     rw [ha] at e;cases e
     have d':Data.seq vs.toArray _=Data.dict es ep:=d
     cases d'
    ·subst e'
     rw [hP] at e;cases e
     have d':Data.fields #[]=Data.dict es ep:=d
     cases d'
  have nsK:∀ {b:af} {m:Str->Option ae},s₁.heap.Ns b m->(zep s₁.heap H).Ns b m:=fun {b m} ⟨o,es,ep,e,d,r⟩=>⟨o,es,ep,base_of e (noA e d),d,r⟩
  have hKb:K.In (zep s₁.heap H):=fun b o e=>base_of (KX b o e) (by
   cases q:H b with
   | none=>rfl
   | some u=>
    rcases hA b (by rw [q];simp) with e'|e'
    ·subst e'
     rcases hKa with z|⟨z,_⟩
     ·rw [z] at q;cases q
     ·rw [z] at e;cases e
    ·subst e'
     rw [nKP] at e;cases e)
  have hM:Mod K mg (zep s₁.heap H):=⟨hKb,nsK hns,⟨mb,nsK hb,hbb⟩,let ⟨mc,h1,h2⟩:=hlim;⟨mc,nsK h1,h2⟩⟩
  have e0:zg7 P w K mg (zep s₁.heap H) callerA [] s₁ H:=⟨rfl,hM,fun b o e=>zhw e,Nat.le_of_eq (zdv _ _),trivial,fun b hb=>absurd (show b ∈ ([]:List af) from hb) (by simp),hok,.of_eq hg,htk⟩
  have noC:∀ {b:af} {o:Obj},s₁.heap.get? b=some o->o.cls ≠ .none->(o.cls ≠ .type "list")->H b=none:=fun {b o} e d1 d2=>by
   cases q:H b with
   | none=>rfl
   | some u=>
    rcases hA b (by rw [q];simp) with e'|e'
    ·subst e';rw [ha] at e;cases e;exact absurd rfl d2
    ·subst e';rw [hP] at e;cases e;exact absurd rfl d1
  have hL:z78 mg (zep s₁.heap H) c Pt:=by
   obtain ⟨o,vs,file,tf,flags,tg,inF,text,tt,e1,r1,r⟩:=hC
   obtain ⟨bm,ob,b1,b2,b3,b4,b5,b6,b7,b8⟩:=hB
   exact ⟨⟨o,vs,file,tf,flags,tg,inF,text,tt,base_of e1 (noC e1 (by rw [r1];exact fun z=>nomatch z) (by rw [r1];decide)),r1,r⟩,⟨bm,ob,b1,b2,b3,b4,base_of b5 (noC b5 (by rw [b6];exact fun z=>nomatch z) (by rw [b6];decide)),b6,b7,b8⟩⟩
  refine dU ((F _ hKb (nsK hns) hL).run callerA [] s₁ H ⟨[.ref a],[]⟩ [.ref a] [.ref a] _ _ hr e0 (hbind s₁ (.ref a)) (.cons rfl .nil) (hsp H hT hS)) fun r s' h=>?_
  cases r with
  | error e=>exact (hCX H e s' h).elim
  | ok fl=>
   cases fl with
   | next=>exact ak h
   | brk=>exact ak h
   | cont=>exact ak h
   | ret u=>
    obtain ⟨⟨v,H',os,bare,un,hok',r',q⟩,_⟩:=h
    have q':v=.bl true:=q
    subst q'
    obtain rfl:u=Value.bool true:=r'
    obtain ⟨more,hT'⟩:=un.tbls Pt #[] hT
    have hP':s'.heap.get? Pt=some { cls:=.none,data:=.fields (#[] ++ more) }:=hok' Pt _ hT'
    refine ⟨rfl,⟨fun b o e=>?_,fun b o e=>?_⟩,os,bare⟩
    ·by_cases hbP:b=Pt
     ·subst hbP
      rw [hP] at e;cases e
      exact .inr (.inl ⟨(hC.tab hP).isCodeTable,rfl,#[],more,rfl,hP'⟩)
     ·cases q:H b with
      | none=>exact .inl (un.keep b o e q (by intro z;exact absurd (show b ∈ ([]:List af) from z) (by simp)) (by simp))
      | some u=>
       rcases hA b (by rw [q];simp) with e'|e'
       ·subst e'
        rcases hKa with z|⟨_,ob,xs,z⟩
        ·rw [q] at z;cases z
        ·have z2:=un.frzs b ob _ z
         obtain ⟨e1,_⟩:=hok b _ z
         obtain ⟨e2,_⟩:=hok' b _ z2
         rw [e] at e1;cases e1
         exact .inl e2
       ·exact absurd e' hbP
    ·exact un.there b o e (by simp)
 cases hk:K.lookup a with
 | some o=>
  have e:=KX a o hk
  rw [ha] at e
  cases e
  refine core (fun b=>if b=Pt then some (.tbl #[]) else none) (if_pos rfl) (.inr ⟨_,vs.toArray,_,hk,rfl,rfl,rfl,by rw [aA,lenV];exact hl,by simpa using rv⟩) (fun b u z=>?_) (fun b z=>?_) (.inl (if_neg naP))
  ·by_cases hb:b=Pt
   ·have z':=(if_pos hb).symm.trans z
    cases z';subst hb;exact hP
   ·have z':=(if_neg hb).symm.trans z
    cases z'
  ·by_cases hb:b=Pt
   ·exact .inr hb
   ·exact absurd (if_neg hb) z
 | none=>
  refine core (fun b=>if b=Pt then some (.tbl #[]) else if b=a then some (.frz { cls:=.type "list",data:=.seq vs.toArray } (.lst (ns.map V.int))) else none) (if_pos rfl) (.inl (.inr ⟨{ cls:=.type "list",data:=.seq vs.toArray },(if_neg naP).trans (if_pos rfl)⟩)) (fun b u z=>?_) (fun b z=>?_) (.inr ⟨hk,_,_,(if_neg naP).trans (if_pos rfl)⟩)
  ·by_cases hb:b=Pt
   ·have z':=(if_pos hb).symm.trans z
    cases z';subst hb;exact hP
   ·by_cases hb2:b=a
    ·have z':=((if_neg hb).trans (if_pos hb2)).symm.trans z
     cases z'
     subst hb2
     exact ⟨ha,by rw [az];exact hl,vs,_,rv,ha⟩
    ·have z':=((if_neg hb).trans (if_neg hb2)).symm.trans z
     cases z'
  ·by_cases hb:b=Pt
   ·exact .inr hb
   ·by_cases hb2:b=a
    ·exact .inl hb2
    ·exact absurd ((if_neg hb).trans (if_neg hb2)) z
theorem z8b {pos pos':Pos} {c cv:ae} (l:List ae) (h:TriplesOk l) (e:codeAmong pos' (l ++ [bj pos.line,bj pos.col,c])=some cv):codeAmong pos' l=some cv \/ cv=c:=by
 fun_induction TriplesOk l with
 | case1=>
  simp only [cG,codeAmong,bj] at e
  split at e
  ·cases e;exact .inr rfl
  ·cases e
 | case2 a t b u x z2C ih=>
  simp only [gq,codeAmong] at e ⊢
  split at e
  ·rename_i hc;rw [if_pos hc];exact .inl e
  ·rename_i hc;rw [if_neg hc];exact ih h e
 | case3 l h1 h2=>exact h.elim
theorem zeg {q:Str} {H:Hp} {P c:af} {pos:Pos} {ps:Array ae} (h1:H P=some (.tbl ps)) (hc:H c=none) (P2:af) (t2:ml H P2):
  ml (upd (upd H P (.tbl (ps ++ #[bj pos.line,bj pos.col,.ref c]))) c (.ext fun h=>h.CodeRec (.ref c) q)) P2:=by
 have nc:∀ {b:af} {o:HO},H b=some o->b ≠ c:=fun e=>z0Z e hc
 obtain ⟨ps2,g1,g2,g3⟩:=t2
 have codes:∀ {b:af} {φ:aP->Prop},H b=some (.ext φ)->upd (upd H P (.tbl (ps ++ #[bj pos.line,bj pos.col,.ref c]))) c (.ext fun h=>h.CodeRec (.ref c) q) b=some (.ext φ):=fun {b φ} e=>by
  rw [z0Y (nc e),z0Y (zm2 e h1 (fun z=>nomatch z))];exact e
 by_cases hP:P2=P
 ·subst hP
  rw [h1] at g1;cases g1
  refine ⟨_,by rw [z0Y (nc h1),z18],?_,fun p cv e=>?_⟩
  ·rw [kl];exact TriplesOk_snoc _ _ _ _ g2
  ·rw [kl] at e
   rcases z8b _ g2 e with e|e
   ·obtain ⟨c2,φ,rfl,k1,k2⟩:=g3 p cv e
    exact ⟨c2,φ,rfl,codes k1,k2⟩
   ·exact ⟨c,_,e,z18,fun h z=>⟨q,z⟩⟩
 ·refine ⟨ps2,by rw [z0Y (nc g1),z0Y hP];exact g1,g2,fun p cv e=>?_⟩
  obtain ⟨c2,φ,rfl,k1,k2⟩:=g3 p cv e
  exact ⟨c2,φ,rfl,codes k1,k2⟩
section
variable {X:Cx} {pins:List (af × Obj)} {σv:St} {H:Hp} {s:ai} {E:ae->ai->Prop}
abbrev z9Z (H:Hp) (P c:af) (ps:Array ae) (pos:Pos) (q:Str):Hp:=upd (upd H P (.tbl (ps ++ #[bj pos.line,bj pos.col,.ref c]))) c (.ext fun h=>h.CodeRec (.ref c) q)
theorem z3w (h1:H P=some (.tbl ps)) (hc:H c=none) (e:H b=some o) (ht:zbV o):z9Z H P c ps pos q b=some o:=by
 have n1:b ≠ P:=by rintro rfl;rw [h1] at e;cases e;exact ht _ rfl
 show upd (upd H P _) c _ b=some o
 rw [z0Y (z0Z e hc),z0Y n1];exact e
theorem z9B (h1:H P=some (.tbl ps)) (hc:H c=none) (μ:List af):Ext H μ (z9Z H P c ps pos q) μ:=
 ⟨⟨[],by simp⟩,fun b o e _ ht=>z3w h1 hc e ht,fun _ m=>.inl m,fun b h=>z1G b (z1G b h),fun P2 t2=>zeg h1 hc P2 t2⟩
theorem z9T (h1:H P=some (.tbl ps)) (hc:H c=none) (cl:l7 K H hid μ O):l7 K (z9Z H P c ps pos q) hid μ O:=by
 refine ⟨cl.len,cl.nd,cl.nh,fun a m=>z1G a (z1G a (cl.ht a m)),fun k a e=>?_⟩
 obtain ⟨ds,vs,g1,g2,g3⟩:=cl.at_ k a e
 exact ⟨ds,vs,g1,z3w h1 hc g2 (by intro ps z;cases z),g3.ext (z9B h1 hc μ)⟩
theorem z4T {h h':aP} {c:af} {q:Str} (x:h.CodeRec (.ref c) q) (k:∀ o,h.get? c=some o->h'.get? c=some o):h'.CodeRec (.ref c) q:=by
 obtain ⟨c2,o,vs,t,e,ho,r⟩:=x
 cases e
 exact ⟨c,o,vs,t,rfl,k o ho,r⟩
theorem zg6 {c P:af} {params:dX} {body:aK} {scope:b9} {pos:Pos} {clos:List (Str × af)} {Q:ae->ai->Prop} (I:L2.Inv X pins σv H s) (L:z78 X.mg X.base c P) (hcode:X.env.code=.ref c) (ti:ml H P)
  (hcl:closureFor scope X.env=pure clos) (hdef:defaultsOf params X.env=([],[]))
  (h:∀ (lam:af) (cd ctv:ae) (h':aP) (tk:Tok) (H':Hp),L2.Inv X pins σv H' { s with heap:=h',toks:=tk }->(∀ μ,Ext H μ H' μ)->(∀ hid μ O,l7 X.K H hid μ O->l7 X.K H' hid μ O)->H' lam=none->s.heap.objs.size <= lam->
   h'.get? lam=some { cls:=.type "function",data:=.func (c8 "<lambda>" (X.env.qual ++ "<lambda>") params body scope clos ((X.mg "__name__").getD .none) cd ctv) }->(∃ c φ,cd=.ref c/\H' c=some (.ext φ)/\∀ h:aP,φ h->∃ q,h.CodeRec (.ref c) q)->Q (.ref lam) { s with heap:=h',toks:=tk }):
  ar (ay X.prog X.w) X.A (eval (.Lambda params body scope pos) X.env) Q E s:=by
 obtain ⟨ps,h1,h2,h3⟩:=id ti
 have hP:s.heap.get? P=some (jD ps):=I.hok P _ h1
 have hg:s.heap.Ns bz X.mg:=I.mod.glob.keeps I.bk
 have hgP:bz ≠ P:=fun z=>by
  obtain ⟨o,es,ep,e,hd,_⟩:=hg
  rw [z,hP] at e;cases e;cases hd
 have hb:s.heap.BuiltinsAt X.mg P:=by
  obtain ⟨bm,ob,b1,b2,b3,b4,b5,r⟩:=L.bl
  exact ⟨bm,ob,b1,b2,b3,b4,I.bk _ _ b5,r⟩
 have hd:=L.hd.keeps I.bk
 refine PySem.W.kla_eval hdef ?_
 cases hca:codeAmong pos ps.toList with
 | some cv=>
  obtain ⟨c',φ,rfl,k1,k2⟩:=h3 pos cv hca
  obtain ⟨q,k3⟩:=k2 _ (I.hok c' _ k1).1
  refine wT I (PySem.W.kla_makeFunctionHit (mg:=X.mg) hcl I.ok.glob hg hcode hd hP h2 hca hb fun ctv h' tk hk hsz htk=>?_)
  have kp:∀ b u,s.heap.get? b=some u->(h'.push { cls:=.type "function",data:=.func (c8 "<lambda>" (X.env.qual ++ "<lambda>") params body scope clos ((X.mg "__name__").getD .none) (.ref c') ctv) }).get? b=some u:=fun b u e=>ah _ (hk b u e)
  exact h h'.objs.size (.ref c') ctv _ tk H (I.kept (t':=tk) kp) (fun μ=>.refl) (fun _ _ _ z=>z) (I.hok.fresh hsz) hsz (aC _ rfl) ⟨c',φ,rfl,k1,k2⟩
 | none=>
  refine wT I (PySem.W.kla_makeFunction (mg:=X.mg) hcl I.ok.glob hg hcode hd hP h2 hca hgP hb fun c' ctv h' tk hx hge hlt hrec htb htk=>?_)
  have hc:H c'=none:=I.hok.fresh hge
  have nP:∀ {b:af},H b=none->b ≠ P:=fun e=>bo (z0Z h1 e)
  have kp:∀ b u,b ≠ P->s.heap.get? b=some u->(h'.push (jl "<lambda>" (X.env.qual ++ "<lambda>") params body scope clos ((X.mg "__name__").getD .none) c' ctv)).get? b=some u:=fun b u n e=>ah _ (hx b u n e)
  have hP':(h'.push (jl "<lambda>" (X.env.qual ++ "<lambda>") params body scope clos ((X.mg "__name__").getD .none) c' ctv)).get? P=some (jD (ps ++ #[bj pos.line,bj pos.col,.ref c'])):=ah _ htb
  have hrec':(h'.push (jl "<lambda>" (X.env.qual ++ "<lambda>") params body scope clos ((X.mg "__name__").getD .none) c' ctv)).CodeRec (.ref c') (X.env.qual ++ "<lambda>"):=z4T hrec fun o e=>ah _ e
  have hnew:∀ {b:af},s.heap.objs.size <= b->b ≠ c'->z9Z H P c' ps pos (X.env.qual ++ "<lambda>") b=none:=fun {b} hb n=>by
   have e:=I.hok.fresh hb
   show upd (upd H P _) c' _ b=none
   rw [z0Y n,z0Y (nP e)];exact e
  refine h h'.objs.size (.ref c') ctv _ tk (z9Z H P c' ps pos (X.env.qual ++ "<lambda>")) ?_ (z9B h1 hc) (fun _ _ _ z=>z9T h1 hc z) (hnew (eI (fM hge hlt)) (cM hlt)) (eI (fM hge hlt)) (aC _ rfl) ⟨c',_,rfl,z18,fun h z=>⟨_,z⟩⟩
  have hfree:∀ b o,s.heap.get? b=some o->H b=none->z9Z H P c' ps pos (X.env.qual ++ "<lambda>") b=none:=fun b o e n=>by
   show upd (upd H P _) c' _ b=none
   rw [z0Y (aX (aN (aF e) hge)),z0Y (nP n)];exact n
  refine I.step (g':=s.gens) (d':=s.drawn) (ch:=[]) (fun _ z=>nomatch z) (fun b o _ _ _ e n=>kp b o (nP n) e) (fun b o _ _ _ e n=>⟨o.slots,kp b o (nP n) e⟩) (fun b o _ e n=>hfree b o e n) (fun b o _ e=>?_)
   (fun b xs e=>z3w h1 hc e (by intro ps z;cases z)) (fun b o u e=>z3w h1 hc e (by intro ps z;cases z)) (fun b ps2 e=>?_) (fun m hm=>?_) ?_ I.bare htk
  ·by_cases hbP:b=P
   ·subst hbP;exact ⟨_,hP'⟩
   ·exact ⟨o,kp b o hbP e⟩
  ·by_cases hbP:b=P
   ·subst hbP
    rw [h1] at e;cases e
    exact ⟨_,by show upd (upd H b _) c' _ b=_;rw [z0Y (z0Z h1 hc),z18]⟩
   ·exact ⟨#[],by show upd (upd H P _) c' _ b=_;rw [z0Y (z0Z e hc),z0Y hbP,e];simp⟩
  ·obtain ⟨o,es,ep,e,r⟩:=hm
   exact ⟨o,es,ep,kp _ o (nP I.free) e,r⟩
  ·intro b u e
   by_cases hbc:b=c'
   ·subst hbc
    have e':z9Z H P b ps pos (X.env.qual ++ "<lambda>") b=_:=z18
    rw [e'] at e;cases e
    refine ⟨hrec',?_,fun ha hb' za zk=>z4T za zk⟩
    obtain ⟨c2,o,vs,t,z,ho,_⟩:=hrec'
    cases z
    exact ⟨o,ho⟩
   ·have e1:upd H P (.tbl (ps ++ #[bj pos.line,bj pos.col,.ref c'])) b=some u:=(z0Y hbc).symm.trans e
    by_cases hbP:b=P
    ·subst hbP
     rw [z18] at e1;cases e1
     exact hP'
    ·have e2:H b=some u:=(z0Y hbP).symm.trans e1
     refine (I.hok b u e2).stay (fun b2 u2 hb2 z=>kp b2 u2 (fun zz=>?_) z) (fun b2 z=>z3w h1 hc z (by intro ps z;cases z)) fun b2 xs z=>z3w h1 hc z (by intro ps z;cases z)
     rcases hb2 with rfl|hb2
     ·exact hbP zz
     ·rw [zz,h1] at hb2;cases hb2
end
abbrev z9N (q:Str) (scope:b9) (L f:af) (cd:ae) (cl:List (Str × af)):Env:={ scope,locals:=L,globals:=bz,cells:=cl,qual:=q ++ ".<locals>.",func:=some f,code:=cd,frame:=some L,builtins:=builtinsNs }
section
variable {prog:aJ} {w:aR} {A:ba} {s:ai} {R:Result->ai->Prop}
theorem zhH (hroom:A.depth < recursionLimit)
  (ho:s.heap.get? lam=some { cls:=.type "function",data:=.func (c8 name qual params body scope cl pm cd ct) }) (hcd:s.heap.CodeRec cd q) (hco:scope.isCoroutine=false) (hgen:scope.isGenerator=false) (hk:scope.kind=.function) (hcell:∀ x ∈ scope.names,x.2 ≠ .cell)
  (hbind:bindArgs (c8 name qual params body scope cl pm cd ct) ⟨[],[]⟩=pure []) (hlim:s.heap.NoLimit)
  (h:∀ h',h'.Ns s.heap.objs.size (fun _=>none)->(∀ b o,s.heap.get? b=some o->h'.get? b=some o)->
   ar (ay prog w) (A.deeper (z9N q scope s.heap.objs.size lam cd cl)) (eval body (z9N q scope s.heap.objs.size lam cd cl)) (fun v s'=>R (.ok (.ret v)) s')
    (fun e s'=>ar (ay prog w) (A.deeper (z9N q scope s.heap.objs.size lam cd cl)) (leaving (z9N q scope s.heap.objs.size lam cd cl) e) (fun _ s''=>R (.error e) s'') (fun e' s''=>R (.error e') s'') s') { s with heap:=h' }):
  codeAny (ay prog w) A (.call (.ref lam) ⟨[],[]⟩) R s:=by
 refine gL ?_
 show ar _ A.in1 (callAny (.ref lam) ⟨[],[]⟩) _ _ s
 simp only [callAny]
 refine aa (wpAny_load ho ?_)
 obtain ⟨c,oc,vs,tq,hc,hoc,hdc,hq⟩:=hcd
 subst hc
 simp only [callFunction,hco,hgen]
 refine aa (m:=field (.ref c) 1) (bd hoc hdc hq (aa (am ?_)))
 rw [hbind]
 refine aa (am (aa ?_))
 refine wpAny_newFunctionEnv hcell (fun x hx=>nomatch hx) (fun h₁ hns hsb=>?_) hk
 have kp:∀ b o,s.heap.get? b=some o->h₁.get? b=some o:=fun b o e=>hsb.extBut b o (aX (aF e)) (ah _ e)
 refine aa (wpAny_enterFrame (hlim.keeps kp) hroom (am ⟨rfl,?_⟩))
 exact PySem.W.kla_codeExpr (h h₁ hns kp)
end
theorem zi0 {X:Cx} {E:XK} {Cl:Nat->ae} (hxe:X.xe=fun e s'=>ar (ay X.prog X.w) X.A (leaving X.env e) (fun _ s''=>CXr X.prog X.w Cl X.outer X.H₀ X.s₀ E e s'') (fun e' s''=>CXr X.prog X.w Cl X.outer X.H₀ X.s₀ E e' s'') s')
  (hst:X.stack=X.env :: X.outer) (hf:X.env.frame=some X.env.locals) (hex:X.ex=[]):XOk X (Xk Cl E) Cl:=by
 intro pins σ H1 s1 a c I x q
 have hfr:X.A.frames=some (X.env :: X.outer):=by rw [<- hst];exact I.ok.frames
 have hstk:s1.heap.FunFrames X.base (X.env :: X.outer):=by rw [<- hst];exact I.stack
 have hfree:∀ b ∈ frs (X.env :: X.outer),H1 b=none:=by rw [<- hst];exact I.stkFree
 have hbase:Un X.fs [] X.H₀ H1 X.s₀.heap s1.heap:=by have:=I.base;rw [hex] at this;exact this
 have hfs:frs (X.env :: X.outer)=X.env.locals :: X.fs:=by unfold frs;rw [cT,hf];rfl
 rw [hxe]
 show ar (ay X.prog X.w) X.A (leaving X.env (.ref a)) (fun _ s''=>CXr X.prog X.w Cl X.outer X.H₀ X.s₀ E (.ref a) s'') (fun e' s''=>CXr X.prog X.w Cl X.outer X.H₀ X.s₀ E e' s'') s1
 unfold leaving
 refine aa (zdh hfr hstk hf x (fun b hb=>I.hok.fresh hb) (fun b hb=>gF (bb I.sz hb)) fun h' kp xa=>?_)
 refine ⟨a,c,H1,rfl,I.os,I.tk,I.bare,?_,kp.hok I.hok hfree,xa,q⟩
 refine ⟨fun b o e n hb hx=>?_,fun b o e n hb hx=>?_,fun b o e n hx=>hbase.free b o e n hx,fun b o e hx=>?_,hbase.tups,hbase.frzs,hbase.tbls⟩
 ·refine kp.keep b o (hbase.keep b o e n hb hx) (fun z=>?_) (.inr (by rw [e];exact fun z=>nomatch z))
  rw [hfs] at z
  rcases av.mp z with z2|z2
  ·exact absurd (aN (aF e) I.ok.above) (by rw [z2];exact bE _)
  ·exact hb z2
 ·obtain ⟨sl,e1⟩:=hbase.slot b o e n hb hx
  obtain ⟨sl',e2⟩:=kp.slot b _ e1 (by rw [hfs];exact au _ hb)
  exact ⟨sl',e2⟩
 ·obtain ⟨o',e1⟩:=hbase.there b o e hx
  exact kp.there b o' e1
def cxL (CX:CXT) (P:aJ) (w:aR) (K:aj) (mg:Str->Option ae) (base:aP) (N:List Str) (env:Env) (A:ba) (outer:List Env) (s:ai) (H:Hp) (E:XK):Cx where
 prog:=P
 w:=w
 K:=K
 mg:=mg
 base:=base
 A:=A.deeper env
 N:=N
 s₀:=s
 H₀:=H
 env:=env
 outer:=outer
 stack:=env :: outer
 ex:=[]
 calm:=true
 fn:=fun _=>false
 pn:=[]
 xe:=fun e s'=>ar (ay P w) (A.deeper env) (leaving env e) (fun _ s''=>CX outer H s E e s'') (fun e' s''=>CX outer H s E e' s'') s'
section
variable {CX:CXT} {P:aJ} {w:aR} {K:aj} {mg:Str->Option ae} {base:aP} {N:List Str} {A:ba} {outer:List Env} {s:ai} {H:Hp} {E:XK} {Cl:Nat->ae} {q:Str} {scope:b9} {lam:af} {cd:ae} {cl:List (Str × af)} {σ:St} {h':aP}
theorem zgV:XOk (cxL (CXr P w Cl) P w K mg base N (z9N q scope s.heap.objs.size lam cd cl) A outer s H E) (Xk Cl E) Cl:=zi0 rfl rfl rfl rfl
theorem zho (e0:zg7 P w K mg base A outer s H) (hd:A.handled=none) (hk:scope.kind=.function) (hvis:∀ x,Vis scope x->scope.names.lookup x=some .free)
  (cells:∀ x c,cl.lookup x=some c->(∃ v,s.heap.IsCell c v)/\H c=none) (inj:∀ x y c,cl.lookup x=some c->cl.lookup y=some c->x=y) (has:∀ x,scope.names.lookup x=some .free->∃ c,cl.lookup x=some c)
  (vals:∀ (i:Nat) x v,N[i]?=some x->σ[i]?=some (some v)->scope.names.lookup x=some .free->∃ u c,RelV v u/\cl.lookup x=some c/\s.heap.IsCell c (some u)) (len:σ.length=N.length)
  (hns:h'.Ns s.heap.objs.size (fun _=>none)) (kp:∀ b o,s.heap.get? b=some o->h'.get? b=some o):
  L2.Inv (cxL CX P w K mg base N (z9N q scope s.heap.objs.size lam cd cl) A outer s H E) [] σ H { s with heap:=h' }:=by
 have cellK:∀ {c:af} {v:Option ae},s.heap.IsCell c v->h'.IsCell c v:=fun {c v} ⟨o,ho,r⟩=>⟨o,kp c o ho,r⟩
 have noA:∀ b:af,b ∉ (cxL CX P w K mg base N (z9N q scope s.heap.objs.size lam cd cl) A outer s H E).ex:=fun b z=>absurd (show b ∈ ([]:List af) from z) (by simp)
 refine ⟨⟨e0.mod,hk,rfl,rfl,aB _,inj,fun y hy=>?_,fun y c z _=>absurd (show false=true from z) (by decide),fun _=>hd,jP e0.frames,.inr ⟨rfl,rfl⟩,fun b z=>absurd z (noA b),e0.bs,e0.bsz,fun b _ _=>noA b,fun b z=>absurd z (noA b),e0.funs,e0.frf⟩,
  rfl,e0.bare,Un.kept kp,⟨_,hns,fun i y v g1 g2 g3=>?_⟩,fun y c g=>?_,e0.hok.fresh (aB _),fun y c g=>(cells y c g).2,fun p hp=>absurd (show p ∈ ([]:List (af × Obj)) from hp) (by simp),e0.hok.kept kp,len,e0.tk⟩
 ·have hy':scope.names.lookup y=some .cell \/ scope.names.lookup y=some .free:=hy
  exact has y (hvis y (hy'.elim (fun z=>.inr (.inl z)) fun z=>.inr (.inr z)))
 ·obtain ⟨u,c,r,g4,g5⟩:=vals i y v g1 g2 (hvis y g3)
  exact ⟨u,r,.inr ⟨.inr (hvis y g3),c,g4,cellK g5⟩⟩
 ·obtain ⟨⟨v,z⟩,_⟩:=cells y c g
  exact ⟨v,cellK z⟩
theorem zjd (hr:me (k + 1) A) (e0:zg7 P w K mg base A outer s H)
  (ho:s.heap.get? lam=some { cls:=.type "function",data:=.func (c8 name qual params body scope cl pm cd ct) }) (hcd:s.heap.CodeRec cd q) (hco:scope.isCoroutine=false) (hgen:scope.isGenerator=false) (hk:scope.kind=.function) (hcell:∀ x ∈ scope.names,x.2 ≠ .cell)
  (hbind:bindArgs (c8 name qual params body scope cl pm cd ct) ⟨[],[]⟩=pure []) (hvis:∀ x,Vis scope x->scope.names.lookup x=some .free)
  (cells:∀ x c,cl.lookup x=some c->(∃ v,s.heap.IsCell c v)/\H c=none) (inj:∀ x y c,cl.lookup x=some c->cl.lookup y=some c->x=y) (has:∀ x,scope.names.lookup x=some .free->∃ c,cl.lookup x=some c)
  (vals:∀ (i:Nat) x v,N[i]?=some x->σ[i]?=some (some v)->scope.names.lookup x=some .free->∃ u c,RelV v u/\cl.lookup x=some c/\s.heap.IsCell c (some u)) (len:σ.length=N.length)
  (hbody:me k (A.deeper (z9N q scope s.heap.objs.size lam cd cl))->PD (cxL (CXr P w Cl) P w K mg base N (z9N q scope s.heap.objs.size lam cd cl) A outer s H E) (Xk Cl E) body t)
  (e1:l9 K H hid μ σd σ) (c1:l7 K H hid μ O) (qq:z1q (Xk Cl E) K H hid μ (t σd O) Q):codeAny (ay P w) A (.call (.ref lam) ⟨[],[]⟩) (CR (CXr P w Cl) outer P w H s Q E) s:=by
 refine zhH hr.depth ho hcd hco hgen hk hcell hbind (e0.mod.nolimit.keeps fun b o e=>(e0.bs b o e).1) fun h' hns kp=>?_
 refine c7 ((hbody (hr.deeper _)).out [] _ σ H Q (zho e0 hr.hd hk hvis cells inj has vals len hns kp) ⟨hid,μ,σd,O,e1,c1,qq⟩) (fun v s' ⟨v',H',J,rv,z⟩=>?_) fun e s' z=>z
 exact ⟨⟨v',H',J.os,J.bare,J.base,J.hok,rv,z⟩,J.tk⟩
end
section
variable {M:jh} {A:ba} {E:ae->ai->Prop} {s:ai} {base h0:aP} {H:Hp} {frames:List Env} {a:af} {C:ae} {Q:Unit->ai->Prop}
theorem Kp.refl:Kp h0 H fs h h:=⟨fun _ _ e _ _=>e,fun b o e _=>⟨o.slots,e⟩,fun _ o e=>⟨o,e⟩,aB _⟩
theorem Kp.trans (x:Kp h0 H fs h h1) (y:Kp h0 H fs h1 h2):Kp h0 H fs h h2:=
 ⟨fun b o e n k=>y.keep b o (x.keep b o e n k) n k,fun b o e n=>by
  obtain ⟨sl,e1⟩:=x.slot b o e n
  obtain ⟨sl',e2⟩:=y.slot b _ e1 n
  exact ⟨sl',e2⟩,fun b o e=>by
  obtain ⟨o1,e1⟩:=x.there b o e
  exact y.there b o1 e1,bb x.size y.size⟩
theorem zeO (hl:s.heap.FunFrames base frames) (x:XAt h0 H s.heap a C) (h:∀ h',Kp h0 H (frs frames) s.heap h'->XAt h0 H h' a C->Q () { s with heap:=h' }):ar M A (setFlight (.ref a) none) Q E s:=by
 obtain ⟨⟨oe,vs,he,hC,hd,hsz,ht⟩,new,free⟩:=id x
 unfold setFlight
 rcases ht with h1|⟨T,oT,ts,h1,nT,newT,freeT,hT,hdT,h3⟩
 ·refine aa (bd he hd h1 ?_)
  rw [if_neg (by decide)]
  exact am (h s.heap .refl x)
 ·refine aa (bd he hd h1 ?_)
  rw [if_pos (show (cP T != cj)=true by simp)]
  refine dN hT hdT (fz.mp h3).1 (h _ ?_ ?_)
  ·have oth:∀ b,b ≠ T->(s.heap.update T (en (·.setIfInBounds 3 ((none:Option af).elim cj fun f=>bj f)))).get? b=s.heap.get? b:=fun b hb=>bq _ _ (bo hb)
   refine ⟨fun b o e hb hk=>(oth b fun z=>?_).trans e,fun b o e hb=>⟨o.slots,(oth b fun z=>?_).trans e⟩,fun b o e=>?_,by rw [gp];exact aB _⟩
   ·subst z
    rcases hk with q|q
    ·exact q freeT
    ·exact q newT
   ·subst z
    obtain ⟨_,o',ho',hnf⟩:=hl.mem hb
    rw [hT] at ho';cases ho'
    exact hnf ts hdT
   ·by_cases hb:b=T
    ·subst hb;exact ⟨_,bC _ hT (cE (cf hdT _))⟩
    ·exact ⟨o,(oth b hb).trans e⟩
  ·refine ⟨⟨oe,vs,(bq _ _ nT).trans he,hC,hd,hsz,.inr ⟨T,_,_,h1,nT,newT,freeT,bC _ hT (cE (cf hdT _)),cf hdT _,?_⟩⟩,new,free⟩
   rw [gg,if_pos (fz.mp h3).1];rfl
end
section
variable {X:Cx} {pins:List (af × Obj)} {σ:St} {H H1:Hp} {s s1:ai}
abbrev Cx.mk' (X:Cx) (a:af):Cx:={ X with A:=X.A.mark (some (.ref a)),calm:=false,xe:=fun _ _=>False }
theorem Inv.mk' (I:L2.Inv X pins σ H s) (a:af):L2.Inv (Cx.mk' X a) pins σ H s:=
 ⟨⟨I.ok.mod,I.ok.kind,I.ok.glob,I.ok.blt,I.ok.above,I.ok.inj,I.ok.has,I.ok.cab,fun z=>absurd (show false=true from z) (by decide),I.ok.frames,I.ok.stk,I.ok.exf,I.ok.bs,I.ok.bsz,I.ok.noex,I.ok.exfs,I.ok.funs,I.ok.frf⟩,I.os,I.bare,I.base,I.loc,I.cell,I.free,I.freeC,I.pin,I.hok,I.len,I.tk⟩
theorem Inv.unmk' (ok:X.Ok) (I:L2.Inv (Cx.mk' X a) pins σ H s):L2.Inv X pins σ H s:=
 ⟨ok,I.os,I.bare,I.base,I.loc,I.cell,I.free,I.freeC,I.pin,I.hok,I.len,I.tk⟩
theorem Inv.raised (I:L2.Inv X pins σ H s) (os:s1.os=s.os) (htk:0 < s1.toks) (bare:fi s1.gens) (un:Un (frs X.stack) [] H H1 s.heap s1.heap) (hok:HOk X.prog X.w H1 s1.heap) (kp:Kp s.heap H1 (frs X.stack) s1.heap h'):L2.Inv X pins σ H1 { s1 with heap:=h' }:=by
 have I1:L2.Inv X pins σ H1 s1:=I.call' (ch:=[]) os un hok bare (fun b z=>absurd z (by simp))
 refine I.call' (s':={ s1 with heap:=h' }) (ch:=[]) os ?_ (kp.hok hok I1.stkFree) bare (fun b z=>absurd z (by simp))
 refine ⟨fun b o e n hb hx=>kp.keep b o (un.keep b o e n hb hx) hb (.inr (by rw [e];exact fun z=>nomatch z)),fun b o e n hb hx=>?_,un.free,fun b o e hx=>?_,un.tups,un.frzs,un.tbls⟩
 ·obtain ⟨sl,e1⟩:=un.slot b o e n hb hx
  obtain ⟨sl',e2⟩:=kp.slot b _ e1 hb
  exact ⟨sl',e2⟩
 ·obtain ⟨o',e1⟩:=un.there b o e hx
  exact kp.there b o' e1
theorem Inv.track (I:L2.Inv X pins σ H1 s1) (x:XAt s.heap H1 s1.heap a (.ref C)) (I0:L2.Inv X pins σ H s):L2.Inv X pins σ (upd H1 a (.ext fun h=>∃ ox,cq h a ox C none)) s1:=by
 obtain ⟨⟨oe,vs,he,hC,hd,hsz,_⟩,new,free⟩:=x
 have neA:∀ b o,s.heap.get? b=some o->b ≠ a:=fun b o e z=>by rw [z,new] at e;cases e
 have hinst:cq s1.heap a oe C none:=⟨he,hC.1,by unfold PySem.W.notCls;rw [hd],by rw [hC.2];trivial⟩
 have old:∀ {b:af} {u:HO},H1 b=some u->upd H1 a (.ext fun h=>∃ ox,cq h a ox C none) b=some u:=fun {b u} e=>by rw [z0Y (z0Z e free)];exact e
 have fr:∀ {b:af},H1 b=none->b ≠ a->upd H1 a (.ext fun h=>∃ ox,cq h a ox C none) b=none:=fun {b} e n=>by rw [z0Y n];exact e
 have there:∀ b,b ∉ X.ex->(∃ o,X.s₀.heap.get? b=some o)->b ≠ a:=fun b hx ⟨o,e⟩=>by
  obtain ⟨o',e'⟩:=I0.base.there b o e hx
  exact neA b o' e'
 refine ⟨I.ok,I.os,I.bare,⟨I.base.keep,I.base.slot,fun b o e n hx=>fr (I.base.free b o e n hx) (there b hx ⟨o,e⟩),I.base.there,fun b xs e=>old (I.base.tups b xs e),fun b o u e=>old (I.base.frzs b o u e),fun b ps e=>?_⟩,I.loc,I.cell,?_,fun x c e=>?_,fun p hp=>?_,fun b u e=>?_,I.len,I.tk⟩
 ·obtain ⟨m,e1⟩:=I.base.tbls b ps e
  exact ⟨m,old e1⟩
 ·obtain ⟨m,⟨o,_,_,ho,_⟩,_⟩:=I0.loc
  exact fr I.free (neA _ o ho)
 ·obtain ⟨v,o,ho,_⟩:=I0.cell x c e
  exact fr (I.freeC x c e) (neA c o ho)
 ·obtain ⟨e1,n1,r⟩:=I.pin p hp
  exact ⟨e1,fr n1 (neA _ _ (I0.pin p hp).1),r⟩
 ·by_cases hb:b=a
  ·subst hb
   rw [z18] at e;cases e
   exact ⟨⟨oe,hinst⟩,⟨oe,he⟩,fun h1 h2 ⟨ox,z⟩ kk=>⟨ox,kk ox z.at_,z.cls,z.no,by
    have:=z.dict
    revert this
    cases ox.dict with
    | none=>exact fun _=>trivial
    | some _=>exact fun z=>z.elim⟩⟩
  ·rw [z0Y hb] at e
   exact (I.hok b u e).stay (fun _ _ _ z=>z) (fun _ z=>old z) fun _ _ z=>old z
end
section
variable {X:Cx} {pins:List (af × Obj)} {σ:St} {H:Hp} {s:ai} {M:jh} {A:ba} {E:ae->ai->Prop}
theorem zeo (I:L2.Inv X pins σ H s) (hN:X.N.Nodup) (hi:X.N[i]?=some x) (hx:X.env.scope.names.lookup x=some .local) (hv:σ[i]?=some (some v))
  (h:∀ s',L2.Inv X pins (σ.set i none) H s'->Q () s'):ar M A (unbindName X.env x) Q E s:=by
 obtain ⟨m,hn,hl⟩:=id I.loc
 obtain ⟨u,_,lk⟩:=hl i x v hi hv (.inl hx)
 have hm:m x=some u:=by
  rcases lk with ⟨_,z⟩|⟨z,_⟩
  ·exact z
  ·have z':X.env.scope.names.lookup x=some .cell \/ X.env.scope.names.lookup x=some .free:=z
   rw [hx] at z'
   rcases z' with z'|z' <;> cases z'
 refine wT I (wpAny_unbindName_local hx hn hm (by rw [I.ok.kind];rfl) fun h' u' hn' hs htk=>h _ ?_)
 have kp:∀ b o,b ≠ X.env.locals->s.heap.get? b=some o->h'.get? b=some o:=fun b o n e=>(hs.2 b n).trans e
 have neL:∀ b o,X.s₀.heap.get? b=some o->b ≠ X.env.locals:=fun b o e=>aX (aN (aF e) I.ok.above)
 have neH:∀ b o,H b=some o->b ≠ X.env.locals:=fun b o e=>z0Z e I.free
 have cellK:∀ y c,X.env.cells.lookup y=some c->∀ w,s.heap.IsCell c w->h'.IsCell c w:=fun y c e w ⟨o,ho,hd⟩=>⟨o,kp c o (I.cne y c e) ho,hd⟩
 refine ⟨I.ok,I.os,I.bare,⟨fun b o e n hb hx=>kp b o (neL b o e) (I.base.keep b o e n hb hx),fun b o e n hb hx=>?_,I.base.free,fun b o e hx=>?_,I.base.tups,I.base.frzs,I.base.tbls⟩,⟨_,hn',fun j y w e1 e2 e3=>?_⟩,fun y c e=>?_,I.free,I.freeC,fun p hp=>?_,fun b o e=>?_,by rw [bT];exact I.len,htk⟩
 ·obtain ⟨sl,e1⟩:=I.base.slot b o e n hb hx
  exact ⟨sl,kp b _ (neL b o e) e1⟩
 ·obtain ⟨o',e1⟩:=I.base.there b o e hx
  exact ⟨o',kp b o' (neL b o e) e1⟩
 ·have hj:j ≠ i:=by
   rintro rfl
   have hlt:j < σ.length:=(ao.mp hv).1
   rw [aT hlt] at e2;cases e2
  rw [aY (bo hj)] at e2
  have hy:y ≠ x:=by rintro rfl;exact hj (z7F hN e1 hi)
  obtain ⟨u2,r2,l2⟩:=hl j y w e1 e2 e3
  refine ⟨u2,r2,?_⟩
  rcases l2 with ⟨k1,k2⟩|⟨k1,c,k2,k3⟩
  ·exact .inl ⟨k1,by show (if y=x then u' else m y)=some u2;rw [if_neg hy];exact k2⟩
  ·exact .inr ⟨k1,c,k2,cellK y c k2 _ k3⟩
 ·obtain ⟨w,z⟩:=I.cell y c e
  exact ⟨w,cellK y c e w z⟩
 ·obtain ⟨e1,n1,n2,r⟩:=I.pin p hp
  exact ⟨kp _ _ n2 e1,n1,n2,r⟩
 ·refine (I.hok b o e).stay (fun b2 u2 hb2 z=>kp b2 u2 ?_ z) (fun _ z=>z) fun _ _ z=>z
  rcases hb2 with rfl|hb2
  ·exact neH _ _ e
  ·exact neH _ _ hb2
end
section
variable {X:Cx} {pins:List (af × Obj)} {σ:St} {H H1:Hp} {s s1:ai}
theorem zc7 (I:L2.Inv X pins σ H s) (os:s1.os=s.os) (htk:0 < s1.toks) (bare:fi s1.gens) (un:Un (frs X.stack) [] H H1 s.heap s1.heap) (hok:HOk X.prog X.w H1 s1.heap)
  (kp:Kp s.heap H1 (frs X.stack) s1.heap h2) (x2:XAt s.heap H1 h2 a (.ref C)) (hm:dq X.K (.ref C) (.ref T)=some true) (hgT:Gl X xT) (hmT:X.mg xT=some (.ref T))
  (hN:X.N.Nodup) (hi:X.N[i]?=some n) (hj:X.N[j]?=some y) (hij:i ≠ j) (hn:X.env.scope.names.lookup n=some .local) (hy:X.env.scope.names.lookup y=some .local)
  (h:∀ s',L2.Inv X pins ((σ.set j (some (.ref a))).set i none) (upd H1 a (.ext fun h=>∃ ox,cq h a ox C none)) s'->Qf .next s')
  (hnd:(n == ("__debug__":Str))=false:=by decide) (hncd:(n == ("__classdict__":Str))=false:=by decide) (hTd:(xT == ("__debug__":Str))=false:=by decide)
  (hs:fv [.Name y p5] (.Name n p6) p7.line X.env=pure false:=by rfl) (hw:fw [.Name y p5] (.Name n p6) X.env=pure none:=by rfl):
  ar (ay X.prog X.w) X.A (handleBy (.ref a) X.env [.ExceptHandler (some (.Name xT p4)) (some n) [.Assign [.Name y p5] (.Name n p6) p7] p8]) Qf X.xe { s1 with heap:=h2 }:=by
 have I2:L2.Inv X pins σ H1 { s1 with heap:=h2 }:=Inv.raised I os htk bare un hok kp
 refine wpAny_handleBy_cons (codeAny_handlers_test (z58 (X:=Cx.mk' X a) (Inv.mk' I2 a) hgT hmT ?_ hTd)) (by intro z;cases z)
 have LT:PySem.W.Looks (ay X.prog X.w) h2 (typeOf (.ref a)) (.ref C):=by
  obtain ⟨⟨oe,vs,he,hC,_⟩,_⟩:=x2
  exact hC.1 ▸ (PySem.W.Looks.ld he).andThen .now
 refine (PySem.W.exm_one I2.kIn LT hm).at ?_
 show codeAny _ _ (.handlers (.ref a) [.ExceptHandler none (some n) [.Assign [.Name y p5] (.Name n p6) p7] p8] X.env) _ _
 refine codeAny_handlers_suite_as (zeO (frames:=X.stack) I2.stack x2 fun h3 kp3 x3=>?_)
 have I3:L2.Inv X pins σ H1 { s1 with heap:=h3 }:=Inv.raised I os htk bare un hok (kp.trans kp3)
 have I4:=Inv.track (s1:={ s1 with heap:=h3 }) I3 x3 I
 refine z64 (X:=Cx.mk' X a) (v:=.ref a) (Inv.mk' I4 a) hN hi (.inl hn) rfl (fun s5 I5=>?_) (.inr hn)
 have ps:PSs (Cx.mk' X a) [.Assign [.Name y p5] (.Name n p6) p7] _:=z2N (zdw (z5D (X:=Cx.mk' X a) (pos:=p6) hi (.inl hn) hnd hncd) (z84 (X:=Cx.mk' X a) (pos:=p5) hN hj (.inl hy) (.inr hy)) hs hw) zc6
 refine c7 (ps pins s5 _ _ { nx:=fun σ' H'=>σ'=(σ.set i (some (.ref a))).set j (some (.ref a))/\H'=upd H1 a (.ext fun h=>∃ ox,cq h a ox C none),rt:=fun _ _=>False } I5 ?_) (fun fl s6 h6=>?_) fun _ _ z=>z.elim
 ·refine ⟨.ref a,?_,?_⟩
  ·rw [aT (by rw [I.len];exact (ao.mp hi).1)]
  ·exact ⟨rfl,rfl⟩
 cases fl with
 | ret u=>obtain ⟨_,_,_,_,_,z⟩:=h6;exact z.elim
 | brk=>obtain ⟨_,_,_,z⟩:=h6;exact z.elim
 | cont=>obtain ⟨_,_,_,z⟩:=h6;exact z.elim
 | next=>
  obtain ⟨σ6,H6,I6,rfl,rfl⟩:=h6
  have I7:=Inv.unmk' I.ok I6
  show ar _ X.A (do bindName X.env n .none;unbindBehindTheSuite X.env n p8) _ _ s6
  unfold bindName unbindBehindTheSuite
  refine aa (aa (bL (wpAny_point (aa (z64 (v:=.non) I7 hN hi (.inl hn) rfl (fun s8 I8=>wpAny_point ?_) (.inr hn))))))
  refine gm (zeo (v:=.non) I8 hN hi hn (aT (by rw [I7.len];exact (ao.mp hi).1)) fun s9 I9=>h s9 ?_)
  refine I9.weak (by simp) fun k v e=>?_
  by_cases hk:k=i
  ·subst hk
   have hlt:k < (σ.set j (some (.ref a))).length:=by rw [bT,I.len];exact (ao.mp hi).1
   rw [aT hlt] at e;cases e
  ·rw [aY (bo hk)] at e ⊢
   rw [aY (bo hk)]
   by_cases hkj:k=j
   ·subst hkj
    have hlt:k < σ.length:=by rw [I.len];exact (ao.mp hj).1
    rw [aT hlt] at e
    rw [aT (by rw [bT];exact hlt)]
    exact e
   ·rw [aY (bo hkj)] at e ⊢
    rw [aY (bo hk)]
    exact e
end
section
variable {X:Cx} {pins:List (af × Obj)} {σ:St} {H H1:Hp} {s s1:ai}
theorem zkN {T lam:af} {Cl:Nat->ae} {nf xT n y:Str} {i j kf:Nat} {p1 p2 p3 p4 p5 p6 p7 p8 pos:Pos} {D:zd0} (I:L2.Inv X pins σ H s) (hex:X.ex=[])
  (hcall:codeAny (ay X.prog X.w) X.A (.call (.ref lam) ⟨[],[]⟩) (CR (CXr X.prog X.w Cl) X.stack X.prog X.w H s (fun _ H'=>D.nx σ H')
   (fun Cv _ H1=>∃ C,Cv=.ref C/\dq X.K (.ref C) (.ref T)=some true/\∀ a,H1 a=none->D.nx ((σ.set j (some (.ref a))).set i none) (upd H1 a (.ext fun h=>∃ ox,cq h a ox C none)))) s)
  (hlam:gO lam s.heap) (hkf:X.N[kf]?=some nf) (hvf:σ[kf]?=some (some (.ref lam))) (hvis:Vis X.env.scope nf) (hgT:Gl X xT) (hmT:X.mg xT=some (.ref T)) (hstk:X.stack=X.env :: X.outer) (hfr:X.env.frame=some X.env.locals)
  (hN:X.N.Nodup) (hi:X.N[i]?=some n) (hj:X.N[j]?=some y) (hij:i ≠ j) (hn:X.env.scope.names.lookup n=some .local) (hy:X.env.scope.names.lookup y=some .local)
  (hfd:(nf == ("__debug__":Str))=false:=by decide) (hfcd:(nf == ("__classdict__":Str))=false:=by decide)
  (hnd:(n == ("__debug__":Str))=false:=by decide) (hncd:(n == ("__classdict__":Str))=false:=by decide) (hTd:(xT == ("__debug__":Str))=false:=by decide)
  (hs0:swapsWith (.Call (.Name nf p1) [] [] p2) none p3.line X.env=pure false:=by rfl)
  (hs:fv [.Name y p5] (.Name n p6) p7.line X.env=pure false:=by rfl) (hw:fw [.Name y p5] (.Name n p6) X.env=pure none:=by rfl):
  ar (ay X.prog X.w) X.A (exec (.Try [.Expr (.Call (.Name nf p1) [] [] p2) p3] [.ExceptHandler (some (.Name xT p4)) (some n) [.Assign [.Name y p5] (.Name n p6) p7] p8] [] [] pos) X.env) (SP X pins D) X.xe s:=by
 have load:∀ (Q:ae->ai->Prop) (E:ae->ai->Prop),Q (.ref lam) s->ar (ay X.prog X.w) X.A (eval (.Name nf p1) X.env) Q E s:=fun Q E fin=>by
  obtain ⟨m,hn',hl⟩:=I.loc
  obtain ⟨u,r,l⟩:=hl kf nf _ hkf hvf hvis
  cases r
  rcases l with ⟨hk,hm⟩|⟨hk,c,hc,hcell⟩
  ·exact gG (jO I.ok.kind hk hn' hm fin) hfd
  ·rcases hk with hk|hk
   ·exact gG (kg I.ok.kind hk hc hcell fin) hfd
   ·exact gG (kh I.ok.kind hk hc hcell fin hfcd) hfd
 refine wpAny_Try_except (fk (wpAny_Expr_any ?_ I.quiet hs0))
 refine dW (load _ _ (PySem.W.callWith_F0 hlam (gH (dU hcall fun r s1 hq=>?_))))
 cases r with
 | ok fl=>
  cases fl with
  | next=>exact ak hq
  | brk=>exact ak hq
  | cont=>exact ak hq
  | ret u=>
   obtain ⟨v,H',J,_,q⟩:=I.after hq
   exact eS (eS ⟨σ,H',J,q⟩)
 | error e=>
  obtain ⟨a,c,H1,rfl,os,htk,bare,un,hok,x,C,hC,hm,q⟩:=hq
  have I1:L2.Inv X pins σ H1 s1:=I.call' (ch:=[]) os un hok bare (fun b z=>absurd z (by simp))
  rw [hC] at x
  refine zdh (h0:=s.heap) (by rw [<- hstk];exact I.ok.frames) (by rw [<- hstk];exact I1.stack) hfr x (fun b hb=>hok.fresh hb) ?_ fun h2 kp x2=>?_
  ·intro b hb
   cases z:s.heap.get? b with
   | none=>rfl
   | some o=>
    obtain ⟨o',e'⟩:=un.there b o z (by simp)
    exact absurd (aF e') (iR.mpr hb)
  ·rw [<- hstk] at kp
   exact zc7 I os htk bare un hok kp x2 hm hgT hmT hN hi hj hij hn hy (fun s' J=>⟨_,_,J,q a x.free⟩) hnd hncd hTd hs hw
end
structure zjC (nf n y xT:Str) (p0 p1 p2 p3 p5 p6 p7 pq pc:Pos) (kc):Prop where
 hfd:(nf == ("__debug__":Str))=false:=by decide
 hfcd:(nf == ("__classdict__":Str))=false:=by decide
 hnd:(n == ("__debug__":Str))=false:=by decide
 hncd:(n == ("__classdict__":Str))=false:=by decide
 hTd:(xT == ("__debug__":Str))=false:=by decide
 hs0:∀ env:Env,swapsWith (.Call (.Name nf p1) [] [] p2) none p3.line env=pure false:=by intro _;rfl
 hsA:∀ env:Env,swapsWith (.Constant .none kc pc) (some (.Name y pq)) p0.line env=pure false:=by intro _;rfl
 hs:∀ env:Env,fv [.Name y p5] (.Name n p6) p7.line env=pure false:=by intro _;rfl
 hw:∀ env:Env,fw [.Name y p5] (.Name n p6) env=pure none:=by intro _;rfl
section
variable {X:Cx} {H:Hp}
theorem z9y {Y:Cx} {σ1:St} {H:Hp} {s1:ai} {Cl:Nat->ae} {lam T:af} {nf n y xT:Str} {z2C:List cu} {i j:Nat} {Q:VK} {W:St->Hp->Prop} {t:TS} {p0 p1 p2 p3 p4 p5 p6 p7 p8 pq pc pos:Pos} {kc:_}
  (I1:L2.Inv Y [] σ1 H s1) (hex:Y.ex=[]) (hstk:Y.stack=Y.env :: Y.outer) (hfr:Y.env.frame=some Y.env.locals) (hlam:∀ (σ2:St) (s2:ai),L2.Inv Y [] σ2 H s2->gO lam s2.heap) (hk0:Y.N[0]?=some nf) (hv0:σ1[0]?=some (some (.ref lam)))
  (hN:Y.N.Nodup) (hi:Y.N[i]?=some n) (hj:Y.N[j]?=some y) (hij:i ≠ j) (hj0:j ≠ 0) (hn:Y.env.scope.names.lookup n=some .local) (hy:Y.env.scope.names.lookup y=some .local) (hvf:Vis Y.env.scope nf) (hgT:Gl Y xT) (hmT:Y.mg xT=some (.ref T))
  (hcall:∀ s2:ai,L2.Inv Y [] (σ1.set j (some .non)) H s2->codeAny (ay Y.prog Y.w) Y.A (.call (.ref lam) ⟨[],[]⟩) (CR (CXr Y.prog Y.w Cl) Y.stack Y.prog Y.w H s2 (fun _ H'=>W (σ1.set j (some .non)) H')
    (fun Cv _ H1=>∃ C,Cv=.ref C/\dq Y.K (.ref C) (.ref T)=some true/\∀ a,H1 a=none->W (((σ1.set j (some .non)).set j (some (.ref a))).set i none) (upd H1 a (.ext fun h=>∃ ox,cq h a ox C none)))) s2)
  (hrest:PSs Y z2C t) (hW:∀ σ' H',W σ' H'->t { nx:=fun _ H'=>Q .non H',rt:=Q } σ' H')
  (Z:zjC nf n y xT p0 p1 p2 p3 p5 p6 p7 pq pc kc):
  ar (ay Y.prog Y.w) Y.A (execs (.Assign [.Name y pq] (.Constant .none kc pc) p0 :: .Try [.Expr (.Call (.Name nf p1) [] [] p2) p3] [.ExceptHandler (some (.Name xT p4)) (some n) [.Assign [.Name y p5] (.Name n p6) p7] p8] [] [] pos :: z2C) Y.env) (SP Y [] { nx:=fun _ H'=>Q .non H',rt:=Q }) Y.xe s1:=by
 refine fk ?_
 refine thn (zaU (X:=Y) (pos':=pq) (pos:=p0) hN hj (.inl hy) (zcL (j:=kc) (pos:=pc)) (Z.hsA _) (.inr hy) [] s1 σ1 H { nx:=fun σ' H'=>σ'=σ1.set j (some .non)/\H'=H,rt:=fun _ _=>False } I1 ⟨rfl,rfl⟩) fun fl s2 h2=>?_
 cases fl with
 | ret u=>obtain ⟨_,_,_,_,_,z⟩:=h2;exact z.elim
 | brk=>obtain ⟨_,_,_,z⟩:=h2;exact z.elim
 | cont=>obtain ⟨_,_,_,z⟩:=h2;exact z.elim
 | next=>
 obtain ⟨σ2,H2,I2,rfl,rfl⟩:=h2
 refine fk (thn (zkN (D:={ nx:=W,rt:=fun _ _=>False }) I2 hex (hcall s2 I2) (hlam _ s2 I2) hk0 (by rw [aY hj0];exact hv0) hvf hgT hmT hstk hfr hN hi hj hij hn hy Z.hfd Z.hfcd Z.hnd Z.hncd Z.hTd (Z.hs0 _) (Z.hs _) (Z.hw _)) fun fl s3 h3=>?_)
 cases fl with
 | ret u=>obtain ⟨_,_,_,_,_,z⟩:=h3;exact z.elim
 | brk=>obtain ⟨_,_,_,z⟩:=h3;exact z.elim
 | cont=>obtain ⟨_,_,_,z⟩:=h3;exact z.elim
 | next=>
  obtain ⟨σ3,H3,I3,w3⟩:=h3
  exact hrest [] s3 σ3 H3 _ I3 (hW σ3 H3 w3)
end
section
variable {X:Cx} {pins:List (af × Obj)} {σ:St} {H:Hp} {s:ai}
theorem zgT {Cl:Nat->ae} {k:Nat} {f:af} {name qual:Str} {params:dX} {body:List cu} {scope:b9} {dV kV doc pm cdv ct oc:ae} {an od:Option af} {osl:Array (Option ae)} {N ps:List Str} {us:List ae} {vs:List V} {Q:VK}
  (I:L2.Inv X pins σ H s) (hr:me (k + 1) X.A) (lk:X.K.lookup f=some ⟨oc,od,.func (bA name qual params body scope dV kV doc pm an cdv ct),osl⟩)
  (hcd:dk X.K cdv qual=true) (S:z13 N ps scope) (hb:gx s (bA name qual params body scope dV kV doc pm an cdv ct) ⟨us,[]⟩ (ps.zip us)) (hl:vs.length=ps.length) (hv:ma vs us)
  (hbody:∀ s1:ai,me k (X.A.deeper (bf qual scope s.heap.objs.size f cdv))->L2.Inv (cxX Cl X.prog X.w X.K X.mg X.base N qual scope f cdv X.A X.stack s H E0) [] (L2.start N vs) H s1->
   ar (ay X.prog X.w) (cxX Cl X.prog X.w X.K X.mg X.base N qual scope f cdv X.A X.stack s H E0).A (execs body (cxX Cl X.prog X.w X.K X.mg X.base N qual scope f cdv X.A X.stack s H E0).env) (SP (cxX Cl X.prog X.w X.K X.mg X.base N qual scope f cdv X.A X.stack s H E0) [] { nx:=fun _ H'=>Q .non H',rt:=Q }) (cxX Cl X.prog X.w X.K X.mg X.base N qual scope f cdv X.A X.stack s H E0).xe s1):
  ar (ay X.prog X.w) X.A (call (.ref f) us) (EP X pins σ Q) X.xe s:=by
 have e0:=I.env0
 have KX:=I.kIn
 have hkind:∀ z ∈ ps.zip us,scope.names.lookup z.1=some .local \/ (scope.names.lookup z.1=some .cell/\((bP (s.heap.objs.size + 1) scope.names []).lookup z.1).isSome=true):=fun ⟨m,v⟩ hz=>by
  rcases S.par m (gJ hz).1 with q|q
  ·exact .inl q
  ·exact .inr ⟨q,e9 _ _ _ (.inl q)⟩
 refine gH (dU (?_:codeAny (ay X.prog X.w) X.A (.call (.ref f) ⟨us,[]⟩) (CR (CXr X.prog X.w Cl) X.stack X.prog X.w H s Q E0) s) fun r s' hq=>?_)
 ·refine jA hr.depth (KX _ _ lk) rfl S.co S.gen rfl (ku KX hcd) (hb _ _ _ _ ?_)
  refine wT I (iA S.kind hkind fun env he s1 x htk=>?_)
  subst he
  refine ⟨I.nolimit.keeps x.toInCall.keep,codeAny_func ?_⟩
  have I1:L2.Inv (cxX Cl X.prog X.w X.K X.mg X.base N qual scope f cdv X.A X.stack s H E0) [] (L2.start N vs) H s1:=z9J S hr.hd e0 hl hv x htk
  refine c7 (hbody s1 (hr.deeper _) I1) (fun fl s' hs=>?_) fun e s' hs=>hs
  have fin:∀ {σ':St} {H':Hp} {v:V} {u:ae},L2.Inv (cxX Cl X.prog X.w X.K X.mg X.base N qual scope f cdv X.A X.stack s H E0) [] σ' H' s'->RelV v u->Q v H'->CE X.stack X.prog X.w H s Q u s':=
   fun {σ' H' v u} J rv q=>⟨⟨v,H',J.os,J.bare,J.base,J.hok,rv,q⟩,J.tk⟩
  cases fl with
  | ret u=>
   obtain ⟨v,σ',H',J,rv,q⟩:=hs
   exact fin J rv q
  | next=>
   obtain ⟨σ',H',J,q⟩:=hs
   exact fin (v:=V.non) (u:=cj) J rfl q
  | brk=>
   obtain ⟨_,_,_,q⟩:=hs
   exact ak q
  | cont=>
   obtain ⟨_,_,_,q⟩:=hs
   exact ak q
 ·cases r with
  | error e=>exact zaP pins σ H s e s' I hq
  | ok fl=>
   cases fl with
   | ret u=>exact I.after hq
   | next=>exact ak hq
   | brk=>exact ak hq
   | cont=>exact ak hq
end
section
variable {X:Cx} {pins:List (af × Obj)} {σ:St} {H:Hp} {s:ai}
theorem z9M {Cl:Nat->ae} {k:Nat} {f lam T:af} {name qual nf n y xT:Str} {params:dX} {z2C:List cu} {scope:b9} {dV kV doc pm cdv ct oc:ae} {an od:Option af} {osl:Array (Option ae)} {N:List Str} {i j:Nat} {Q:VK} {W:St->Hp->Prop} {p0 p1 p2 p3 p4 p5 p6 p7 p8 pq pc pos:Pos} {kc:_}
  (I:L2.Inv X pins σ H s) (hr:me (k + 1) X.A)
  (lk:X.K.lookup f=some ⟨oc,od,.func (bA name qual params (.Assign [.Name y pq] (.Constant .none kc pc) p0 :: .Try [.Expr (.Call (.Name nf p1) [] [] p2) p3] [.ExceptHandler (some (.Name xT p4)) (some n) [.Assign [.Name y p5] (.Name n p6) p7] p8] [] [] pos :: z2C) scope dV kV doc pm an cdv ct),osl⟩)
  (hcd:dk X.K cdv qual=true) (S:z13 N [nf] scope)
  (hb:gx s (bA name qual params (.Assign [.Name y pq] (.Constant .none kc pc) p0 :: .Try [.Expr (.Call (.Name nf p1) [] [] p2) p3] [.ExceptHandler (some (.Name xT p4)) (some n) [.Assign [.Name y p5] (.Name n p6) p7] p8] [] [] pos :: z2C) scope dV kV doc pm an cdv ct) ⟨[.ref lam],[]⟩ ([nf].zip [.ref lam]))
  (hlam:∀ s2:ai,Un (frs X.stack) [] H H s.heap s2.heap->HOk X.prog X.w H s2.heap->gO lam s2.heap) (hN:N.Nodup) (hk0:N[0]?=some nf) (hi:N[i]?=some n) (hj:N[j]?=some y) (hij:i ≠ j) (hj0:j ≠ 0) (hn:scope.names.lookup n=some .local) (hy:scope.names.lookup y=some .local) (hvf:Vis scope nf)
  (hgT:scope.names.lookup xT=some .globalImplicit) (hmT:X.mg xT=some (.ref T))
  (hcall:∀ s2:ai,me k (X.A.deeper (bf qual scope s.heap.objs.size f cdv))->zg7 X.prog X.w X.K X.mg X.base (X.A.deeper (bf qual scope s.heap.objs.size f cdv)) (bf qual scope s.heap.objs.size f cdv :: X.stack) s2 H->Un (frs X.stack) [] H H s.heap s2.heap->
   codeAny (ay X.prog X.w) (X.A.deeper (bf qual scope s.heap.objs.size f cdv)) (.call (.ref lam) ⟨[],[]⟩) (CR (CXr X.prog X.w Cl) (bf qual scope s.heap.objs.size f cdv :: X.stack) X.prog X.w H s2 (fun _ H'=>W ((L2.start N [.ref lam]).set j (some .non)) H')
    (fun Cv _ H1=>∃ C,Cv=.ref C/\dq X.K (.ref C) (.ref T)=some true/\∀ a,H1 a=none->W ((((L2.start N [.ref lam]).set j (some .non)).set j (some (.ref a))).set i none) (upd H1 a (.ext fun h=>∃ ox,cq h a ox C none)))) s2)
  (hrest:me k (X.A.deeper (bf qual scope s.heap.objs.size f cdv))->∃ t,PSs (cxX Cl X.prog X.w X.K X.mg X.base N qual scope f cdv X.A X.stack s H E0) z2C t/\∀ σ' H',W σ' H'->t { nx:=fun _ H'=>Q .non H',rt:=Q } σ' H')
  (Z:zjC nf n y xT p0 p1 p2 p3 p5 p6 p7 pq pc kc):
  ar (ay X.prog X.w) X.A (call (.ref f) [.ref lam]) (EP X pins σ Q) X.xe s:=by
 refine zgT (Cl:=Cl) (k:=k) (Q:=Q) (vs:=[.ref lam]) I hr lk hcd S hb rfl (.cons rfl .nil) fun s1 hr1 I1=>?_
 obtain ⟨t,ht,hW⟩:=hrest hr1
 exact z9y (Y:=cxX Cl X.prog X.w X.K X.mg X.base N qual scope f cdv X.A X.stack s H E0) (Cl:=Cl) (T:=T) (W:=W) (Q:=Q) I1 rfl rfl rfl (fun σ2 s2 I2=>hlam s2 I2.base I2.hok) hk0 (by rfl) hN hi hj hij hj0 hn hy hvf hgT hmT (fun s2 I2=>hcall s2 hr1 I2.env0 I2.base) ht hW Z
end
section
variable {X:Cx} {pins:List (af × Obj)} {σ:St} {H:Hp} {s s2:ai}
theorem zcX (un:Un fs [] H H h h') (z:h.IsCell c v) (n:H c=none):h'.IsCell c v:=by
 obtain ⟨o,ho,hd⟩:=z
 obtain ⟨sl,e⟩:=un.any ho n (by simp)
 exact ⟨_,e,hd⟩
theorem zbU {clos:List (Str × af)} (I:L2.Inv X pins σ H s) (un:Un (frs X.stack) [] H H s.heap s2.heap) (hcl:∀ x c,clos.lookup x=some c->X.env.cells.lookup x=some c):∀ x c,clos.lookup x=some c->(∃ v,s2.heap.IsCell c v)/\H c=none:=fun x c e=>by
 obtain ⟨v,z⟩:=I.cell x c (hcl x c e)
 exact ⟨⟨v,zcX un z (I.freeC x c (hcl x c e))⟩,I.freeC x c (hcl x c e)⟩
theorem zeM {clos:List (Str × af)} (I:L2.Inv X pins σ H s) (hcl:∀ x c,clos.lookup x=some c->X.env.cells.lookup x=some c):∀ x y c,clos.lookup x=some c->clos.lookup y=some c->x=y:=fun x y c e1 e2=>I.ok.inj x y c (hcl x c e1) (hcl y c e2)
theorem zcr {clos:List (Str × af)} {scope:b9} (I:L2.Inv X pins σ H s) (un:Un (frs X.stack) [] H H s.heap s2.heap) (hcl:∀ x c,clos.lookup x=some c->X.env.cells.lookup x=some c) (has:∀ x,scope.names.lookup x=some .free->∃ c,clos.lookup x=some c)
  (hfv:∀ x,scope.names.lookup x=some .free->X.env.scope.names.lookup x=some .cell \/ X.env.scope.names.lookup x=some .free):
  ∀ (i:Nat) x v,X.N[i]?=some x->σ[i]?=some (some v)->scope.names.lookup x=some .free->∃ u c,RelV v u/\clos.lookup x=some c/\s2.heap.IsCell c (some u):=fun i x v e1 e2 e3=>by
 obtain ⟨m,hn,hl⟩:=I.loc
 obtain ⟨u,r,l⟩:=hl i x v e1 e2 (.inr (hfv x e3))
 obtain ⟨c,hc⟩:=has x e3
 refine ⟨u,c,r,hc,?_⟩
 rcases l with ⟨z,_⟩|⟨_,c',g1,g2⟩
 ·have z':X.env.scope.names.lookup x=some .local:=z
  rcases hfv x e3 with q|q <;> (rw [z'] at q;cases q)
 ·have:=hcl x c hc
  rw [g1] at this;cases this
  exact zcX un g2 (I.freeC x _ g1)
end
structure z4A (out sc:b9):Prop where
 kind:sc.kind=.function
 co:sc.isCoroutine=false
 gen:sc.isGenerator=false
 nd:(sc.names.map (·.1)).Nodup
 cell:∀ x ∈ sc.names,x.2 ≠ .cell
 loc:∀ x ∈ sc.names,x.2 ≠ .local
 frees:∀ y ∈ sc.names,y.2=.free->out.names.lookup y.1=some .cell \/ out.names.lookup y.1=some .free
def zlA (r:RS):R D:=match r with
 | .nx _ O=>.ok .non O
 | .rt d O=>.ok d O
 | _=>.bad
def z9K (Ca:Nat->Nat) (n j:Nat) (tR:DS) (r:R D):R D:=match r with
 | .ok _ O=>zlA (tR ((aq n none).set j (some .non)) O)
 | .exc c O=>zlA (tR ((aq n none).set j (some (.exn (Ca c)))) O)
 | .bad=>.bad
def z8s (Pt iT:Nat) (Ca:Nat->Nat) (n j:Nat) (tE:DE) (tR:DS):DE:=fun σ O=>match σ[iT]? with
 | some (some (.tab p))=>if p=Pt then z9K Ca n j tR (tE σ O) else .bad
 | _=>.bad
theorem z9u (hl:σv.length=n) (hv:σv[j]?=some (some v)) (q:Dat K H hid μ d v):l9 K H hid μ ((aq n none).set j (some d)) σv:=by
 refine ⟨by simp [hl],fun i x e=>?_⟩
 by_cases hi:j=i
 ·subst hi
  have hj:j < n:=by have:=(ao.mp hv).1;omega
  rw [aT (by simpa using hj)] at e
  cases e
  exact ⟨v,hv,q⟩
 ·rw [aY hi] at e
  rw [dH] at e
  split at e <;> cases e
theorem z8M (q:z1q Ex K H hid μ (zlA r) Q):md E' K H hid μ r { nx:=fun _ H'=>Q .non H',rt:=Q }:=by
 cases r with
 | nx σ O'=>exact fun σv H' μ' x e c'=>q .non H' μ' x c' z5i
 | rt d' O'=>exact fun v H' μ' x c' r=>q v H' μ' x c' r
 | bk σ O'=>exact ak q
 | ct σ O'=>exact ak q
 | exc c' O'=>exact ak q
 | bad=>exact ak q
theorem z4U (h:0 < N.length):(L2.start N [a]).length=N.length:=by
 unfold L2.start;simp;omega
def Thk (Cl:Nat->ae) (P:aJ) (w:aR) (K:aj) (mg:Str->Option ae) (base:aP) (fs:List af) (H:Hp) (h:aP) (lam:af) (kk:Nat) (hid μ:List af) (r:R D):Prop:=
 ∀ (A:ba) (outer:List Env) (s2:ai) (Q:VK) (E:XK),me kk A->zg7 P w K mg base A outer s2 H->Un fs [] H H h s2.heap->z1q (Xk Cl E) K H hid μ r Q->codeAny (ay P w) A (.call (.ref lam) ⟨[],[]⟩) (CR (CXr P w Cl) outer P w H s2 Q E) s2
section
variable {Y:Cx} {Ex:Nat->Hp->Prop} {Cl:Nat->ae} {Ca:Nat->Nat}
theorem zb6 {k i j:Nat} {T lam:af} {x nf n y xT:Str} {st:cu} {N:List Str} {z2C:List cu} {tR:DS} {p0 p1 p2 p3 p4 p5 p6 p7 p8 pq pc pos:Pos} {kc:_} {pins:List (af × Obj)} {σ1:St} {H:Hp} {s:ai} {f:af} {fd:cX} {fs:List af} {h0:aP} {hid μ:List af} {r:R D} {Q:VK}
  (I:L2.Inv Y pins σ1 H s) (F:L2.Fun Y.K x x st f fd) (hr:me (k + 1) Y.A)
  (hbd:z1O st=.Assign [.Name y pq] (.Constant .none kc pc) p0 :: .Try [.Expr (.Call (.Name nf p1) [] [] p2) p3] [.ExceptHandler (some (.Name xT p4)) (some n) [.Assign [.Name y p5] (.Name n p6) p7] p8] [] [] pos :: z2C)
  (S:z13 N [nf] (z0V st)) (hN:N.Nodup) (hk0:N[0]?=some nf) (hi:N[i]?=some n) (hj:N[j]?=some y) (hij:i ≠ j) (hj0:j ≠ 0) (hn:(z0V st).names.lookup n=some .local) (hy:(z0V st).names.lookup y=some .local) (hvf:Vis (z0V st) nf)
  (hb:∀ (kV doc pm:ae) (an:Option af) (cdv ct:ae) (us:List ae),us.length=1->bindArgs (bA x x (z2I st) (z1O st) (z0V st) .none kV doc pm an cdv ct) ⟨us,[]⟩=pure ([nf].zip us))
  (hgT:(z0V st).names.lookup xT=some .globalImplicit) (hmT:Y.mg xT=some (.ref T)) (hcls:∀ c,Cl c=.ref (Ca c)/\XcK Y.K (Ca c)/\dq Y.K (.ref (Ca c)) (.ref T)=some true)
  (hrest:∀ (f:af) (cdv:ae) (s:ai) (H:Hp),me k (Y.A.deeper (bf x (z0V st) s.heap.objs.size f cdv))->z5F (cxX Cl Y.prog Y.w Y.K Y.mg Y.base N x (z0V st) f cdv Y.A Y.stack s H E0) (Xk Cl E0) z2C tR)
  (hlam:∀ s2:ai,Un (frs Y.stack) [] H H s.heap s2.heap->HOk Y.prog Y.w H s2.heap->gO lam s2.heap) (th:Thk Cl Y.prog Y.w Y.K Y.mg Y.base fs H h0 lam k hid μ r) (hun:∀ s3:ai,Un (frs Y.stack) [] H H s.heap s3.heap->Un fs [] H H h0 s3.heap)
  (q:z1q Ex Y.K H hid μ (z9K Ca N.length j tR r) Q)
  (Z:zjC nf n y xT p0 p1 p2 p3 p5 p6 p7 pq pc kc:=by exact {}):
  ar (ay Y.prog Y.w) Y.A (call (.ref f) [.ref lam]) (EP Y pins σ1 Q) Y.xe s:=by
 have hNl:0 < N.length:=(ao.mp hk0).1
 have hjl:j < N.length:=(ao.mp hj).1
 obtain ⟨oc,od,kV,doc,pm,an,cdv,ct,osl,rfl,lk,hcd⟩:=F.ex
 have hbb:gx s (bA x x (z2I st) (z1O st) (z0V st) .none kV doc pm an cdv ct) ⟨[.ref lam],[]⟩ ([nf].zip [.ref lam]):=.of_eq (hb kV doc pm an cdv ct [.ref lam] rfl)
 rw [hbd] at lk hbb
 refine z9M (k:=k) (Q:=Q) (W:=rds (Xk Cl E0) Y.K tR { nx:=fun _ H'=>Q .non H',rt:=Q }) (i:=i) (j:=j) (T:=T) (Cl:=Cl) I hr lk hcd S hbb hlam hN hk0 hi hj hij hj0 hn hy hvf hgT hmT ?_ ?_ Z
 ·intro s2 hr2 e0 un
  refine th _ _ s2 _ _ hr2 e0 (hun s2 un) ?_
  cases r with
  | bad=>exact ak q
  | ok d O'=>
   intro v H3 μ3 x3 c3 d3
   refine ⟨hid,μ3,_,O',z9u (by rw [bT,z4U hNl]) ?_ z5i,c3,z8M (post.ext q x3)⟩
   rw [aT (by rw [z4U hNl];exact hjl)]
  | exc cc O'=>
   intro H3 μ3 x3 c3
   obtain ⟨h1,h2,h3⟩:=hcls cc
   refine ⟨Ca cc,h1,h3,fun a ha=>⟨hid,μ3,_,O',z9u (v:=.ref a) (d:=.exn (Ca cc)) (by simp [z4U hNl]) ?_ ?_,c3.laid ha,z8M (post.ext q (x3.trans (.laid ha)))⟩⟩
   ·rw [aY hij,aT (by simp [z4U hNl];exact hjl)]
   ·unfold Dat
    exact ⟨a,_,rfl,⟨h2,fun h z=>z⟩,.inl z18,c3.not_in ha⟩
 ·intro hr2
  exact ⟨_,(hrest f cdv _ H hr2).out,fun σ' H' z=>z⟩
end
section
variable {X:Cx} {Ex:Nat->Hp->Prop} {Cl:Nat->ae} {Ca:Nat->Nat}
theorem zbz {k iT i j:Nat} {Pt c:af} {T:af} {x nf n y xT:Str} {st:cu} {N:List Str} {z2C:List cu} {tR:DS} {tE:DE} {params:dX} {body:aK} {scope:b9} {p0 p1 p2 p3 p4 p5 p6 p7 p8 pq pc pos pn pl pp:Pos} {kc:_}
  (h:z1n X.K X.mg x st) (hr:me (k + 2) X.A)
  (hbd:z1O st=.Assign [.Name y pq] (.Constant .none kc pc) p0 :: .Try [.Expr (.Call (.Name nf p1) [] [] p2) p3] [.ExceptHandler (some (.Name xT p4)) (some n) [.Assign [.Name y p5] (.Name n p6) p7] p8] [] [] pos :: z2C)
  (S:z13 N [nf] (z0V st)) (hN:N.Nodup) (hk0:N[0]?=some nf) (hi:N[i]?=some n) (hj:N[j]?=some y) (hij:i ≠ j) (hj0:j ≠ 0) (hn:(z0V st).names.lookup n=some .local) (hy:(z0V st).names.lookup y=some .local) (hvf:Vis (z0V st) nf)
  (hb:∀ (kV doc pm:ae) (an:Option af) (cdv ct:ae) (us:List ae),us.length=1->bindArgs (bA x x (z2I st) (z1O st) (z0V st) .none kV doc pm an cdv ct) ⟨us,[]⟩=pure ([nf].zip us))
  (hgT:(z0V st).names.lookup xT=some .globalImplicit) (hmT:X.mg xT=some (.ref T)) (hcls:∀ c,Cl c=.ref (Ca c)/\XcK X.K (Ca c)/\dq X.K (.ref (Ca c)) (.ref T)=some true)
  (hrest:∀ (f:af) (cdv:ae) (s:ai) (H:Hp),me (k + 1) (X.A.deeper (bf x (z0V st) s.heap.objs.size f cdv))->z5F (cxX Cl X.prog X.w X.K X.mg X.base N x (z0V st) f cdv X.A X.stack s H E0) (Xk Cl E0) z2C tR)
  (L:z78 X.mg X.base c Pt) (hcode:X.env.code=.ref c) (LS:z4A X.env.scope scope) (hdef:defaultsOf params X.env=([],[]))
  (hbl:∀ (name qual:Str) (cl:List (Str × af)) (pm cd ct:ae),bindArgs (c8 name qual params body scope cl pm cd ct) ⟨[],[]⟩=pure [])
  (hE:∀ (q:Str) (lam:af) (cd:ae) (cl:List (Str × af)) (A:ba) (outer:List Env) (s:ai) (H:Hp) (E:XK),me k (A.deeper (z9N q scope s.heap.objs.size lam cd cl))->PD (cxL (CXr X.prog X.w Cl) X.prog X.w X.K X.mg X.base X.N (z9N q scope s.heap.objs.size lam cd cl) A outer s H E) (Xk Cl E) body tE)
  (hg:Gl X x)
  (hdb:(x == ("__debug__":Str))=false:=by decide)
  (Z:zjC nf n y xT p0 p1 p2 p3 p5 p6 p7 pq pc kc:=by exact {}):
  PD X Ex (.Call (.Name x pn) [.Lambda params body scope pl] [] pp) (z8s Pt iT Ca N.length j tE tR):=by
 refine ⟨?_⟩
 rintro pins s σv H Q I ⟨hid,μ,σ,O,e1,c1,q⟩
 obtain ⟨f,fd,hm,F⟩:=h
 have hNl:0 < N.length:=(ao.mp hk0).1
 have hjl:j < N.length:=(ao.mp hj).1
 have hil:i < N.length:=(ao.mp hi).1
 -- the table
 obtain ⟨ti,q⟩:ml H Pt/\z1q Ex X.K H hid μ (z9K Ca N.length j tR (tE σ O)) Q:=by
  unfold z8s at q
  split at q
  ·rename_i p hp
   by_cases hpp:p=Pt
   ·rw [if_pos hpp] at q
    obtain ⟨v,_,d⟩:=e1.at_ iT _ hp
    unfold Dat at d
    rw [hpp] at d
    exact ⟨d.2,q⟩
   ·rw [if_neg hpp] at q;exact ak q
  ·exact ak q
 have hfree:∀ y ∈ scope.names,y.2=.free->∃ c,X.env.cells.lookup y.1=some c:=fun y hy hf=>I.ok.has y.1 (LS.frees y hy hf)
 have hcl:∀ x c,(z1l X.env.cells scope.names []).lookup x=some c->X.env.cells.lookup x=some c:=fun x c e=>by
  rcases z3q _ _ (be e) with m|⟨m,z⟩
  ·cases m
  ·obtain ⟨c',hc'⟩:=hfree (x,.free) m rfl
   have hc2:X.env.cells.lookup x=some c':=hc'
   rw [hc2] at z ⊢;rw [z];rfl
 have hasF:∀ x,scope.names.lookup x=some .free->∃ c,(z1l X.env.cells scope.names []).lookup x=some c:=fun x e=>by
  have m:=z3x (cells:=X.env.cells) scope.names [] (be e)
  exact ⟨_,z1C (z2F _ _ LS.nd (by simp) (by intro p hp;cases hp)) m⟩
 have hfv:∀ x,scope.names.lookup x=some .free->X.env.scope.names.lookup x=some .cell \/ X.env.scope.names.lookup x=some .free:=fun x e=>LS.frees (x,.free) (be e) rfl
 have hvis:∀ x,Vis scope x->scope.names.lookup x=some .free:=fun x hx=>by
  rcases hx with z|z|z
  ·exact absurd rfl (LS.loc _ (be z))
  ·exact absurd rfl (LS.cell _ (be z))
  ·exact z
 refine dW (z58 I hg hm ?_ hdb)
 refine io (h₀:=X.base) I.ok.mod.kin F.kp ?_ (by rfl) (by rfl)
 show ar _ _ (spliced ((false,eval (.Lambda params body scope pl) X.env) :: backTo pp (aD [] X.env))) _ _ s
 refine eU (zg6 I L hcode ti (z3N hfree) hdef fun lam cd ctv h' tk H' I1 ext cells hlN hge hget hrec=>?_)
 refine f6 ⟨I1.kIn,?_⟩
 have hnfr:lam ∉ frs X.stack:=by
  intro hb
  obtain ⟨_,o,ho,_⟩:=I.stack.mem hb
  exact absurd (aF ho) (iR.mpr hge)
 obtain ⟨cc,φ,rfl,hcc,hφ⟩:=hrec
 refine zb6 (k:=k + 1) (fs:=frs X.stack) (h0:=h') (hid:=hid) (μ:=μ) (r:=tE σ O) I1 F hr hbd S hN hk0 hi hj hij hj0 hn hy hvf hb hgT hmT hcls hrest (fun s2 un _=>⟨_,_,_,_,un.keep lam _ hget hlN hnfr (by simp)⟩) ?_ (fun _ un=>un) (post.ext q (ext μ)) Z
 intro A outer s2 Q2 E2 hr2 e0 un qq
 obtain ⟨qn,hqn⟩:=hφ _ (e0.hok cc _ hcc).1
 exact zjd (k:=k) (t:=tE) (hid:=hid) (μ:=μ) (σd:=σ) (O:=O) hr2 e0 (un.keep lam _ hget hlN hnfr (by simp)) hqn LS.co LS.gen LS.kind LS.cell (hbl _ _ _ _ _ _) hvis (zbU I1 un hcl) (zeM I1 hcl) hasF (zcr I1 un hcl hasF hfv) I1.len (hE _ _ _ _ _ _ _ _ _) (e1.ext (ext μ)) (cells hid μ O c1) qq
end
theorem zkd {K:aj} {Ec:XK->Nat->Hp->Prop} {Pt:af} {F:List D->Ow->R D} {H:Hp} {a:af} {ns:List Int} (h:∃ O,F [.lst (ns.map .int)] []=.ok (.bl true) O) (hT:H Pt=some (.tbl #[])) (sq:SqL K H a (ns.map V.int)):zgo K Ec 1 Pt F [.ref a] H (fun v _=>v=.bl true) fun _ _ _=>False:=by
 obtain ⟨O,h⟩:=h
 have dn:∀ (l:List Int),l8 K H [] [] (l.map D.int) (l.map V.int):=fun l=>by
  induction l with
  | nil=>exact .nil
  | cons x r ih=>exact .cons z1r ih
 refine ⟨rfl,[],[],[.lst (ns.map .int)],[],.cons ?_ .nil,⟨rfl,by simp,by simp,by simp,fun k a e=>by simp at e⟩,ml.empty hT,?_⟩
 ·unfold Dat
  exact ⟨a,_,rfl,sq.imp (fun z=>⟨z,by simp,by simp⟩) id,dn ns⟩
 ·rw [h]
  intro v H' μ' _ _ r
  unfold Dat at r
  exact r
theorem walkT {l:kz} {q:aJ} {loose:List Str} {XP:(Str->Option ae)->aP->Prop} {YP:aR->aP->Prop} {d:DefRec} {K:gE->aj} {Cl:Nat->ae} {k:Nat} {x:Str} {F:Nat->List D->Ow->R D} {α:Type} {Yf:ai->α} {Ya:aR->α} (hn:l.most=some 63) (hdf:d.params.defaults=[]) (hr:me k callerA)
  (hYf:∀ w s,Yf s=Ya w->YP w s.heap) (hYk:∀ w h h',YP w h->(∀ b o,h.get? b=some o->h'.get? b=some o)->YP w h')
  (hY:∀ (w:aR) (h:aP),YP w h->(K w.params).In h) (hrec:(PyProof.Rows.recsOf q).find? (fun e=>e.name == d.name)=some d)
  (hF:∀ (w:aR) (mg:Str->Option ae) (fa:af) (h:aP),(K w.params).In h->h.Ns bz mg->mg d.name=some (.ref fa)->
   hJ (K w.params)=true/\∃ (c Pt:af),iD (K w.params) d.name=some (c,Pt)/\∃ fd:cX,(∀ (s:ai) (u:ae),gx s fd ⟨[u],[]⟩ [(x,u)])/\∀ base:aP,(K w.params).In base->base.Ns bz mg->z78 mg base c Pt->mq l.prog w (K w.params) mg base (CXr l.prog w Cl) k fa fd [x] (zgo (K w.params) (Xk Cl) 1 Pt (F Pt)))
  (pure_:∀ (Pt:Nat) (ns:List Int),ns.length <= 63->∃ O,F Pt [.lst (ns.map .int)] []=.ok (.bl true) O):
  PySem.W.WalkX q loose XP (fun s=>(Yf s,decide (0 < s.toks))) (fun w=>(Ya w,true)) l.row.toRowW d [] (fun f vs=>PySem.call f vs):=by
 refine Att.attach_call hn hdf hYf hYk fun w s₀ s₁ mg mb fa o pm cd doc a vs ns G Y ho hd hcd hmg hobj hints hlen hg htk=>?_
 have KX:=hY w _ Y
 obtain ⟨hK,c,Pt,ht,fd,hb,hF⟩:=hF w mg fa _ KX G.T.g hmg
 obtain ⟨hC,hP⟩:=PySem.W.tab_of G.T KX hrec ht
 have hB:s₁.heap.BuiltinsAt mg Pt:=by
  obtain ⟨bm,ob,b1,b2,b3,b4,b5,b6⟩:=G.T.bmain
  refine ⟨bm,ob,b1,b2,fun q=>?_,fun q=>?_,b3,b4,b5,b6⟩
  ·obtain ⟨o,es,ep,e,hd,_⟩:=G.T.g
   rw [q,e] at b3;cases b3;rw [hd] at b6;cases b6
  ·rw [q,hP] at b3;cases b3;cases b4
 exact zdf KX G.T.g G.T.b G.T.builtins G.T.nolimit hg htk hobj hints (bb hlen (by decide)) hr hC hP hK hB hF hb (fun H hT hS=>zkd (pure_ Pt ns hlen) hT hS) fun H e s' ⟨_,_,_,_,_,_,_,_,_,_,z⟩=>z
section
variable {X:Cx} {Ex:Nat->Hp->Prop}
def z94:Ow->D->D->R D:=fun O x y=>match x,y with
 | .str [c],.int i=>if 0 <= i/\i <= 16 then .ok (.str (aq i.toNat c)) O else .bad
 | _,_=>.bad
theorem z96 (c:Nat):∀ (k:Nat) (acc:List Nat),(aq k (#[c]:Array Nat)).foldl (· ++ ·) acc.toArray=(acc ++ aq k c).toArray
 | 0,acc=>by simp
 | k + 1,acc=>by
  rw [cx,fH]
  have e:acc.toArray ++ #[c]=(acc ++ [c]).toArray:=by simp
  rw [e,z96 c k]
  rw [cx]
  simp
theorem zgB (c:Nat) (i:Int):Txt.mul (⟨#[c]⟩:Str) i=⟨(aq i.toNat c).toArray⟩:=by
 unfold Txt.mul
 by_cases h1:i < 1
 ·rw [if_pos h1]
  have:i.toNat=0:=by omega
  rw [this];rfl
 ·rw [if_neg h1]
  by_cases h2:i=1
  ·subst h2;rfl
  ·have h3:(i == 1 || (⟨#[c]⟩:Str).length == 0)=false:=by
    have:(i == 1)=false:=by simpa using h2
    rw [this];rfl
   rw [if_neg (by rw [h3];decide)]
   have:=z96 c i.toNat []
   simp only [cG] at this
   rw [this]
theorem zhD:OpR X (cU .Mult) (fun x y H Q=>∃ c i,x=.str ⟨#[c]⟩/\y=.int i/\0 <= i/\i <= 16/\Q (.str ⟨(aq i.toNat c).toArray⟩) H):=by
 intro pins s σ H x y v u Q I rx ry h
 obtain ⟨c,i,rfl,rfl,h0,h1,q⟩:=h
 obtain ⟨t,rfl⟩:=rx
 obtain ⟨t',rfl⟩:=ry
 refine wT I (SB.mul ?_ fun tk k htk=>⟨.str (Txt.mul ⟨#[c]⟩ i),H,I.tok k,⟨_,rfl⟩,by rw [zgB];exact q⟩)
 refine ⟨?_,fun h2 h3=>?_,fun h2 h3=>?_⟩
 ·have a1:decide (i < -(2 ^ 63:Int))=false:=by simp;omega
  have a2:decide (i ≥ 2 ^ 63)=false:=by simp;omega
  rw [a1,a2];rfl
 ·have e:((⟨#[c]⟩:Str).length:Int)=1:=rfl
  rw [e]
  have:(1:Int) <= (2 ^ 63 - 1) / i:=by
   rw [Int.le_ediv_iff_mul_le (by omega)]
   omega
  omega
 ·have e:(⟨#[c]⟩:Str).length * i.toNat=i.toNat:=by
   show 1 * _=_
   omega
  rw [e]
  have:i.toNat <= 16:=by omega
  generalize i.toNat=n at this
  revert n
  decide
theorem zf7:OpD X Ex (fun x y H Q=>∃ c i,x=.str ⟨#[c]⟩/\y=.int i/\0 <= i/\i <= 16/\Q (.str ⟨(aq i.toNat c).toArray⟩) H) z94:=by
 intro H hid μ O x y v w Q c dx dy q
 unfold z94 at q
 split at q
 ·rename_i cc i
  unfold Dat at dx dy;subst dx;subst dy
  obtain ⟨hl,q⟩:=post.ite q
  refine ⟨cc,i,rfl,rfl,hl.1,hl.2,post.here q c ?_⟩
  unfold Dat;rfl
 ·exact ak q
end
theorem l0.frz {Cl:Nat->ae} {P:aJ} {w:aR} {K:aj} {mg:Str->Option ae} {base:aP} {k n:Nat} {x:Str} {F:List D->Ow->R D} (c:l0 Cl P w K mg base x k n F):l0 Cl P w K mg base x k n (ziQ F):=
 c.imp fun ds O H hid μ Ex Q cl q=>zfs cl.len q
theorem fnT {Cl:Nat->ae} {P:aJ} {w:aR} {K:aj} {mg:Str->Option ae} {base:aP} {k i:Nat} {f c Pt:af} {fd:cX} {x z:Str} {st:cu} {N ps:List Str} {t:DS} (hF:L2.Fun K x x st f fd) (hc:fd.code=.ref c) (S:z13 N ps (z0V st)) (hi:N[i]?=some z) (hz:¬ Vis (z0V st) z)
  (hbody:∀ (A:ba) (outer:List Env) (s:ai) (H:Hp) (E:XK),me k (A.deeper (bf x (z0V st) s.heap.objs.size f (.ref c)))->z5F (cxX Cl P w K mg base N x (z0V st) f (.ref c) A outer s H E) (Xk Cl E) (z1O st) t):
  mq P w K mg base (CXr P w Cl) (k + 1) f fd ps (zgo K (Xk Cl) ps.length Pt (zlc N.length i Pt t)):=by
 obtain ⟨oc,od,kV,doc,pm,an,cdv,ct,osl,rfl,lk,hcd⟩:=hF.ex
 have e:cdv=.ref c:=hc
 subst e
 exact zkA lk hcd S hi hz hbody
theorem zmU (h:sc.names.lookup z=none):¬ Vis sc z:=by
 intro v
 rcases v with v|v|v <;> (rw [h] at v;cases v)
def zme (out sc:b9):Bool:=(match sc.kind with|.function=>true|_=>false) && !sc.isCoroutine && !sc.isGenerator && decide ((sc.names.map (·.1)).Nodup) && (sc.names.all fun y=>!(y.2 == .cell) && !(y.2 == .local)) && (sc.names.all fun y=>!(y.2 == .free) || out.names.lookup y.1 == some .cell || out.names.lookup y.1 == some .free)
theorem zc3 (h:zme out sc=true):z4A out sc:=by
 unfold zme at h
 simp only [bh,decide_eq_true_eq,aG] at h
 obtain ⟨⟨⟨⟨⟨h1,h2⟩,h3⟩,h4⟩,h5⟩,h6⟩:=h
 refine ⟨?_,by simpa using h2,by simpa using h3,h4,fun y hy=>?_,fun y hy=>?_,fun y hy hf=>?_⟩
 ·cases e:sc.kind <;> rw [e] at h1 <;> first|rfl|cases h1
 ·have:=(h5 y hy).1;simpa using this
 ·have:=(h5 y hy).2;simpa using this
 ·have:=h6 y hy
  rw [hf] at this
  simpa using this
theorem zhf (X:K.In base) (g:mg x=some (.ref C)) (q:j7 K C zla "ValueError.__new__" = true):zlG mg base x C:=by
 unfold j7 at q
 split at q
 next dd cd sl ho=>
  split at q
  next C' bm k0 k1 k2 k3 n k5 hm hs=>
   simp only [bh,beq_iff_eq,iK] at q
   obtain ⟨⟨⟨⟨⟨q1,q2⟩,q3⟩,q4⟩,q5⟩,q6⟩:=q
   subst q1;subst q2
   cases cd with
   | mk nm bs mro ns qn hd sn sub ab col del=>
    dsimp only at hm q3 q5 q6
    subst hm;subst q3
    cases sl with
    | mk l=>
     dsimp only at hs
     subst hs
     exact ⟨g,bm,ns,nm,qn,bs,hd,sn,sub,ab,col,dd,k0,k1,k2,k3,k5,_,X _ _ ho,.of_isNs (PySem.W.isNs_of_in X q5),PySem.W.nsMap_none_of_in X q5 q6,PySem.W.tail_of_in X q4⟩
  next=>cases q
 next=>cases q
theorem xck_of (ga:cO K (.ref C) "__getattribute__" = some (some (.builtin "BaseException.__getattribute__"))) (nh:cO K (.ref C) "__getattr__" = some none) (cl:lM K C=some cd)
  (at_:cO K (.ref C) "__class__" = some (some (.builtin "object.__class__"))) (gt:fZ K (.builtin "object.__class__") "__get__" = some (some (.builtin "getset_descriptor.__get__"))) (tk:jj K (.builtin "object.__class__")=some true)
  (ob:gj K C (.type "object")=some true) (bx:gj K C (.type "BaseException")=some true)
  (k1:aI K (.ref C) (.type "int")=some false) (k2:aI K (.ref C) (.type "bool")=some false) (k3:aI K (.ref C) (.type "str")=some false) (k4:aI K (.ref C) (.type "list")=some false) (k5:aI K (.ref C) (.type "tuple")=some false) (k6:aI K (.ref C) (.type "dict")=some false):XcK K C:=
 ⟨ga,nh,⟨cd,cl⟩,at_,gt,tk,ob,bx,fun c hc=>by
  simp only [av,aM,or_false] at hc
  rcases hc with rfl|rfl|rfl|rfl|rfl|rfl <;> assumption⟩
theorem zkZ {K:aj} {x name qual:Str} {f c Pt:af} {params:dX} {body:List cu} {scope:b9} {dV kV doc pm ct oc oc':ae} {an od od':Option af} {osl osl':Array (Option ae)} {vs:Array ae} (a:fP K bz x=some (some (.ref f)))
  (lk:K.lookup f=some ⟨oc,od,.func (bA name qual params body scope dV kV doc pm an (.ref c) ct),osl⟩) (h4:K.lookup c=some ⟨oc',od',.fields vs,osl'⟩) (h5:vs[11]?=some (.ref Pt)):iD K x=some (c,Pt):=by
 unfold iD
 rw [a]
 simp only [lk]
 show (match K.lookup c with|some ⟨_,_,.fields vs,_⟩=>_|_=>none)=_
 simp only [h4,h5]
theorem z80:a8 "ValueError" = some (.type "ValueError"):=by boot_by_name
structure mr (P:aJ) (w:aR) (ia:af) (fp:List af) (n:Nat) (Pv:Nat->ae->Prop) (Sx:Nat->aP->Prop):Prop where
 stab:∀ i h h',Sx i h->(∀ b ∈ ia :: fp,∀ o,h.get? b=some o->h'.get? b=some o)->Sx i h'
 item:∀ (A:ba) (i:Nat) (s:ai) (Q:ae->ai->Prop) (E:ae->ai->Prop),i < n->Sx i s.heap->(∀ v h' tk,Pv i v->Sx (i + 1) h'->cr ia s.heap h'->Q v { s with heap:=h',toks:=tk })->ar (ay P w) A (bI (.ref ia)) Q E s
 done:∀ (A:ba) (i:Nat) (s:ai) (Q:ae->ai->Prop) (E:ae->ai->Prop),A.handled=none->n <= i->Sx i s.heap->(∀ h' e,ig ia s.heap h'->(∃ o,h'.get? e=some o/\o.cls=.type "StopIteration")->E (.ref e) { s with heap:=h' })->ar (ay P w) A (bI (.ref ia)) Q E s
section
variable {P:aJ} {w:aR} {A:ba} {E:ae->ai->Prop} {s:ai}
theorem zb9 {α:Type} {Q:α->ai->Prop} (hh:A.handled=none) (h:∀ h' e,(∀ b o,s.heap.get? b=some o->h'.get? b=some o)->(∃ o,h'.get? e=some o/\o.cls=.type "StopIteration")->E (.ref e) { s with heap:=h' }):
  ar (ay P w) A (newExc (.type "StopIteration") [] >>= fun e=>(raiseNew e:Sem α)) Q E s:=by
 refine aa ?_
 simp only [newExc,newTuple]
 refine aa (bn (?_) (by size_fits))
 refine aa (m:=firstArgMember _ _) (jr (a:=.none) (by first|rfl|(simp only [firstArgMember];rfl)) (bn ?_ (by size_fits)))
 simp only [raiseNew]
 refine aa (wpAny_handled ?_);rw [hh]
 refine aa (am (wpAny_throw (h _ _ (fun b o e=>ah _ (ah _ e)) ⟨_,aC _ rfl,rfl⟩)))
theorem zen (ia tt:af) (items:Array ae) (hne:tt ≠ ia):mr P w ia [tt] items.size (fun i v=>items[i]?=some v) (fun i h=>h.IsTupleIter ia tt i/\h.IsTuple tt items) where
 stab:=by
  rintro i h h' ⟨⟨o,e,c,d⟩,⟨o2,e2,r⟩⟩ k
  exact ⟨⟨o,k ia (by simp) o e,c,d⟩,⟨o2,k tt (by simp) o2 e2,r⟩⟩
 item:=by
  rintro A i s Q E hi ⟨hit,htt⟩ hq
  obtain ⟨ob,hob,hcl,hda⟩:=id hit
  obtain ⟨ol,hol,k1,nl,hdl⟩:=id htt
  have hxx:items[i]?=some items[i]:=aV hi
  unfold bI
  refine aa (bB (name := "__next__") hit.typeIs eo (bF eo hit.typeIs ir ?_ (hU _)))
  show ar _ _ (field (.ref ia) 0 >>= _) _ _ s
  refine aa (bd hob hda (x:=.ref tt) rfl ?_)
  show ar _ _ (if (cP tt == cj)=true then _ else _) _ _ s
  rw [if_neg (by exact bH)]
  show ar _ _ (field (.ref ia) 1 >>= _) _ _ s
  refine aa (bd hob hda (x:=.int i 0) rfl ?_)
  show ar _ _ (seqItems? (.ref tt) >>= _) _ _ s
  refine aa (dr hol hdl ?_)
  simp only [eu,hxx]
  refine aa (dN hob hda (by simp) (am ⟨_,rfl,am (hq _ _ s.toks hxx ⟨?_,?_⟩ (di ..))⟩))
  ·exact ⟨_,bC _ hob (cE (cf hda _)),(iJ ..).trans hcl,by rw [cf hda];simp [bj]⟩
  ·exact ⟨ol,(di ..).extBut _ _ hne hol,k1,nl,hdl⟩
 done:=by
  rintro A i s Q E hh hi ⟨hit,htt⟩ hq
  obtain ⟨ob,hob,hcl,hda⟩:=id hit
  obtain ⟨ol,hol,k1,nl,hdl⟩:=id htt
  have hxx:items[i]?=none:=by simp [hi]
  unfold bI
  refine aa (bB (name := "__next__") hit.typeIs eo (bF eo hit.typeIs ir ?_ (hU _)))
  show ar _ _ (field (.ref ia) 0 >>= _) _ _ s
  refine aa (bd hob hda (x:=.ref tt) rfl ?_)
  show ar _ _ (if (cP tt == cj)=true then _ else _) _ _ s
  rw [if_neg (by exact bH)]
  show ar _ _ (field (.ref ia) 1 >>= _) _ _ s
  refine aa (bd hob hda (x:=.int i 0) rfl ?_)
  show ar _ _ (seqItems? (.ref tt) >>= _) _ _ s
  refine aa (dr hol hdl ?_)
  simp only [eu,hxx]
  refine aa (eD (aa (dN hob hda (by simp) ?_)))
  refine zb9 (by first|exact hh|(show A.in1.handled=none;exact hh)) fun h' e k he=>hq h' e (fun b o hb z=>k b o ((di ..).extBut _ _ hb z)) he
theorem zdW (ia:af) (x:Str) (t:Tok):mr P w ia [] x.cps.size (fun i v=>∃ c tk,x.cps[i]?=some c/\v=.str ⟨#[c]⟩ tk) (fun i h=>h.IsStrIter ia "str_ascii_iterator" x t i) where
 stab:=by
  rintro i h h' ⟨o,e,c,d⟩ k
  exact ⟨o,k ia (by simp) o e,c,d⟩
 item:=by
  rintro A i s Q E hi hit hq
  obtain ⟨ob,hob,hcl,hda⟩:=id hit
  have hxx:x.cps[i]?=some x.cps[i]:=aV hi
  unfold bI
  refine aa (bB (name := "__next__") hit.typeIs dF (bF dF hit.typeIs gD ?_ (gr _)))
  show ar _ _ (field (.ref ia) 0 >>= _) _ _ s
  refine aa (bd hob hda (x:=.str x t) rfl ?_)
  show ar _ _ (field (.ref ia) 1 >>= _) _ _ s
  refine aa (bd hob hda (x:=.int i 0) rfl ?_)
  simp only [eu,hxx]
  refine aa (dN hob hda (by simp) (aa (wpAny_mkStr (am ⟨_,rfl,am (hq _ _ _ ⟨_,_,hxx,rfl⟩ ?_ (di ..))⟩) (by show 1 <= sizeLine;decide))))
  exact ⟨_,bC _ hob (cE (cf hda _)),(iJ ..).trans hcl,by rw [cf hda];simp [bj]⟩
 done:=by
  rintro A i s Q E hh hi hit hq
  obtain ⟨ob,hob,hcl,hda⟩:=id hit
  have hxx:x.cps[i]?=none:=by simp [hi]
  unfold bI
  refine aa (bB (name := "__next__") hit.typeIs dF (bF dF hit.typeIs gD ?_ (gr _)))
  show ar _ _ (field (.ref ia) 0 >>= _) _ _ s
  refine aa (bd hob hda (x:=.str x t) rfl ?_)
  show ar _ _ (field (.ref ia) 1 >>= _) _ _ s
  refine aa (bd hob hda (x:=.int i 0) rfl ?_)
  simp only [eu,hxx]
  refine aa (eD (aa (dN hob hda (by simp) (aa (ij ?_)))))
  refine zb9 (by first|exact hh|(show A.in1.handled=none;exact hh)) fun h' e k he=>hq h' e (fun b o hb z=>k b o ((di ..).extBut _ _ hb z)) he
theorem zcf (ia l:af) (items:Array ae) (hne:l ≠ ia):mr P w ia [l] items.size (fun i v=>items[i]?=some v) (fun i h=>h.IsListIter ia l i/\h.IsList l items) where
 stab:=by
  rintro i h h' ⟨⟨o,e,c,d⟩,⟨o2,e2,r⟩⟩ k
  exact ⟨⟨o,k ia (by simp) o e,c,d⟩,⟨o2,k l (by simp) o2 e2,r⟩⟩
 item:=by
  rintro A i s Q E hi ⟨hit,hl⟩ hq
  obtain ⟨ol,hol,r⟩:=id hl
  exact wpAny_nextOf_list_item hit hl (aV hi) fun h' st sb=>hq _ h' s.toks (aV hi) ⟨st,⟨ol,sb.extBut _ _ hne hol,r⟩⟩ sb
 done:=by
  rintro A i s Q E hh hi ⟨hit,hl⟩ hq
  exact wpAny_nextOf_list_end hh hit hl (by simp [hi]) fun h' e eb he=>hq h' e eb he
end
structure ZAp (z ti to:af) (i1 i2:af) (fp1 fp2:List af):Prop where
 a1:ti ≠ z
 a2:to ≠ z
 a3:ti ≠ to
 b1:∀ b ∈ i1 :: fp1,b ≠ z/\b ≠ to
 b2:∀ b ∈ i2 :: fp2,b ≠ z/\b ≠ to
 c1:i1 ∉ i2 :: fp2
 c2:i2 ∉ i1 :: fp1
 d1:ti ≠ i1
 d2:ti ≠ i2
section
variable {P:aJ} {w:aR} {A:ba} {E:ae->ai->Prop} {s:ai} {z ti to i1 i2:af} {fp1 fp2:List af} {n1 n2 k:Nat} {P1 P2:Nat->ae->Prop} {S1 S2:Nat->aP->Prop} {a b:ae}
theorem mr.but (J:mr P w ia fp n Pv Sx) (x:Sx i h) (e:ig c h h') (hc:∀ b ∈ ia :: fp,b ≠ c):Sx i h':=J.stab i h h' x fun b hb o z=>e b o (hc b hb) z
theorem zit {Q:ae->ai->Prop} (J1:mr P w i1 fp1 n1 P1 S1) (J2:mr P w i2 fp2 n2 P2 S2) (D:ZAp z ti to i1 i2 fp1 fp2) (hz:fg s.heap z ti to .none) (hti:dj s.heap ti (.ref i1) (.ref i2)) (hto:dj s.heap to a b) (h1:S1 k s.heap) (h2:S2 k s.heap) (l1:k < n1) (l2:k < n2)
  (hq:∀ x y h' tk,P1 k x->P2 k y->fg h' z ti to (bj s.heap.objs.size)->dj h' to x y->S1 (k + 1) h'->S2 (k + 1) h'->dj h' s.heap.objs.size x y->
   (∀ c o,c ≠ z->c ≠ to->c ≠ i1->c ≠ i2->s.heap.get? c=some o->h'.get? c=some o)->Q (.ref s.heap.objs.size) { s with heap:=h',toks:=tk }):
  ar (ay P w) A (cA.«zip.__next__» ⟨[.ref z],[]⟩) (fun f s'=>∃ v,f=.done (.ret v)/\Q v s') E s:=by
 have ne1:∀ b ∈ i1 :: fp1,b ≠ z:=fun b hb=>(D.b1 b hb).1
 have ne2:∀ b ∈ i2 :: fp2,b ≠ z:=fun b hb=>(D.b2 b hb).1
 have no1:∀ b ∈ i1 :: fp1,b ≠ to:=fun b hb=>(D.b1 b hb).2
 have no2:∀ b ∈ i2 :: fp2,b ≠ to:=fun b hb=>(D.b2 b hb).2
 have n21:∀ b ∈ i2 :: fp2,b ≠ i1:=fun b hb e=>D.c1 (e ▸ hb)
 have n12:∀ b ∈ i1 :: fp1,b ≠ i2:=fun b hb e=>D.c2 (e ▸ hb)
 have m1:i1 ∈ i1 :: fp1:=aH
 have m2:i2 ∈ i2 :: fp2:=aH
 show ar _ _ (field (.ref z) 2 >>= _) _ _ s
 refine aa (bd hz rfl (x:=(.bool false)) rfl ?_)
 show ar _ _ (field (.ref z) 3 >>= _) _ _ s
 refine aa (bd hz rfl (x:=(.ref ti)) rfl (aa (dr hti rfl ?_)))
 show ar _ _ (bU (.ref z) >>= _) _ _ s
 refine aa ?_;unfold bU
 refine aa (bd hz rfl (x:=(.none)) rfl (am ?_))
 simp only [if_true];refine aa (eD (aa (bd hz rfl (x:=(.ref to)) rfl ?_)))
 refine aa (br hz (by simp) fun ha za sa=>?_)
 have za:fg ha z ti to .ellipsis:=za
 refine aa ?_;simp only [ll,lC,fG,jB]
 refine aa (aa (gm ?_));show ar _ _ (bI (.ref i1) >>= _) _ _ _
 refine aa (J1.item _ k _ _ _ l1 (J1.but h1 sa.extBut ne1) fun x hb tk1 px sb1 sb=>am ?_)
 have tob:dj hb to a b:=sb.extBut _ _ (bo (no1 _ m1)) (sa.extBut _ _ D.a2 hto)
 refine aa (dr tob rfl (aa (gP tob fun hc toc sc=>?_)))
 have toc:dj hc to x b:=toc
 refine aa (ij (am (aa (aa (gm ?_)))));show ar _ _ (bI (.ref i2) >>= _) _ _ _
 refine aa (J2.item _ k _ _ _ l2 (J2.but (J2.but (J2.but h2 sa.extBut ne2) sb.extBut n21) sc.extBut no2) fun y hd tk2 py sd2 sd=>am ?_)
 have tod:dj hd to x b:=sd.extBut _ _ (bo (no2 _ m2)) toc
 refine aa (dr tod rfl (aa (gP tod fun he toe se=>?_)))
 have toe:dj he to x y:=toe
 refine aa (ij (am (am (aa (dr toe rfl (aa (jE ?_)))))))
 have hsz:he.objs.size=s.heap.objs.size:=by rw [se.1,sd.1,sc.1,sb.1,sa.1]
 have ze:fg he z ti to .ellipsis:=se.extBut _ _ (bo D.a2) (sd.extBut _ _ (bo (ne2 _ m2)) (sc.extBut _ _ (bo D.a2) (sb.extBut _ _ (bo (ne1 _ m1)) za)))
 have ke:∀ c o,c ≠ z->c ≠ to->c ≠ i1->c ≠ i2->s.heap.get? c=some o->he.get? c=some o:=fun c o q1 q2 q3 q4 e=>se.extBut _ _ q2 (sd.extBut _ _ q4 (sc.extBut _ _ q2 (sb.extBut _ _ q3 (sa.extBut _ _ q1 e))))
 have s1e:S1 (k + 1) he:=J1.but (J1.but (J1.but sb1 sc.extBut no1) sd.extBut n12) se.extBut no1
 have s2e:S2 (k + 1) he:=J2.but sd2 se.extBut no2
 have zlt:z < he.objs.size:=aF ze
 show ar _ _ (cZ (.ref z) (.ref he.objs.size) >>= _) _ _ _
 refine aa ?_;unfold cZ
 have zf:fg (he.push { cls:=.type "tuple",data:=.seq #[x,y] }) z ti to .ellipsis:=ah _ ze
 refine aa (br zf (by simp) fun hg zg sg=>?_)
 have zg:fg hg z ti to (bj he.objs.size):=zg
 refine br zg (by simp) fun hi zi si=>?_
 have zi:fg hi z ti to (bj he.objs.size):=zi
 have up:∀ c o,c ≠ z->he.get? c=some o->hi.get? c=some o:=fun c o q e=>si.extBut _ _ q (sg.extBut _ _ q (ah _ e))
 have pi:dj hi he.objs.size x y:=si.extBut _ _ (cM zlt) (sg.extBut _ _ (cM zlt) (aC _ rfl))
 rw [hsz] at zi pi
 refine am ⟨_,rfl,?_⟩
 show Q (.ref he.objs.size) _
 rw [hsz]
 exact hq x y hi _ px py zi (up _ _ D.a2 toe) (J1.stab _ _ _ s1e fun b hb o e=>up b o (ne1 b hb) e) (J2.stab _ _ _ s2e fun b hb o e=>up b o (ne2 b hb) e) pi fun c o q1 q2 q3 q4 e=>up c o q1 (ke c o q1 q2 q3 q4 e)
theorem zgM (hh:A.handled=none) (J1:mr P w i1 fp1 n1 P1 S1) (J2:mr P w i2 fp2 n2 P2 S2) (D:ZAp z ti to i1 i2 fp1 fp2) (hz:fg s.heap z ti to .none) (hti:dj s.heap ti (.ref i1) (.ref i2)) (hto:dj s.heap to a b) (h1:S1 k s.heap) (h2:S2 k s.heap) (hend:n1 <= k \/ (k < n1/\n2 <= k))
  (hE:∀ h' tk e,(∀ c o,c ≠ z->c ≠ to->c ≠ i1->c ≠ i2->s.heap.get? c=some o->h'.get? c=some o)->(∃ o,h'.get? e=some o/\o.cls=.type "StopIteration")->E (.ref e) { s with heap:=h',toks:=tk }):
  ar (ay P w) A (cA.«zip.__next__» ⟨[.ref z],[]⟩) Q E s:=by
 have ne1:∀ b ∈ i1 :: fp1,b ≠ z:=fun b hb=>(D.b1 b hb).1
 have ne2:∀ b ∈ i2 :: fp2,b ≠ z:=fun b hb=>(D.b2 b hb).1
 have no1:∀ b ∈ i1 :: fp1,b ≠ to:=fun b hb=>(D.b1 b hb).2
 have no2:∀ b ∈ i2 :: fp2,b ≠ to:=fun b hb=>(D.b2 b hb).2
 have n21:∀ b ∈ i2 :: fp2,b ≠ i1:=fun b hb e=>D.c1 (e ▸ hb)
 have m1:i1 ∈ i1 :: fp1:=aH
 have m2:i2 ∈ i2 :: fp2:=aH
 show ar _ _ (field (.ref z) 2 >>= _) _ _ s
 refine aa (bd hz rfl (x:=(.bool false)) rfl ?_)
 show ar _ _ (field (.ref z) 3 >>= _) _ _ s
 refine aa (bd hz rfl (x:=(.ref ti)) rfl (aa (dr hti rfl ?_)))
 show ar _ _ (bU (.ref z) >>= _) _ _ s
 refine aa ?_;unfold bU
 refine aa (bd hz rfl (x:=(.none)) rfl (am ?_))
 simp only [if_true];refine aa (eD (aa (bd hz rfl (x:=(.ref to)) rfl ?_)))
 refine aa (br hz (by simp) fun ha za sa=>?_)
 have za:fg ha z ti to .ellipsis:=za
 refine aa ?_;simp only [ll,lC,fG,jB]
 refine aa (aa (gm ?_));show ar _ _ (bI (.ref i1) >>= _) _ _ _
 have far:∀ {h:aP} {e:af},fg h z ti to .ellipsis->(∃ o,h.get? e=some o/\o.cls=.type "StopIteration")->e ≠ z:=fun {h e} hz ⟨o,ho,hc⟩ q=>by subst q;rw [hz] at ho;cases ho;simp at hc
 rcases hend with hend|⟨l1,hend⟩
 ·refine aa (J1.done _ k _ _ _ hh hend (J1.but h1 sa.extBut ne1) fun hb e eb he=>?_)
  have zb:fg hb z ti to .ellipsis:=eb _ _ (bo (ne1 _ m1)) za
  have nz:=far zb he
  obtain ⟨oe,hoe,hce⟩:=he
  exact br zb (by simp) fun hc _ sc=>hE hc _ e (fun c o q1 _ q3 _ x=>sc.extBut _ _ q1 (eb _ _ q3 (sa.extBut _ _ q1 x))) ⟨oe,sc.extBut _ _ nz hoe,hce⟩
 ·refine aa (J1.item _ k _ _ _ l1 (J1.but h1 sa.extBut ne1) fun x hb tk1 px sb1 sb=>am ?_)
  have tob:dj hb to a b:=sb.extBut _ _ (bo (no1 _ m1)) (sa.extBut _ _ D.a2 hto)
  refine aa (dr tob rfl (aa (gP tob fun hc toc sc=>?_)))
  refine aa (ij (am (aa (aa (gm ?_)))));show ar _ _ (bI (.ref i2) >>= _) _ _ _
  refine aa (J2.done _ k _ _ _ hh hend (J2.but (J2.but (J2.but h2 sa.extBut ne2) sb.extBut n21) sc.extBut no2) fun hd e eb he=>?_)
  have zd:fg hd z ti to .ellipsis:=eb _ _ (bo (ne2 _ m2)) (sc.extBut _ _ (bo D.a2) (sb.extBut _ _ (bo (ne1 _ m1)) za))
  have nz:=far zd he
  obtain ⟨oe,hoe,hce⟩:=he
  exact br zd (by simp) fun hf _ sf=>hE hf _ e (fun c o q1 q2 q3 q4 x=>sf.extBut _ _ q1 (eb _ _ q4 (sc.extBut _ _ q2 (sb.extBut _ _ q3 (sa.extBut _ _ q1 x))))) ⟨oe,sf.extBut _ _ nz hoe,hce⟩
theorem zhj {Q:Option ae->ai->Prop} (J1:mr P w i1 fp1 n1 P1 S1) (J2:mr P w i2 fp2 n2 P2 S2) (D:ZAp z ti to i1 i2 fp1 fp2) (hz:fg s.heap z ti to .none) (hti:dj s.heap ti (.ref i1) (.ref i2)) (hto:dj s.heap to a b) (h1:S1 k s.heap) (h2:S2 k s.heap) (l1:k < n1) (l2:k < n2)
  (hq:∀ x y h' tk,P1 k x->P2 k y->fg h' z ti to (bj s.heap.objs.size)->dj h' to x y->S1 (k + 1) h'->S2 (k + 1) h'->dj h' s.heap.objs.size x y->
   (∀ c o,c ≠ z->c ≠ to->c ≠ i1->c ≠ i2->s.heap.get? c=some o->h'.get? c=some o)->Q (some (.ref s.heap.objs.size)) { s with heap:=h',toks:=tk }):ar (ay P w) A (pyNext (.ref z)) Q E s:=by
 have ht:s.TypeIs (.ref z) "zip":=⟨_,hz,rfl⟩
 unfold pyNext
 exact aa (eR (bB (name := "__next__") ht gQ (bF gQ ht lm (zit J1 J2 D hz hti hto h1 h2 l1 l2 fun x y h' tk q1 q2 q3 q4 q5 q6 q7 q8=>am (hq x y h' tk q1 q2 q3 q4 q5 q6 q7 q8)) (kX _))))
theorem zjQ (hh:A.handled=none) (J1:mr P w i1 fp1 n1 P1 S1) (J2:mr P w i2 fp2 n2 P2 S2) (D:ZAp z ti to i1 i2 fp1 fp2) (hz:fg s.heap z ti to .none) (hti:dj s.heap ti (.ref i1) (.ref i2)) (hto:dj s.heap to a b) (h1:S1 k s.heap) (h2:S2 k s.heap) (hend:n1 <= k \/ (k < n1/\n2 <= k))
  (hq:∀ h' tk,(∀ c o,c ≠ z->c ≠ to->c ≠ i1->c ≠ i2->s.heap.get? c=some o->h'.get? c=some o)->Q none { s with heap:=h',toks:=tk }):ar (ay P w) A (pyNext (.ref z)) Q E s:=by
 have ht:s.TypeIs (.ref z) "zip":=⟨_,hz,rfl⟩
 unfold pyNext
 refine aa (eR (bB (name := "__next__") ht gQ (bF gQ ht lm (zgM hh J1 J2 D hz hti hto h1 h2 hend fun h' tk e hk he=>?_) (kX _))))
 obtain ⟨oe,ho,hc⟩:=he
 exact aa (gu (T := "StopIteration") (b:=true) ⟨oe,ho,hc⟩ jF (am (hq _ tk hk)))
end
inductive ZK where
 | tup (t:af) (items:Array ae)
 | str (x:Str) (t:Tok)
 | lst (l:af) (items:Array ae)
def ZK.val:ZK->ae
 | .tup t _=>.ref t
 | .str x t=>.str x t
 | .lst l _=>.ref l
def ZK.obj:ZK->Obj
 | .tup t _=>{ cls:=.type "tuple_iterator",data:=.fields #[.ref t,.int 0 0] }
 | .str x t=>{ cls:=.type "str_ascii_iterator",data:=.fields #[.str x t,.int 0 0] }
 | .lst l _=>{ cls:=.type "list_iterator",data:=.fields #[.ref l,.int 0 0] }
def ZK.pre (h:aP):ZK->Prop
 | .tup t items=>h.IsTuple t items
 | .str x _=>x.cps.all (· < 128)=true
 | .lst l items=>h.IsList l items
theorem ZK.keep (k:∀ b o,h.get? b=some o->h'.get? b=some o):∀ (q:ZK),q.pre h->q.pre h'
 | .tup t items,⟨o,e,r⟩=>⟨o,k _ _ e,r⟩
 | .str x t,e=>e
 | .lst l items,⟨o,e,r⟩=>⟨o,k _ _ e,r⟩
theorem ZK.iter (q:ZK) (h:q.pre s.heap) (hq:Q (.ref s.heap.objs.size) { s with heap:=s.heap.push q.obj }):ar (ay P w) A (pyIter q.val) Q E s:=by
 cases q with
 | tup t items=>exact kC h hq
 | str x t=>exact wpAny_pyIter_ascii h hq
 | lst l items=>exact fe h hq
abbrev zH (h:aP) (a b:ZK):aP:=(((((h.push a.obj).push b.obj).push { cls:=.type "tuple",data:=.seq #[.ref h.objs.size,.ref (h.push a.obj).objs.size] }).push { cls:=.type "tuple",data:=.seq #[.none,.none] }).push
 { cls:=.type "zip",data:=.fields #[.none,.bool false,.bool false,.ref ((h.push a.obj).push b.obj).objs.size,.ref (((h.push a.obj).push b.obj).push { cls:=.type "tuple",data:=.seq #[.ref h.objs.size,.ref (h.push a.obj).objs.size] }).objs.size] })
abbrev zA (h:aP) (a b:ZK):af:=((((h.push a.obj).push b.obj).push { cls:=.type "tuple",data:=.seq #[.ref h.objs.size,.ref (h.push a.obj).objs.size] }).push { cls:=.type "tuple",data:=.seq #[.none,.none] }).objs.size
theorem zhX (a b:ZK) (va vb:ae) (ea:a.val=va) (eb:b.val=vb):Meets (cA.«zip.__new__» ⟨[.type "zip",va,vb],[]⟩) (fun _ R s=>a.pre s.heap/\b.pre s.heap/\R (.ok (.ret (.ref (zA s.heap a b)))) { s with heap:=zH s.heap a b }):=
 .of_wp fun P w A R s h=>by
  obtain ⟨hp,g,d,tk,os⟩:=s;obtain ⟨h1,h2,h⟩:=h
  have hsub:=sub_zip
  have i1:∀ {E:ae->ai->Prop} {Q:ae->ai->Prop},Q (.ref hp.objs.size) ⟨hp.push a.obj,g,d,tk,os⟩->ar (ay P w) A.in1 (pyIter va) Q E ⟨hp,g,d,tk,os⟩:=fun {E Q} hq=>by rw [<- ea];exact a.iter (s:=⟨hp,g,d,tk,os⟩) h1 hq
  have h2':b.pre (hp.push a.obj):=b.keep (fun c o e=>ah _ e) h2
  have i2:∀ {E:ae->ai->Prop} {Q:ae->ai->Prop},Q (.ref (hp.push a.obj).objs.size) ⟨(hp.push a.obj).push b.obj,g,d,tk,os⟩->ar (ay P w) A.in1 (pyIter vb) Q E ⟨hp.push a.obj,g,d,tk,os⟩:=fun {E Q} hq=>by rw [<- eb];exact b.iter (s:=⟨hp.push a.obj,g,d,tk,os⟩) h2' hq
  wp_walk using i1,i2
  exact ⟨_,rfl,h⟩
section
variable {P:aJ} {w:aR} {A:ba} {E:ae->ai->Prop} {s:ai}
theorem zd4 (a b:ZK) (ha:a.pre s.heap) (hb:b.pre s.heap)
  (h:∀ h',fg h' (s.heap.objs.size + 4) (s.heap.objs.size + 2) (s.heap.objs.size + 3) .none->dj h' (s.heap.objs.size + 2) (.ref s.heap.objs.size) (.ref (s.heap.objs.size + 1))->dj h' (s.heap.objs.size + 3) .none .none->
   h'.get? s.heap.objs.size=some a.obj->h'.get? (s.heap.objs.size + 1)=some b.obj->(∀ c o,s.heap.get? c=some o->h'.get? c=some o)->Q (.ref (s.heap.objs.size + 4)) { s with heap:=h' }):
  ar (ay P w) A (call (.type "zip") [a.val,b.val]) Q E s:=by
 refine callType_new F.called_zip (by decide) (F.typeCall_zip_2 _ _) (F.newCall_zip_2 _ _) (fun obj=>F.args_object_init_3 obj _ _) F.entry_zip_new (zhX a b _ _ rfl rfl) ⟨ha,hb,?_⟩
 have fa:a.obj.isFreed=false:=by cases a <;> rfl
 have fb:b.obj.isFreed=false:=by cases b <;> rfl
 have e1:(s.heap.push a.obj).objs.size=s.heap.objs.size + 1:=bQ ..
 have e2:((s.heap.push a.obj).push b.obj).objs.size=s.heap.objs.size + 2:=by rw [bQ,e1]
 have e3:(((s.heap.push a.obj).push b.obj).push { cls:=.type "tuple",data:=.seq #[.ref s.heap.objs.size,.ref (s.heap.push a.obj).objs.size] }).objs.size=s.heap.objs.size + 3:=by rw [bQ,e2]
 have e4:zA s.heap a b=s.heap.objs.size + 4:=by show Array.size _=_;rw [bQ,e3]
 have g5:(zH s.heap a b).get? (zA s.heap a b)=some _:=aC _ rfl
 have g4:(zH s.heap a b).get? (((s.heap.push a.obj).push b.obj).push { cls:=.type "tuple",data:=.seq #[.ref s.heap.objs.size,.ref (s.heap.push a.obj).objs.size] }).objs.size=some _:=ah _ (aC _ rfl)
 have g3:(zH s.heap a b).get? ((s.heap.push a.obj).push b.obj).objs.size=some _:=ah _ (ah _ (aC _ rfl))
 have g2:(zH s.heap a b).get? (s.heap.push a.obj).objs.size=some _:=ah _ (ah _ (ah _ (aC _ fb)))
 have g1:(zH s.heap a b).get? s.heap.objs.size=some _:=ah _ (ah _ (ah _ (ah _ (aC _ fa))))
 show _/\_
 rw [e2,e3,e4] at g5
 rw [e3] at g4
 rw [e1,e2] at g3
 rw [e1] at g2
 rw [e4]
 exact ⟨⟨_,g5,rfl⟩,h _ g5 g3 g4 g1 g2 fun c o x=>ah _ (ah _ (ah _ (ah _ (ah _ x))))⟩
end
def mE (X:Cx) (H:Hp) (h:aP) (b:af):Prop:=H b ≠ none \/ ∃ o,X.base.get? b=some o
theorem mE.far {X:Cx} {pins:List (af × Obj)} {σ:St} {H:Hp} {s:ai} {b q:af} (I:L2.Inv X pins σ H s) (x:mE X H s.heap b) (f:z8u X pins H q):b ≠ q:=by
 rintro rfl
 rcases x with x|⟨o,e⟩
 ·exact x f.1
 ·rcases f.2.2.2.1 with z|z
  ·exact I.ok.noex b o e z
  ·exact absurd (aN (aF e) I.ok.bsz) (iR.mpr z)
structure zhr (P:aJ) (w:aR) (K:aj) (J:It) (ia:af) (S:Nat->aP->Prop):Prop where
 obj:∀ i h,S i h->∃ o,h.get? ia=some o/\∀ v,o.data ≠ .cell v
 keep:∀ i h h',S i h->(∀ o,h.get? ia=some o->h'.get? ia=some o)->S i h'
 got:∀ (X:Cx),X.prog=P->X.w=w->X.K=K->∀ (i:Nat) (pins:List (af × Obj)) (s:ai) (σ:St) (H:Hp),L2.Inv X pins σ H s->z8u X pins H ia->S i s.heap->(J.go i H \/ J.stop i H)->
  ∃ fp n Pv Sx,mr P w ia fp n Pv Sx/\Sx i s.heap/\(∀ j h,Sx j h->S j h)/\(J.go i H->i < n)/\(J.stop i H->n <= i)/\(∀ v,Pv i v->∃ x,RelV x v/\J.yld i H x H)/\∀ b ∈ fp,mE X H s.heap b
section
variable {P:aJ} {w:aR} {K:aj}
theorem zfV {X:Cx} {pins:List (af × Obj)} {σ:St} {H:Hp} {s:ai} {a:af} {xs:List V} (I:L2.Inv X pins σ H s) (h:SqT X.K H a xs):mE X H s.heap a:=by
 rcases h with h|⟨o,its,n,hk,_⟩
 ·exact .inl (by rcases h with h|⟨_,h⟩ <;> (rw [h];simp))
 ·exact .inr ⟨o,I.ok.mod.kin a o hk⟩
theorem zgm {X:Cx} {pins:List (af × Obj)} {σ:St} {H:Hp} {s:ai} {a:af} {xs:List V} (I:L2.Inv X pins σ H s) (h:SqL X.K H a xs):mE X H s.heap a:=by
 rcases h with h|⟨o,its,n,hk,_⟩
 ·exact .inl (by rcases h with h|⟨_,h⟩ <;> (rw [h];simp))
 ·exact .inr ⟨o,I.ok.mod.kin a o hk⟩
theorem z6g {xs:List V} {its:List ae} {i:Nat} {v:ae} (r:ma xs its) (e:its[i]?=some v):∃ x,xs[i]?=some x/\RelV x v:=by
 have hl:=r.length
 have hi:i < xs.length:=by have:=(ao.mp e).1;omega
 obtain ⟨u,g1,g2⟩:=r.get (aw hi)
 rw [e] at g1;cases g1
 exact ⟨_,aw hi,g2⟩
theorem zjR (a ia:af):zhr P w K (Itt K a) ia (fun i h=>h.IsTupleIter ia a i) where
 obj:=fun i h ⟨o,e,c,d⟩=>⟨o,e,fun v z=>by rw [d] at z;cases z⟩
 keep:=fun i h h' ⟨o,e,c,d⟩ k=>⟨o,k o e,c,d⟩
 got:=by
  intro X hP hw hK i pins s σ H I hf st hg
  subst hP hw hK
  have hs:∃ xs,SqT X.K H a xs:=by
   rcases hg with ⟨xs,x,h,_⟩|⟨xs,h,_⟩ <;> exact ⟨xs,h⟩
  obtain ⟨xs,hq⟩:=hs
  obtain ⟨its,rv,p,hz⟩:=I.tuple hq
  have hl:=rv.length
  refine ⟨[a],_,_,_,zen ia a its.toArray ((zfV I hq).far I hf),⟨st,p⟩,fun j h z=>z.1,fun ⟨ys,y,h1,h2⟩=>?_,fun ⟨ys,h1,h2⟩=>?_,fun v hv=>?_,fun b hb=>?_⟩
  ·have e:=I.tuple_inj h1 hq;subst e
   have:=(ao.mp h2).1
   simp;omega
  ·have e:=I.tuple_inj h1 hq;subst e
   simp;omega
  ·have hv':its[i]?=some v:=by simpa using hv
   obtain ⟨x,e1,r1⟩:=z6g rv hv'
   exact ⟨x,r1,rfl,fun ys hy=>by rw [I.tuple_inj hy hq];exact e1⟩
  ·have:b=a:=by simpa using hb
   subst this;exact zfV I hq
theorem zg1 (a ia:af):zhr P w K (Itl K a) ia (fun i h=>h.IsListIter ia a i) where
 obj:=fun i h ⟨o,e,c,d⟩=>⟨o,e,fun v z=>by rw [d] at z;cases z⟩
 keep:=fun i h h' ⟨o,e,c,d⟩ k=>⟨o,k o e,c,d⟩
 got:=by
  intro X hP hw hK i pins s σ H I hf st hg
  subst hP hw hK
  have hs:∃ xs,SqL X.K H a xs:=by
   rcases hg with ⟨xs,x,h,_⟩|⟨xs,h,_⟩ <;> exact ⟨xs,h⟩
  obtain ⟨xs,hq⟩:=hs
  obtain ⟨its,rv,p,hz⟩:=I.list hq
  have hl:=rv.length
  refine ⟨[a],_,_,_,zcf ia a its.toArray ((zgm I hq).far I hf),⟨st,p.isList⟩,fun j h z=>z.1,fun ⟨ys,y,h1,h2⟩=>?_,fun ⟨ys,h1,h2⟩=>?_,fun v hv=>?_,fun b hb=>?_⟩
  ·have e:=I.list_inj h1 hq;subst e
   have:=(ao.mp h2).1
   simp;omega
  ·have e:=I.list_inj h1 hq;subst e
   simp;omega
  ·have hv':its[i]?=some v:=by simpa using hv
   obtain ⟨x,e1,r1⟩:=z6g rv hv'
   exact ⟨x,r1,rfl,fun ys hy=>by rw [I.list_inj hy hq];exact e1⟩
  ·have:b=a:=by simpa using hb
   subst this;exact zgm I hq
theorem in_str (x:Str) (t:Tok) (ia:af):zhr P w K (Its x) ia (fun i h=>h.IsStrIter ia "str_ascii_iterator" x t i) where
 obj:=fun i h ⟨o,e,c,d⟩=>⟨o,e,fun v z=>by rw [d] at z;cases z⟩
 keep:=fun i h h' ⟨o,e,c,d⟩ k=>⟨o,k o e,c,d⟩
 got:=by
  intro X hP hw hK i pins s σ H I hf st hg
  subst hP hw hK
  refine ⟨[],_,_,_,zdW ia x t,st,fun j h z=>z,fun z=>z,fun z=>z,fun v ⟨c,tk,e,hv⟩=>?_,fun b hb=>by cases hb⟩
  subst hv
  exact ⟨.str ⟨#[c]⟩,⟨_,rfl⟩,rfl,c,e,rfl⟩
end
def Itw (J1 J2:It):It:=
 ⟨fun i H=>J1.go i H/\J2.go i H,fun i H v H'=>∃ p x y,H p=none/\v=.ref p/\J1.yld i H x H/\J2.yld i H y H/\H'=upd H p (.tup [x,y]),fun i H=>J1.stop i H/\(J2.go i H \/ J2.stop i H) \/ J1.go i H/\J2.stop i H⟩
def zmT (z t o i j:af) (S1 S2:Nat->aP->Prop) (n:Nat) (h:aP):Prop:=fg h z t o .none/\dj h t (.ref i) (.ref j)/\(∃ a b,dj h o a b)/\S1 n h/\S2 n h
theorem zd8 (z t o i j:af) (ap:[z,t,o,i,j].Nodup) (N1:zhr P w K J1 i S1) (N2:zhr P w K J2 j S2):zdJ P w K (.Tuple es kt pt) (Itw J1 J2) [z,t,o,i,j] z (zmT z t o i j S1 S2):=by
 simp only [bO,av,aM,or_false,not_or,hV,and_true] at ap
 obtain ⟨⟨a1,a2,a3,a4⟩,⟨b1,b2,b3⟩,⟨c1,c2⟩,d1,_⟩:=ap
 have zap:∀ {X:Cx} {pins:List (af × Obj)} {s:ai} {σ:St} {H:Hp} {fp1 fp2:List af},L2.Inv X pins σ H s->(∀ b ∈ [z,t,o,i,j],z8u X pins H b)->(∀ b ∈ fp1,mE X H s.heap b)->(∀ b ∈ fp2,mE X H s.heap b)->ZAp z t o i j fp1 fp2:=fun {X pins s σ H fp1 fp2} I hf h1 h2=>
  ⟨bo a1,bo a2,b1,fun b hb=>(av.mp hb).elim (fun e=>by rw [e];exact ⟨bo a3,bo c1⟩) fun hb=>⟨(h1 b hb).far I (hf z (by simp)),(h1 b hb).far I (hf o (by simp))⟩,
   fun b hb=>(av.mp hb).elim (fun e=>by rw [e];exact ⟨bo a4,bo c2⟩) fun hb=>⟨(h2 b hb).far I (hf z (by simp)),(h2 b hb).far I (hf o (by simp))⟩,
   fun hb=>(av.mp hb).elim d1 fun hb=>(h2 i hb).far I (hf i (by simp)) rfl,fun hb=>(av.mp hb).elim (bo d1) fun hb=>(h1 j hb).far I (hf j (by simp)) rfl,b2,b3⟩
 refine ⟨by simp,fun n h st b hb=>?_,fun n h h' st k=>?_,?_,?_,fun A n s Q E st q=>wpAny_pyIter_zip st.1 q⟩
 ·obtain ⟨hz,ht,⟨a,b',ho⟩,hi,hj⟩:=st
  simp only [av,aM,or_false] at hb
  rcases hb with rfl|rfl|rfl|rfl|rfl
  ·exact ⟨_,hz,fun v e=>by cases e⟩
  ·exact ⟨_,ht,fun v e=>by cases e⟩
  ·exact ⟨_,ho,fun v e=>by cases e⟩
  ·exact N1.obj n h hi
  ·exact N2.obj n h hj
 ·obtain ⟨hz,ht,⟨a,b',ho⟩,hi,hj⟩:=st
  exact ⟨k z (by simp) _ hz,k t (by simp) _ ht,⟨a,b',k o (by simp) _ ho⟩,N1.keep n h h' hi (k i (by simp)),N2.keep n h h' hj (k j (by simp))⟩
 ·intro X hP hw hK hc n pins s σ H E I hf st hg
  obtain ⟨g1,g2⟩:=hg
  obtain ⟨hz,ht,⟨a,b,ho⟩,hi,hj⟩:=st
  obtain ⟨fp1,n1,P1,T1,Z1,s1,u1,go1,st1,y1,f1⟩:=N1.got X hP hw hK n pins s σ H I (hf i (by simp)) hi (.inl g1)
  obtain ⟨fp2,n2,P2,T2,Z2,s2,u2,go2,st2,y2,f2⟩:=N2.got X hP hw hK n pins s σ H I (hf j (by simp)) hj (.inl g2)
  have D:=zap I hf f1 f2
  subst hP hw hK
  refine wT I (zhj Z1 Z2 D hz ht ho s1 s2 (go1 g1) (go2 g2) fun x y h' tk px py q1 q2 q3 q4 q5 hk htk=>⟨_,rfl,?_⟩)
  obtain ⟨vx,rx,yx⟩:=y1 x px
  obtain ⟨vy,ry,yy⟩:=y2 y py
  refine wpAny_letOwnedTupleGo_zip q1 fun h'' e1 e2=>?_
  have nb:∀ q ∈ [z,t,o,i,j],s.heap.objs.size ≠ q:=fun q hq e=>by
   have:∃ ob,s.heap.get? q=some ob:=by
    simp only [av,aM,or_false] at hq
    rcases hq with rfl|rfl|rfl|rfl|rfl
    ·exact ⟨_,hz⟩
    ·exact ⟨_,ht⟩
    ·exact ⟨_,ho⟩
    ·obtain ⟨ob,g,_⟩:=N1.obj n _ hi;exact ⟨_,g⟩
    ·obtain ⟨ob,g,_⟩:=N2.obj n _ hj;exact ⟨_,g⟩
   obtain ⟨ob,g⟩:=this
   exact absurd (aF g) (by rw [e];exact bE _)
  have keep:∀ c ob,c ∉ [z,t,o,i,j]->s.heap.get? c=some ob->h''.get? c=some ob:=fun c ob hc e=>by
   simp only [av,aM,or_false,not_or] at hc
   exact e2.extBut _ _ hc.1 (hk c ob hc.1 hc.2.2.1 hc.2.2.2.1 hc.2.2.2.2 e)
  have I1:L2.Inv X pins σ H { s with heap:=h'',toks:=tk }:=Inv.turns [z,t,o,i,j] I keep hf
  have hnew:h''.get? s.heap.objs.size=some { cls:=.type "tuple",data:=.seq #[x,y] }:=e2.extBut _ _ (nb z (by simp)) q5
  have fr:H s.heap.objs.size=none:=I.hok.fresh (aB _)
  have I2:L2.Inv X pins σ (upd H s.heap.objs.size (.tup [vx,vy])) { s with heap:=h'',toks:=tk }:=by
   have un:Un (frs X.stack) [z,t,o,i,j] H (upd H s.heap.objs.size (.tup [vx,vy])) s.heap h'':=by
    refine ⟨fun c ob e _ _ hc=>keep c ob hc e,fun c ob e _ _ hc=>⟨ob.slots,keep c ob hc e⟩,fun c ob e hn _=>?_,fun c ob e hc=>⟨ob,keep c ob hc e⟩,fun c zs e=>?_,fun c ob u e=>?_,fun c ps e=>⟨#[],?_⟩⟩
    ·rw [z0Y (aX (aF e))];exact hn
    ·rw [z0Y (z0Z e fr)];exact e
    ·rw [z0Y (z0Z e fr)];exact e
    ·rw [z0Y (z0Z e fr),e];simp
   have hok:HOk X.prog X.w (upd H s.heap.objs.size (.tup [vx,vy])) h'':=by
    intro c u' e
    by_cases hc:c=s.heap.objs.size
    ·subst hc
     rw [z18] at e;cases e
     exact ⟨by show 2 <= sizeLine;decide,[x,y],.cons rx (.cons ry .nil),⟨_,hnew,rfl,⟨_,rfl⟩,rfl⟩⟩
    ·rw [z0Y hc] at e
     refine (I1.hok c u' e).stay (fun _ _ _ q=>q) (fun p q=>?_) fun p zs q=>?_
     ·by_cases hp:p=s.heap.objs.size
      ·subst hp;rw [fr] at q;cases q
      ·rw [z0Y hp];exact q
     ·by_cases hp:p=s.heap.objs.size
      ·subst hp;rw [fr] at q;cases q
      ·rw [z0Y hp];exact q
   exact I.call (t':=tk) (d':=s.drawn) un hok I.bare fun b hb=>let ⟨_,f1,_,f3,f4,f5⟩:=hf b hb;⟨f3,f1,f4,f5⟩
  refine ⟨.ref s.heap.objs.size,_,I2,rfl,⟨_,vx,vy,fr,rfl,yx,yy,rfl⟩,⟨e1,?_,⟨_,_,e2.extBut _ _ D.a2 q2⟩,?_,?_⟩,fun b hb=>?_⟩
  ·exact e2.extBut _ _ D.a1 (hk _ _ D.a1 D.a3 D.d1 D.d2 ht)
  ·exact u1 _ _ (Z1.but q3 e2.extBut fun b hb=>(D.b1 b hb).1)
  ·exact u2 _ _ (Z2.but q4 e2.extBut fun b hb=>(D.b2 b hb).1)
  ·rw [z0Y (bo (nb b hb))];exact (hf b hb).1
 ·intro X hP hw hK hc n pins s σ H E I hf st hg
  obtain ⟨hz,ht,⟨a,b,ho⟩,hi,hj⟩:=st
  have k1:J1.go n H \/ J1.stop n H:=hg.elim (fun z=>.inr z.1) fun z=>.inl z.1
  have k2:J2.go n H \/ J2.stop n H:=hg.elim (fun z=>z.2) fun z=>.inr z.2
  obtain ⟨fp1,n1,P1,T1,Z1,s1,u1,go1,st1,y1,f1⟩:=N1.got X hP hw hK n pins s σ H I (hf i (by simp)) hi k1
  obtain ⟨fp2,n2,P2,T2,Z2,s2,u2,go2,st2,y2,f2⟩:=N2.got X hP hw hK n pins s σ H I (hf j (by simp)) hj k2
  have D:=zap I hf f1 f2
  subst hP hw hK
  refine wT I (zjQ (I.ok.hd hc) Z1 Z2 D hz ht ho s1 s2 (hg.elim (fun q=>.inl (st1 q.1)) fun q=>.inr ⟨go1 q.1,st2 q.2⟩) fun h' tk hk htk=>⟨rfl,?_⟩)
  refine Inv.turns (t':=tk) [z,t,o,i,j] I (fun c ob hc e=>?_) hf
  simp only [av,aM,or_false,not_or] at hc
  exact hk c ob hc.1 hc.2.2.1 hc.2.2.2.1 hc.2.2.2.2 e
def zkD:D->Option Src
 | .lst ds=>some (.val ds)
 | .own k=>some (.own k)
 | .tup ds=>some (.val ds)
 | .str cs=>if cs.all (· < 128)=true then some (.val (cs.map fun c=>.str [c])) else none
 | _=>none
def zcl (t:DA):DI:=fun σ O=>(t σ O).bnd fun xs O1=>match xs with
 | [x,y]=>match zkD x,zkD y with
  | some p,some q=>.ok (.zip p q) O1
  | _,_=>.bad
 | _=>.bad
theorem mf.zipW (h1:mf K J1 s1 H hid μ) (h2:mf K J2 s2 H hid μ):mf K (Itw J1 J2) (.zip s1 s2) H hid μ:=by
 intro hid' H' μ' O' m c i
 have q1:=h1 hid' H' μ' O' m c i
 have q2:=h2 hid' H' μ' O' m c i
 show match (match s1.get O' i,s2.get O' i with|some x,some y=>some (D.tup [x,y])|_,_=>none) with|some d=>_|none=>_
 cases e1:s1.get O' i with
 | none=>
  rw [e1] at q1
  refine .inl ⟨q1,?_⟩
  cases e2:s2.get O' i with
  | none=>rw [e2] at q2;exact .inr q2
  | some d=>rw [e2] at q2;exact .inl q2.1
 | some d1=>
  rw [e1] at q1
  cases e2:s2.get O' i with
  | none=>rw [e2] at q2;exact .inr ⟨q1.1,q2⟩
  | some d2=>
   rw [e2] at q2
   refine ⟨⟨q1.1,q2.1⟩,fun v H'' yl=>?_⟩
   obtain ⟨p,x,y,hp,rfl,y1,y2,rfl⟩:=yl
   exact ⟨.laid hp,c.laid hp,Dat.newT c hp (.cons (q1.2 x H' y1).2.2 (.cons (q2.2 y H' y2).2.2 .nil))⟩
section
variable {X:Cx} {Ex:Nat->Hp->Prop} {pos:Pos} {a b c e:aK} {pins:List (af × Obj)} {σv:St} {H:Hp} {s:ai} {hid μ:List af} {O:Ow}
theorem zhI (I:L2.Inv X pins σv H s) (c:l7 X.K H hid μ O) (h:Dat X.K H hid μ d v) (r:RelV v u) (e:zkD d=some src):
  ∃ (k:ZK) (J:It),k.val=u/\k.pre s.heap/\mf X.K J src H hid μ/\∀ ia,∃ S,zhr X.prog X.w X.K J ia S/\∀ h:aP,h.get? ia=some k.obj->S 0 h:=by
 cases d with
 | lst ds=>
  unfold Dat at h
  obtain ⟨q,vs,rfl,l,dd⟩:=h
  cases e;cases r
  obtain ⟨its,_,p,_⟩:=I.list l.sq
  exact ⟨.lst q its.toArray,_,rfl,p.isList,.val l dd,fun ia=>⟨_,zg1 q ia,fun h z=>⟨_,z,rfl,rfl⟩⟩⟩
 | own k=>
  unfold Dat at h
  obtain ⟨q,rfl,hk⟩:=h
  cases e;cases r
  obtain ⟨ds,vs,h1,h2,h3⟩:=c.at_ k q hk
  obtain ⟨its,_,p,_⟩:=I.list (a:=q) (xs:=vs) (.of h2)
  exact ⟨.lst q its.toArray,_,rfl,p.isList,.own hk,fun ia=>⟨_,zg1 q ia,fun h z=>⟨_,z,rfl,rfl⟩⟩⟩
 | tup ds=>
  unfold Dat at h
  obtain ⟨q,vs,rfl,l,dd⟩:=h
  cases e;cases r
  obtain ⟨its,_,p,_⟩:=I.tuple l.sq
  exact ⟨.tup q its.toArray,_,rfl,p,.tup l dd,fun ia=>⟨_,zjR q ia,fun h z=>⟨_,z,rfl,rfl⟩⟩⟩
 | str cs=>
  unfold Dat at h
  subst h
  obtain ⟨t,rfl⟩:=r
  have e':(if cs.all (· < 128)=true then some (Src.val (cs.map fun c=>D.str [c])) else none)=some src:=e
  by_cases ha:cs.all (· < 128)=true
  ·rw [if_pos ha] at e'
   cases e'
   refine ⟨.str ⟨cs.toArray⟩ t,_,rfl,?_,.str,fun ia=>⟨_,in_str _ t ia,fun h z=>⟨_,z,rfl,rfl⟩⟩⟩
   show cs.toArray.all (· < 128)=true
   simpa using ha
  ·rw [if_neg ha] at e';cases e'
 | _=>cases e
theorem zf5 (hg:Gl X "zip") (hm:X.mg "zip" = none) (ha:PDA X Ex [a,b] t) (hs:aD [a,b] X.env=[(false,eval a X.env),(false,eval b X.env)]:=by rfl) (hs2:aD [b] X.env=[(false,eval b X.env)]:=by rfl):
  PDI X Ex (.Tuple es' kt pt) (.Call (.Name "zip" p) [a,b] [] pos) (zcl t):=by
 refine ⟨?_⟩
 rintro pins s σv H Rr I ⟨hid,μ,σ,O,e1,c1,q⟩
 refine jL (z7A I hg hm zfM (dS (thn (ha.out pos pins s σv H _ I (rdA.go e1 c1 q (Q1:=fun vs H1=>∃ hid μ1 O1 ds,l7 X.K H1 hid μ1 O1/\l8 X.K H1 hid μ1 ds vs/\
   post Ex X.K (fun H' μ' s J=>mf X.K J s H' hid μ') H1 hid μ1 (match ds with|[x,y]=>(match zkD x,zkD y with|some p,some q=>.ok (.zip p q) O1|_,_=>.bad)|_=>.bad) Rr)
  fun ds O1 vs H1 μ1 e2 x cl d p=>⟨hid,μ1,O1,ds,cl,d,p⟩)) fun us s1 ⟨vs,H1,I1,r1,hid,μ1,O1,ds,cl,d,p⟩=>?_) (by rw [hs,hs2]) (by rw [hs2];rfl)))
 split at p
 ·rename_i x y
  split at p
  ·rename_i sp sq e1 e2
   obtain ⟨v,w,rfl,dx,dy⟩:=zcV d
   obtain ⟨u1,u2,rfl,ru1,ru2⟩:=za5 r1
   obtain ⟨k1,J1,v1,p1,t1,i1⟩:=zhI I1 cl dx ru1 e1
   obtain ⟨k2,J2,v2,p2,t2,i2⟩:=zhI I1 cl dy ru2 e2
   rw [<- v1,<- v2]
   refine zd4 k1 k2 p1 p2 fun h' g5 g3 g4 g1 g2 hk=>?_
   refine wpAny_pyIter_zip g5 ?_
   have I2:L2.Inv X pins σv H1 { s1 with heap:=h',toks:=s1.toks }:=I1.kept hk
   obtain ⟨S1,N1,z1⟩:=i1 s1.heap.objs.size
   obtain ⟨S2,N2,z2⟩:=i2 (s1.heap.objs.size + 1)
   refine ⟨s1.heap.objs.size + 4,[s1.heap.objs.size + 4,s1.heap.objs.size + 2,s1.heap.objs.size + 3,s1.heap.objs.size,s1.heap.objs.size + 1],_,_,H1,rfl,I2,zd8 _ _ _ _ _ ?_ N1 N2,⟨g5,g3,⟨_,_,g4⟩,z1 _ g1,z2 _ g2⟩,fun b hb=>?_,post.here p cl (.zipW t1 t2)⟩
   ·have nn:∀ (n:af),[n + 4,n + 2,n + 3,n,n + 1].Nodup:=fun n=>by
     simp only [bO,av,aM,or_false,not_or,hV,and_true]
     refine ⟨⟨?_,?_,?_,?_⟩,⟨?_,?_,?_⟩,⟨?_,?_⟩,?_,not_false⟩ <;> simp [af] at * <;> omega
    exact nn _
   ·have hb':s1.heap.objs.size <= b:=by
     simp only [av,aM,or_false] at hb
     rcases hb with rfl|rfl|rfl|rfl|rfl <;> omega
    exact I1.fpOk (H':=H1) hb' (I1.hok.fresh hb')
  ·exact ak p
 ·exact ak p
end
end DL
namespace DL
open PySem L2
open AutoSeq1 (wpAny_loadPart')
section
variable {P:aJ} {w:aR} {A:ba} {E:ae->ai->Prop} {s:ai}
variable {ea ia:af} {fp:List af} {n k:Nat} {Pv:Nat->ae->Prop} {Sx:Nat->aP->Prop} {old:ae}
theorem zfg (J:mr P w ia fp n Pv Sx) (he:fQ s.heap ea ia (k:Nat) old) (hx:Sx k s.heap) (hk:k < n) (ne:∀ b ∈ ia :: fp,b ≠ ea)
  (hq:∀ x h' tk ti,Pv k x->IsEnumOut h' ea ia ((k:Int) + 1) x s.heap.objs.size->Sx (k + 1) h'->h'.get? s.heap.objs.size=some { cls:=.type "tuple",data:=.seq #[.int (k:Nat) ti,x] }->(∀ b o,b ≠ ea->b ≠ ia->s.heap.get? b=some o->h'.get? b=some o)->Q (some (.ref s.heap.objs.size)) { s with heap:=h',toks:=tk }):
  ar (ay P w) A (pyNext (.ref ea)) Q E s:=by
 have ht:s.TypeIs (.ref ea) "enumerate":=⟨_,he,rfl⟩
 have nia:ea ≠ ia:=bo (ne ia aH)
 unfold pyNext
 refine aa (eR (bB (name := "__next__") ht d8 (bF d8 ht jt ?_ (jd _))))
 obtain ⟨hp,g,d,tk,os⟩:=s
 show ar _ _ (field (.ref ea) 2 >>= _) _ _ _
 refine aa (bd he rfl (x:=.ref ia) rfl (aa (J.item _ k _ _ _ hk hx fun x h1 tk1 px sx1 s1=>?_)))
 have s1:cr ia hp h1:=s1
 have e1:fQ h1 ea ia (k:Nat) old:=(s1.2 ea nia).trans he
 show ar _ _ (field (.ref ea) 3 >>= _) _ _ ⟨h1,g,d,tk1,os⟩
 refine aa (bd e1 rfl (x:=bj (k:Nat)) rfl ?_)
 show ar _ _ (field (.ref ea) 4 >>= _) _ _ ⟨h1,g,d,tk1,os⟩
 refine aa (bd e1 rfl (x:=(.none)) rfl ?_)
 show ar _ _ (mkInt (k:Nat) >>= _) _ _ ⟨h1,g,d,tk1,os⟩
 refine aa (wpAny_mkInt ?_)
 show ar _ _ (setField (.ref ea) 3 (bj ((k:Int) + 1)) >>= _) _ _ ⟨h1,g,d,tk1 + 1,os⟩
 refine aa (br e1 (by simp) fun h2 e2 s2=>?_)
 have s2:cr ea h1 h2:=s2
 have e2:fQ h2 ea ia ((k:Int) + 1) old:=e2
 show ar _ _ (setField (.ref ea) 4 .none >>= _) _ _ ⟨h2,g,d,tk1 + 1,os⟩
 refine aa (br e2 (by simp) fun h3 e3 s3=>?_)
 have s3:cr ea h2 h3:=s3
 have e3:fQ h3 ea ia ((k:Int) + 1) old:=e3
 show ar _ _ (newTuple [.int (k:Nat) tk1,x] >>= _) _ _ ⟨h3,g,d,tk1 + 1,os⟩
 refine aa (jE ?_)
 have e4:fQ (h3.push { cls:=.type "tuple",data:=.seq #[.int (k:Nat) tk1,x] }) ea ia ((k:Int) + 1) old:=ah _ e3
 have hsz:h3.objs.size=hp.objs.size:=by rw [s3.1,s2.1,s1.1]
 have hel:ea < hp.objs.size:=aF he
 have t4:(h3.push { cls:=.type "tuple",data:=.seq #[.int (k:Nat) tk1,x] }).get? hp.objs.size=some { cls:=.type "tuple",data:=.seq #[.int (k:Nat) tk1,x] }:=by rw [<- hsz];exact aC _ rfl
 have k4:∀ b o,b ≠ ea->b ≠ ia->hp.get? b=some o->(h3.push { cls:=.type "tuple",data:=.seq #[.int (k:Nat) tk1,x] }).get? b=some o:=fun b o q1 q2 z=>ah _ (s3.extBut b o q1 (s2.extBut b o q1 (s1.extBut b o q2 z)))
 have x4:Sx (k + 1) (h3.push { cls:=.type "tuple",data:=.seq #[.int (k:Nat) tk1,x] }):=J.stab _ _ _ (J.but (J.but sx1 s2.extBut ne) s3.extBut ne) fun b _ o z=>ah _ z
 generalize h3.push { cls:=.type "tuple",data:=.seq #[.int (k:Nat) tk1,x] } = h4 at e4 t4 k4 x4
 show ar _ _ (bU (.ref ea) >>= _) _ _ ⟨h4,g,d,tk1 + 1,os⟩
 rw [hsz]
 refine aa ?_;unfold bU
 refine aa (bd e4 rfl (x:=(.none)) rfl (am ?_))
 simp only [if_true];refine aa (eD (aa (bd e4 rfl (x:=old) rfl (aa (br e4 (by simp) fun h5 e5 s5=>?_)))))
 have s5:cr ea h4 h5:=s5
 have e5:fQ h5 ea ia ((k:Int) + 1) x:=e5
 show ar _ _ (cZ (.ref ea) (.ref hp.objs.size) >>= _) _ _ ⟨h5,g,d,tk1 + 1,os⟩
 refine aa ?_;unfold cZ
 refine aa (br e5 (by simp) fun h6 e6 s6=>?_)
 have s6:cr ea h5 h6:=s6
 have e6:IsEnumOut h6 ea ia ((k:Int) + 1) x hp.objs.size:=e6
 refine br e6 (by simp) fun h7 e7 s7=>?_
 have s7:cr ea h6 h7:=s7
 have e7:IsEnumOut h7 ea ia ((k:Int) + 1) x hp.objs.size:=e7
 refine aa (ij (am ⟨_,rfl,am (hq x h7 _ tk1 px e7 (J.but (J.but (J.but x4 s5.extBut ne) s6.extBut ne) s7.extBut ne) ?_ fun b o q1 q2 z=>s7.extBut b o q1 (s6.extBut b o q1 (s5.extBut b o q1 (k4 b o q1 q2 z))))⟩))
 exact s7.extBut _ _ (cM hel) (s6.extBut _ _ (cM hel) (s5.extBut _ _ (cM hel) t4))
theorem zi5 (hh:A.handled=none) (J:mr P w ia fp n Pv Sx) (he:fQ s.heap ea ia (k:Nat) old) (hx:Sx k s.heap) (hk:n <= k) (hq:∀ h',ig ia s.heap h'->Q none { s with heap:=h' }):ar (ay P w) A (pyNext (.ref ea)) Q E s:=by
 have ht:s.TypeIs (.ref ea) "enumerate":=⟨_,he,rfl⟩
 unfold pyNext
 refine aa (eR (bB (name := "__next__") ht d8 (bF d8 ht jt ?_ (jd _))))
 show ar _ _ (field (.ref ea) 2 >>= _) _ _ _
 refine aa (bd he rfl (x:=.ref ia) rfl (aa (J.done _ k _ _ _ hh hk hx fun h' e eb hs=>?_)))
 obtain ⟨oe,ho,hc⟩:=hs
 exact aa (gu (T := "StopIteration") (b:=true) ⟨oe,ho,hc⟩ jF (am (hq _ eb)))
end
end DL
namespace DL
open PySem L2
def Ite (J:It):It:=⟨J.go,fun i H v H'=>∃ p x,H p=none/\v=.ref p/\J.yld i H x H/\H'=upd H p (.tup [.int (i:Nat),x]),J.stop⟩
def zmM (ea ia:af) (S:Nat->aP->Prop) (n:Nat) (h:aP):Prop:=(∃ old,fQ h ea ia (n:Nat) old)/\S n h
theorem zcD (ea ia:af) (ap:ea ≠ ia) (N:zhr P w K J ia S) (hself:∀ (A:ba) (n:Nat) (s:ai) (Q E:ae->ai->Prop),(∃ old,fQ s.heap ea ia (n:Nat) old)->Q (.ref ea) s->ar (ay P w) A (pyIter (.ref ea)) Q E s):zdJ P w K (.Tuple es kt pt) (Ite J) [ea,ia] ea (zmM ea ia S):=by
 refine ⟨by simp,fun n h st b hb=>?_,fun n h h' st k=>?_,?_,?_,fun A n s Q E st q=>hself A n s Q E st.1 q⟩
 ·obtain ⟨⟨old,he⟩,hi⟩:=st
  simp only [av,aM,or_false] at hb
  rcases hb with rfl|rfl
  ·exact ⟨_,he,fun v e=>by cases e⟩
  ·exact N.obj n h hi
 ·obtain ⟨⟨old,he⟩,hi⟩:=st
  exact ⟨⟨old,k ea (by simp) _ he⟩,N.keep n h h' hi (k ia (by simp))⟩
 ·intro X hP hw hK hc n pins s σ H E I hf st hg
  have hg:J.go n H:=hg
  obtain ⟨⟨old,he⟩,hi⟩:=st
  obtain ⟨fp,m,Pv,T,Z,s1,u1,go1,st1,y1,f1⟩:=N.got X hP hw hK n pins s σ H I (hf ia (by simp)) hi (.inl hg)
  subst hP hw hK
  have ne:∀ b ∈ ia :: fp,b ≠ ea:=fun b hb=>(av.mp hb).elim (fun e=>by rw [e];exact bo ap) fun hb=>(f1 b hb).far I (hf ea (by simp))
  refine wT I (zfg Z he s1 (go1 hg) ne fun x h' tk tki px q1 q2 q3 hk htk=>⟨_,rfl,?_⟩)
  obtain ⟨vx,rx,yx⟩:=y1 x px
  refine wpAny_letOwnedTupleGo_enum q1 fun h'' e1 e2=>?_
  have nb:∀ q ∈ [ea,ia],s.heap.objs.size ≠ q:=fun q hq e=>by
   have:∃ ob,s.heap.get? q=some ob:=by
    simp only [av,aM,or_false] at hq
    rcases hq with rfl|rfl
    ·exact ⟨_,he⟩
    ·obtain ⟨ob,g,_⟩:=N.obj n _ hi;exact ⟨_,g⟩
   obtain ⟨ob,g⟩:=this
   exact absurd (aF g) (by rw [e];exact bE _)
  have keep:∀ c ob,c ∉ [ea,ia]->s.heap.get? c=some ob->h''.get? c=some ob:=fun c ob hc e=>by
   simp only [av,aM,or_false,not_or] at hc
   exact e2.extBut _ _ hc.1 (hk c ob hc.1 hc.2 e)
  have I1:L2.Inv X pins σ H { s with heap:=h'',toks:=tk }:=Inv.turns [ea,ia] I keep hf
  have hnew:h''.get? s.heap.objs.size=some { cls:=.type "tuple",data:=.seq #[.int (n:Nat) tki,x] }:=e2.extBut _ _ (nb ea (by simp)) q3
  have fr:H s.heap.objs.size=none:=I.hok.fresh (aB _)
  have I2:L2.Inv X pins σ (upd H s.heap.objs.size (.tup [.int (n:Nat),vx])) { s with heap:=h'',toks:=tk }:=by
   have un:Un (frs X.stack) [ea,ia] H (upd H s.heap.objs.size (.tup [.int (n:Nat),vx])) s.heap h'':=by
    refine ⟨fun c ob e _ _ hc=>keep c ob hc e,fun c ob e _ _ hc=>⟨ob.slots,keep c ob hc e⟩,fun c ob e hn _=>?_,fun c ob e hc=>⟨ob,keep c ob hc e⟩,fun c zs e=>?_,fun c ob u e=>?_,fun c ps e=>⟨#[],?_⟩⟩
    ·rw [z0Y (aX (aF e))];exact hn
    ·rw [z0Y (z0Z e fr)];exact e
    ·rw [z0Y (z0Z e fr)];exact e
    ·rw [z0Y (z0Z e fr),e];simp
   have hok:HOk X.prog X.w (upd H s.heap.objs.size (.tup [.int (n:Nat),vx])) h'':=by
    intro c u' e
    by_cases hc:c=s.heap.objs.size
    ·subst hc
     rw [z18] at e;cases e
     exact ⟨by show 2 <= sizeLine;decide,[.int (n:Nat) tki,x],.cons ⟨_,rfl⟩ (.cons rx .nil),⟨_,hnew,rfl,⟨_,rfl⟩,rfl⟩⟩
    ·rw [z0Y hc] at e
     refine (I1.hok c u' e).stay (fun _ _ _ q=>q) (fun p q=>?_) fun p zs q=>?_
     ·by_cases hp:p=s.heap.objs.size
      ·subst hp;rw [fr] at q;cases q
      ·rw [z0Y hp];exact q
     ·by_cases hp:p=s.heap.objs.size
      ·subst hp;rw [fr] at q;cases q
      ·rw [z0Y hp];exact q
   exact I.call (t':=tk) (d':=s.drawn) un hok I.bare fun b hb=>let ⟨_,f1,_,f3,f4,f5⟩:=hf b hb;⟨f3,f1,f4,f5⟩
  refine ⟨.ref s.heap.objs.size,_,I2,rfl,⟨_,vx,fr,rfl,yx,rfl⟩,⟨⟨_,by exact_mod_cast e1⟩,?_⟩,fun b hb=>?_⟩
  ·exact u1 _ _ (Z.but q2 e2.extBut ne)
  ·rw [z0Y (bo (nb b hb))];exact (hf b hb).1
 ·intro X hP hw hK hc n pins s σ H E I hf st hg
  have hg:J.stop n H:=hg
  obtain ⟨⟨old,he⟩,hi⟩:=st
  obtain ⟨fp,m,Pv,T,Z,s1,u1,go1,st1,y1,f1⟩:=N.got X hP hw hK n pins s σ H I (hf ia (by simp)) hi (.inr hg)
  subst hP hw hK
  refine zi5 (I.ok.hd hc) Z he s1 (st1 hg) fun h' eb=>⟨rfl,?_⟩
  refine Inv.turns (t':=s.toks) [ea,ia] I (fun c ob hc e=>?_) hf
  simp only [av,aM,or_false,not_or] at hc
  exact eb c ob hc.2 e
def z5l (ds:List D):List D:=ds.zipIdx.map fun q=>.tup [.int (q.2:Nat),q.1]
theorem z6X (ds:List D) (i:Nat):(z5l ds)[i]?=(ds[i]?).map fun d=>D.tup [.int (i:Nat),d]:=by
 unfold z5l
 rw [bc,List.getElem?_zipIdx]
 cases ds[i]? <;> simp
theorem mf.enum (h1:mf K J (.val ds) H hid μ):mf K (Ite J) (.val (z5l ds)) H hid μ:=by
 intro hid' H' μ' O' m c i
 have q1:match ds[i]? with|some d=>J.go i H'/\∀ x H'',J.yld i H' x H''->Ext H' μ' H'' μ'/\l7 K H'' hid' μ' O'/\Dat K H'' hid' μ' d x|none=>J.stop i H':=h1 hid' H' μ' O' m c i
 show match (z5l ds)[i]? with|some d=>_|none=>_
 rw [z6X]
 cases e1:ds[i]? with
 | none=>rw [e1] at q1;exact q1
 | some d1=>
  rw [e1] at q1
  refine ⟨q1.1,fun v H'' yl=>?_⟩
  obtain ⟨p,x,hp,rfl,y1,rfl⟩:=yl
  exact ⟨.laid hp,c.laid hp,Dat.newT c hp (.cons z1r (.cons (q1.2 x H' y1).2.2 .nil))⟩
section
variable {s:ai}
theorem zd9:a8 "enumerate" = some (.type "enumerate"):=by boot_by_name
theorem z8H (ea ia:af) (A:ba) (n:Nat) (s:ai) (Q E:ae->ai->Prop) (h:∃ old,fQ s.heap ea ia (n:Nat) old) (q:Q (.ref ea) s):ar (ay P w) A (pyIter (.ref ea)) Q E s:=by
 obtain ⟨old,h⟩:=h
 have ht:s.TypeIs (.ref ea) "enumerate":=⟨_,h,rfl⟩
 refine iL ht jG (bF jG ht F.entry_enumerate_iter ?_ (F.args_enumerate_iter_1 _))
 show ar _ _ (ret (.ref ea)) _ _ s
 exact am ⟨_,rfl, "enumerate",_,ht,d8.lookup,q⟩
end
end DL
namespace DL
open PySem L2
open PyProof.Rows hiding St
section
variable {X:Cx} {Ex:Nat->Hp->Prop} {pos:Pos} {a b c e:aK} {ta tb te:DE} {pins:List (af × Obj)} {σv:L2.St} {H:Hp} {s:ai} {hid μ:List af} {O:Ow}
def zkf (K:aj):R2:=fun x y H Q=>∃ a b ys,x=.ref a/\y=.ref b/\SqT K H a []/\SqT K H b ys/\Q (.ref b) H
theorem zhO:OpR X (cU .Add) (zkf X.K):=by
 intro pins s σ H x y v u Q I rx ry h
 obtain ⟨p,q,ys,rfl,rfl,ha,hb,hq⟩:=h
 cases rx;cases ry
 obtain ⟨its,r1,⟨⟨c1,d1,dt1,l1⟩,g1,k1,n1,e1⟩,_⟩:=I.tuple ha
 obtain ⟨its2,r2,⟨⟨c2,d2,dt2,l2⟩,g2,k2,n2,e2⟩,_⟩:=I.tuple hb
 have hz:its=[]:=by cases r1;rfl
 subst hz
 have k1:c1=.type "tuple":=k1
 have k2:c2=.type "tuple":=k2
 have e1:dt1=.seq #[] n1:=e1
 have e2:dt2=.seq its2.toArray n2:=e2
 subst k1;subst k2;subst e1;subst e2
 exact ip ⟨_,g1,rfl⟩ ⟨_,g2,rfl⟩ iY jZ ge fW (fK _ _) (PyProof.Rows.tuple_addW0 p q #[] its2.toArray n1 n2 d1 d2 l1 l2 rfl) ⟨g1,g2,⟨.ref q,H,I,rfl,hq⟩⟩
def z39:Ow->D->D->R D:=fun O x y=>match x,y with
 | .tup [],.tup ys=>.ok (.tup ys) O
 | x,y=>z4i O x y
theorem zeD:OpD X Ex (fun x y H Q=>zkf X.K x y H Q \/ ziC X.K x y H Q) z39:=by
 intro H hid μ O x y v w Q c dx dy q
 unfold z39 at q
 split at q
 ·rename_i ys
  have dy':=dy
  unfold Dat at dx dy
  obtain ⟨p,vs,rfl,l,d1⟩:=dx
  obtain ⟨p2,vs2,rfl,l2,d2⟩:=dy
  unfold l8 at d1;subst d1
  exact .inl ⟨p,p2,vs2,rfl,rfl,l.sq,l2.sq,post.here q c dy'⟩
 ·exact .inr (ze7 H hid μ O _ _ v w Q c dx dy q)
theorem zid (ha:PD X Ex a ta) (hb:PD X Ex b tb):PD X Ex (.BinOp a .Add b pos) (dOp z39 ta tb):=z5Q (OpR.or zhO zem) zeD ha hb
def zmj (K:aj):V->Option Int->Option Int->Hp->VK->Prop:=fun x lo hi H Q=>∃ a xs,x=.ref a/\SqT K H a xs/\(HT.sIx xs.length 0 lo=0/\HT.sIx xs.length xs.length hi=xs.length)/\Q (.ref a) H
theorem z7G {P:aJ} {w:aR} {A:ba} {E:ae->ai->Prop} {s:ai} {t sl:af} {items:Array ae} {vl vu:ae} {lo hi:Option Int} {Q:ae->ai->Prop} (ht:IsTup s.heap t items) (hs:s.heap.IsSliceOf sl vl vu .none) (pl:fj vl lo) (pu:fj vu hi)
  (hw:HT.sIx items.size 0 lo=0/\HT.sIx items.size items.size hi=items.size) (h:Q (.ref t) s):ar (ay P w) A (getItem (.ref t) (.ref sl)) Q E s:=by
 obtain ⟨ob,hob,hcb,hdb⟩:=id hs
 have hTs:s.TypeIs (.ref sl) "slice":=⟨ob,hob,hcb⟩
 unfold getItem
 try with_reducible refine bL ?_
 first|refine aa (am ?_)|skip
 refine aa (iI ht.typeIs (by decide) (aa (bB (name := "__getitem__") ht.typeIs bu (bF bu ht.typeIs gX ?_ (iq _ _)))))
 show ar _ _ (fx (.ref t) >>= _) _ _ s
 refine aa (j0 ht (aa (fL hTs ?_)))
 rw [if_pos (by decide)]
 refine aa (HT.sliceApplied_gen hs pl pu ?_)
 have hyes:(((HT.sIx items.size 0 lo:Nat):Int) == 0 && (1:Int) == 1 && (HT.sIx items.size items.size hi - HT.sIx items.size 0 lo) == items.size)=true:=by
  rw [hw.1,hw.2];simp
 show ar _ _ (if (((HT.sIx items.size 0 lo:Nat):Int) == 0 && (1:Int) == 1 && (HT.sIx items.size items.size hi - HT.sIx items.size 0 lo) == items.size)=true then _ else _) _ _ s
 rw [if_pos hyes]
 refine aa (m:=iE (.ref t)) ?_
 unfold iE
 refine aa (fL ht.typeIs (am ?_))
 rw [if_pos (by decide)]
 exact aa (eD (am ⟨_,rfl,am h⟩))
theorem zfO:SlR X (zmj X.K):=by
 intro pins s σ H x v vl vu lo hi sl Q I rx hs pl pu h
 obtain ⟨p,xs,rfl,hx,hw,q⟩:=h
 cases rx
 obtain ⟨its,r,ht,hz⟩:=I.tuple hx
 have hlen:its.toArray.size=xs.length:=by rw [aA];exact r.length.symm
 exact ⟨"tuple",_,bu.lookup,ht.typeIs,z7G ht hs pl pu (by rw [hlen];exact hw) ⟨.ref p,H,I,rfl,q⟩⟩
def zmm (O:Ow) (x:D) (lo hi:Option Int):R D:=match x with
 | .tup ds=>if HT.sIx ds.length 0 lo=0/\HT.sIx ds.length ds.length hi=ds.length then .ok (.tup ds) O else .ok (.tup (zbd ds lo hi)) O
 | x=>fSl O x lo hi
def z8v (te:DE) (tl th:DO):DE:=fun σ O=>(te σ O).bnd fun x O1=>(tl σ O1).bnd fun lo O2=>(th σ O2).bnd fun hi O3=>zmm O3 x lo hi
theorem zkW {lo hi:Option aK} {tl th:DO} {p2:Pos} (he:PD X Ex e te) (hl:PDO X Ex lo tl) (hu:PDO X Ex hi th):PD X Ex (.Subscript e (.Slice lo hi none p2) pos) (z8v te tl th):=
 z22 (zev (r:=fun x lo hi H Q=>zmj X.K x lo hi H Q \/ zn4 X.K x lo hi H Q) (SlR.or zfO (SlR.or zl5 (SlR.or zjg zi7))) he.out hl.out hu.out) fun hid μ σ O σv H Q e1 c1 q=>rd.go e1 c1 q fun d O1 v H1 μ1 e2 x cl r p=>rdO.go e2 cl p fun l O2 H2 μ2 e3 x3 c3 p3=>rdO.go e3 c3 p3 fun u O3 H3 μ3 e4 x4 c4 p4=>by
  have r':=(r.ext x3).ext x4
  cases d with
  | tup ds=>
   have rr:=r'
   unfold Dat at r'
   obtain ⟨pa,vs,rfl,la,q1⟩:=r'
   have p4':z1q Ex X.K H3 hid μ3 (if HT.sIx ds.length 0 l=0/\HT.sIx ds.length ds.length u=ds.length then .ok (.tup ds) O3 else .ok (.tup (zbd ds l u)) O3) Q:=p4
   split at p4'
   ·rename_i hw
    exact .inl ⟨pa,vs,rfl,la.sq,by rw [<- q1.length];exact hw,post.here p4' c4 rr⟩
   ·rename_i hw
    exact .inr (.inr (.inl ⟨pa,vs,rfl,la.sq,by rw [<- q1.length];exact hw,fun l' hl'=>post.ok p4' (.laid hl') (c4.laid hl') (Dat.newT c4 hl' (z8e q1 l u))⟩))
  | str i=>
   unfold Dat at r';subst r'
   have p4':z1q Ex X.K H3 hid μ3 (if i.length <= 100000 then .ok (.str (lK ⟨i.toArray⟩ l u).cps.toList) O3 else .bad) Q:=p4
   obtain ⟨hll,p4'⟩:=post.ite p4'
   refine .inr (.inl ⟨_,rfl,?_,post.here p4' c4 ?_⟩)
   ·show i.toArray.size <= _
    rw [aA];exact z1K hll
   ·unfold Dat;rw [z8r]
  | lst ds=>
   have p4':z1q Ex X.K H3 hid μ3 (.ok (.lst (zbd ds l u)) O3) Q:=p4
   obtain ⟨pa,vs,rfl,sq,q1⟩:=z3c c4 r' (show lsV O3 (.lst ds)=some ds from rfl)
   exact .inr (.inr (.inr ⟨pa,vs,rfl,sq,fun l' hl'=>post.ok p4' (.laid hl') (c4.laid hl') (Dat.newL c4 hl' (z8e q1 l u))⟩))
  | own k=>
   have p4':z1q Ex X.K H3 hid μ3 (match O3[k]? with|some ds=>.ok (.lst (zbd ds l u)) O3|none=>.bad) Q:=p4
   split at p4'
   ·rename_i ds eds
    obtain ⟨pa,vs,rfl,sq,q1⟩:=z3c c4 r' (show lsV O3 (.own k)=some ds from eds)
    exact .inr (.inr (.inr ⟨pa,vs,rfl,sq,fun l' hl'=>post.ok p4' (.laid hl') (c4.laid hl') (Dat.newL c4 hl' (z8e q1 l u))⟩))
   ·exact ak p4'
  | _=>exact ak p4
end
end DL
namespace DL
open PySem L2
section
variable {X:Cx} {Ex:Nat->Hp->Prop}
def zkK:Ow->D->D->R D:=fun O x y=>match x,y with
 | .int i,.int j=>.ok (.bl (decide (i < j))) O
 | .str p,.str q=>.ok (.bl (decide (p < q))) O
 | _,_=>.bad
theorem zka:OpR X (b0 .Lt) (fun x y H Q=>(∃ i j,x=.str i/\y=.str j/\Q (.bl (decide (i.cps.toList < j.cps.toList))) H) \/ rI0 (fun i j=>.bl (decide (i < j))) x y H Q):=OpR.or zdI zh4
theorem ziI:OpD X Ex (fun x y H Q=>(∃ i j,x=.str i/\y=.str j/\Q (.bl (decide (i.cps.toList < j.cps.toList))) H) \/ rI0 (fun i j=>.bl (decide (i < j))) x y H Q) zkK:=by
 intro H hid μ O x y v w Q c dx dy q
 unfold zkK at q
 split at q
 ·rename_i i j
  exact .inr (zde H hid μ O (.int i) (.int j) v w Q c dx dy q)
 ·unfold Dat at dx dy;subst dx;subst dy
  exact .inl ⟨_,_,rfl,rfl,post.here q c z2m⟩
 ·exact ak q
end
section
variable {X:Cx} {Ex:Nat->Hp->Prop} {pos:Pos} {σv:St} {H:Hp} {hid μ:List af} {O:Ow}
structure zm8 (mg:Str->Option ae) (x:Str) (i:Int):Prop where
 ex:∃ t,mg x=some (.int i t)
theorem zhJ (h:zm8 X.mg x i) (hg:Gl X x:=by rfl) (hd:(x == ("__debug__":Str))=false:=by decide):PD X Ex (.Name x pos) (dC (.int i)):=by
 obtain ⟨t,h⟩:=h.ex
 exact z22 (z6L (v:=.int i) hg h ⟨_,rfl⟩ hd) fun hid μ σ O σv H Q e1 c1 q=>post.here q c1 z1r
end
section
variable {X:Cx} {Ex:Nat->Hp->Prop} {pos:Pos} {tg e:aK} {te:DE}
def zls (g:Tg) (te:DE):DS:=fun σ O=>(te σ O).bnS fun d O1=>match g.put d σ with
 | some σ'=>.nx σ' O1
 | none=>.bad
theorem ziL (he:PD X Ex e te) (hg:PG X tg (g.rd X.K)) (hs:fv [tg] e pos.line X.env=pure false:=by rfl) (hw:fw [tg] e X.env=pure none:=by rfl) (h1:(fq [tg] X.env).map (·.2)=[assign tg X.env]:=by rfl):PDS X Ex (.Assign [tg] e pos) (zls g te):=
 z56 (zdw he.out hg hs hw h1) fun hid μ σ O E σv H e1 c1 q=>rd.goS e1 c1 q fun d O1 v H1 μ1 e2 x c r p=>by
  cases hp:g.put d σ with
  | none=>rw [hp] at p;exact ak p
  | some σ'=>
   rw [hp] at p
   exact g.ok2 e2 r hp fun σv' e3 _=>p σv' H1 μ1 .refl e3 c
end
end DL
namespace DL
open PySem L2 PySem.Spec PyProof.Rows
section
theorem zeJ (r:ma xs us):ma xs.reverse us.reverse:=by
 induction r with
 | nil=>exact .nil
 | cons r t ih=>
  rw [kY,kY]
  exact ma.append ih (.cons r .nil)
end
end DL
namespace DL
open PySem L2 PySem.Spec PyProof.Rows
open Sem (wp)
theorem z3Q:fillsNumberSlot (.type "tuple") "mul" = pure false:=
 PySem.fillsNumberSlot_seq (id := "tuple.__mul__") (r:=some (.builtin "tuple.__rmul__")) fc.lookup (by decide +kernel) je.lookup (by decide +kernel)
theorem z5H:seqRepeat? (.type "tuple")=pure (some (.builtin "tuple.__mul__")):=by
 unfold seqRepeat?
 rw [lp (T := "tuple") (name := "__mul__") (id := "tuple.__mul__") fc.lookup (by decide +kernel),lp (T := "tuple") (name := "__rmul__") (id := "tuple.__rmul__") je.lookup (by decide +kernel)]
 rfl
theorem z5z (a:Int) (t:Tok) (l:af) (items:Array ae) (n:Nat) (dd:Option af) (sl):
  Meets (cA.«int.__rmul__» ⟨[.int a t,.ref l],[]⟩) (fun _ R s=>s.heap.get? l=some { cls:=.type "tuple",dict:=dd,data:=.seq items n,slots:=sl }/\R (.ok (.ret jV)) s):=
 .of_wp fun prog w A R s h=>by obtain ⟨hp,g,d,tk,os⟩:=s;obtain ⟨hl,h⟩:=h;wp_walk;exact ⟨_,rfl,h⟩
end DL
namespace DL
open PySem L2 PySem.Spec PyProof.Rows
end DL
namespace DL
open PySem
theorem zkx:a8 "set" = some (.type "set"):=by boot_by_name
end DL
namespace DL
open PySem L2
open AutoSeq1 (wpAny_loadPart')
section
variable {X:Cx} {Ex:Nat->Hp->Prop} {b e o:aK} {to:DE}
def zle:Int->Int->Option D:=fun i j=>if 0 <= j then some (.int (i / 2 ^ j.toNat)) else none
def zln:Int->Int->Option D:=gI jz
theorem zhV:OpD X Ex (rI (fun _ j=>0 <= j) fun i j=>.int (i / 2 ^ j.toNat)) (fI zle):=z5q fun i j d h=>by
 unfold zle at h
 split at h
 ·rename_i hc;cases h;exact ⟨hc,fun _ _ _ _=>z1r⟩
 ·cases h
theorem zgP:OpD X Ex (rI0 fun i j=>.int (jz i j)) (fI zln):=z4S fun i j d h _ _ _ _=>by cases h;exact z1r
theorem zc9 (l:af) (xs:Array ae) (n:Nat) (b:af) (ys:Array ae) (m:Nat) (sl:Array (Option ae)) (hc0:¬(!xs.isEmpty && cY (xs.size + ys.size))=true) (hc1:xs.size <= sizeLine) (hs2:xs.size + ys.size <= sizeLine + 1):
  Meets (cA.«list.extend» ⟨[.ref l,.ref b],[]⟩) (fun _ R s=>s.heap.get? l=some { cls:=.type "list",data:=.seq xs n }/\s.heap.get? b=some { cls:=.type "list",data:=.seq ys m,slots:=sl }/\R (.ok (.ret .none)) { s with heap:=s.heap.update l (dB fun x=>x ++ ys) }):=
 .of_wp fun prog w A R s h=>by
  obtain ⟨hp,g,d,tk,os⟩:=s
  obtain ⟨gl,gb,h⟩:=h
  have f1:=AutoSeq1.sub_tuple_tuple
  have f2:=AutoSeq1.sub_list_list
  have f3:=AutoSeq1.sub_tuple_list
  have f4:=AutoSeq1.sub_list_tuple
  have hz:(xs ++ ys).size <= sizeLine + 1:=by rw [Array.size_append];exact hs2
  wp_walk using (jm gl rfl (hz:=hc1) (_hz':=hz)),wpAny_loadPart' gl,wpAny_loadPart' gb
  exact ⟨_,rfl,h⟩
def zmD (K:aj):V->List V->Hp->VK->Prop:=fun x vs H Q=>∃ l b xs zs,x=.ref l/\vs=[.ref b]/\H l=some (.lst xs)/\SqL K H b zs/\xs.length + zs.length <= sizeLine/\Q .non (upd H l (.lst (xs ++ zs)))
theorem zkJ:MtM X "list.extend" (zmD X.K):=by
 intro pins s σ H x vs v us Q I rx rv h
 obtain ⟨l,b,xs,zs,rfl,rfl,hH,hB,hz,q⟩:=h
 cases rx
 obtain ⟨u,rfl,ru⟩:=rv.one
 cases ru
 obtain ⟨z,its,n,r,hl,e⟩:=I.lstM hH
 obtain ⟨its2,r2,⟨ob,n2,e2,hc2,hd2,hs2⟩,_⟩:=I.list hB
 obtain ⟨cc,dct,dt,sl⟩:=ob
 have hc2:cc=.type "list":=hc2
 have hd2:dct=none:=hd2
 have hs2:dt=.seq its2.toArray n2:=hs2
 subst hc2;subst hd2;subst hs2
 have hl2:=r2.length
 have hsz:its.toArray.size + its2.toArray.size <= sizeLine:=by rw [aA,aA];omega
 have hlong:¬ (!its.toArray.isEmpty && cY (its.toArray.size + its2.toArray.size))=true:=by
  rw [zf2 hsz,Bool.and_false]
  exact bH
 refine eV jH ⟨_,e,rfl⟩ F.entry_list_extend (F.args_list_extend_2 _ _)
  (zc9 l its.toArray n b its2.toArray n2 sl hlong (by rw [aA];omega) (by omega)) ⟨e,e2,?_⟩
 refine ⟨.non,_,I.lset (its':=its ++ its2) hH e (by simp) (r.append r2) ?_,rfl,q⟩
 rw [aE]
 omega
def zfv (to:DE) (t:DA):DE:=fun σ O=>(to σ O).bnd fun x O1=>match x with
 | .own k=>(t σ O1).bnd fun ys O2=>match ys,O2[k]? with
  | [y],some ds=>match lsV O2 y with
   | some es=>if ds.length + es.length <= 100000 then .ok .non (O2.set k (ds ++ es)) else .bad
   | none=>.bad
  | _,_=>.bad
 | _=>.bad
theorem zdP (ho:PD X Ex o to) (ha:PDA X Ex (e :: es) t) (hbase:attributeBase o "extend" X.env (eval o X.env)=eval o X.env:=by rfl)
  (hfew:((backTo cpos (aD (e :: es) X.env)).all (fun x=>!x.1) && (backToKw cpos (keywordEach [] X.env)).all (fun x=>x.1.isSome) && decide ((e :: es).length + ([]:List eG).length + (if ([]:List eG).isEmpty then 0 else 1) < 30))=true:=by rfl)
  (hline:(apos.endLine == cpos.line)=true:=by rfl) (hs:aD (e :: es) X.env=(false,eval e X.env) :: aD es X.env:=by rfl) (hplain:(backTo cpos (aD es X.env)).any (·.1)=false:=by rfl):
  PD X Ex (.Call (.Attribute o "extend" apos) (e :: es) [] cpos) (zfv to t):=
 z22 (z91 cJ jH PySem.F.type_list_extend zkJ ho.out ha.out hbase hfew hline hs hplain) fun hid μ σ O σv H Q e1 c1 q=>rd.go e1 c1 q fun d O1 v H1 μ1 e2 x cl r p=>by
  cases d with
  | own k=>
   have hr:=r
   unfold Dat at r
   obtain ⟨A,rfl,hk⟩:=r
   obtain ⟨ds,vs,h1,h2,h3⟩:=cl.at_ k A hk
   refine ⟨.inl ⟨rfl,vs,.of h2⟩,rdA.go e2 cl p fun ys O2 ws H2 μ2 e3 x3 c3 d3 p3=>?_⟩
   split at p3
   ·rename_i y es' hds
    split at p3
    ·rename_i zs hz
     obtain ⟨hl,p3⟩:=post.ite p3
     obtain ⟨w,rfl,dw⟩:=z3S d3
     have hk2:μ2[k]?=some A:=by
      have:=hr.ext x3
      unfold Dat at this
      obtain ⟨A',e',hk'⟩:=this
      cases e';exact hk'
     obtain ⟨ds2,vs2,g1,g2,g3⟩:=c3.at_ k A hk2
     rw [hds] at g1;cases g1
     obtain ⟨pb,vz,rfl,sq,dz⟩:=z3c c3 dw hz
     refine ⟨A,pb,vs2,vz,rfl,rfl,g2,sq,bb (by rw [<- g3.length,<- dz.length];exact hl) (by decide),?_⟩
     exact post.ok p3 (.put (aW hk2) ⟨_,g2⟩) (c3.put hk2 (g3.append dz)) z5i
    ·exact ak p3
   ·exact ak p3
  | _=>exact ak p
end
set_option maxHeartbeats 1000000 in
theorem zc8 (q:ZK) (va:ae) (ea:q.val=va):
  Meets (cA.«enumerate.__new__» ⟨[.type "enumerate",va],[]⟩) (fun _ R s=>q.pre s.heap/\
   R (.ok (.ret (.ref (s.heap.push q.obj).objs.size))) { s with heap:=(s.heap.push q.obj).push { cls:=.type "enumerate",data:=.fields #[.none,.bool false,.ref s.heap.objs.size,bj 0,.none,.none] } }):=
 .of_wp fun P w A R s h=>by
  obtain ⟨hp,g,d,tk,os⟩:=s;obtain ⟨h1,h⟩:=h
  have hsub:=sub_enumerate
  have i1:∀ {A:ba} {E:ae->ai->Prop} {Q:ae->ai->Prop},Q (.ref hp.objs.size) ⟨hp.push q.obj,g,d,tk,os⟩->ar (ay P w) A (pyIter va) Q E ⟨hp,g,d,tk,os⟩:=fun {A E Q} hq=>by rw [<- ea];exact q.iter (s:=⟨hp,g,d,tk,os⟩) h1 hq
  wp_walk
  refine wpAny_stack_any fun st=>am (?_)
  split
  ·rename_i cc _ _ _ _ _
   cases (cc == iN "enumerate")
   ·wp_walk using i1
    exact ⟨_,rfl,h⟩
   ·wp_walk using i1
    exact ⟨_,rfl,h⟩
  ·wp_walk using i1
   exact ⟨_,rfl,h⟩
section
variable {P:aJ} {w:aR} {A:ba} {E:ae->ai->Prop} {s:ai}
theorem zbt (q:ZK) (hT:q.pre s.heap)
  (h:∀ h',fQ h' (s.heap.objs.size + 1) s.heap.objs.size 0 .none->h'.get? s.heap.objs.size=some q.obj->(∀ b o,s.heap.get? b=some o->h'.get? b=some o)->Q (.ref (s.heap.objs.size + 1)) { s with heap:=h' }):
  ar (ay P w) A (call (.type "enumerate") [q.val]) Q E s:=by
 refine callType_new F.called_enumerate (by decide) (F.typeCall_enumerate_1 _) (F.newCall_enumerate_1 _) (fun obj=>F.args_object_init_2 obj _) F.entry_enumerate_new (zc8 q _ rfl) ⟨hT,?_⟩
 have fa:q.obj.isFreed=false:=by cases q <;> rfl
 have hz:(s.heap.push q.obj).objs.size=s.heap.objs.size + 1:=bQ ..
 show _/\_
 rw [hz]
 have he:fQ ((s.heap.push q.obj).push { cls:=.type "enumerate",data:=.fields #[.none,.bool false,.ref s.heap.objs.size,bj 0,.none,.none] }) (s.heap.objs.size + 1) s.heap.objs.size 0 .none:=by
  have q:=aC (s.heap.push q.obj) (o:={ cls:=.type "enumerate",data:=.fields #[.none,.bool false,.ref s.heap.objs.size,bj 0,.none,.none] }) rfl
  rw [hz] at q;exact q
 exact ⟨⟨_,he,rfl⟩,h _ he (ah _ (aC _ fa)) fun b o x=>ah _ (ah _ x)⟩
end
def z7l (t:DA):DI:=fun σ O=>(t σ O).bnd fun xs O1=>match xs with
 | [x]=>match zkD x with
  | some (.val ds)=>.ok (.val (z5l ds)) O1
  | _=>.bad
 | _=>.bad
section
variable {X:Cx} {Ex:Nat->Hp->Prop} {pos:Pos} {a b:aK} {pins:List (af × Obj)} {σv:St} {H:Hp} {s:ai} {hid μ:List af} {O:Ow}
theorem ze1 (hg:Gl X "enumerate") (hm:X.mg "enumerate" = none) (ha:PDA X Ex [a] t) (hs:aD [a] X.env=[(false,eval a X.env)]:=by rfl):
  PDI X Ex (.Tuple es' kt pt) (.Call (.Name "enumerate" p) [a] [] pos) (z7l t):=by
 refine ⟨?_⟩
 rintro pins s σv H Rr I ⟨hid,μ,σ,O,e1,c1,q⟩
 refine jL (z7A I hg hm zd9 (dS (thn (ha.out pos pins s σv H _ I (rdA.go e1 c1 q (Q1:=fun vs H1=>∃ hid μ1 O1 ds,l7 X.K H1 hid μ1 O1/\l8 X.K H1 hid μ1 ds vs/\
   post Ex X.K (fun H' μ' s J=>mf X.K J s H' hid μ') H1 hid μ1 (match ds with|[x]=>(match zkD x with|some (.val ds)=>.ok (.val (z5l ds)) O1|_=>.bad)|_=>.bad) Rr)
  fun ds O1 vs H1 μ1 e2 x cl d p=>⟨hid,μ1,O1,ds,cl,d,p⟩)) fun us s1 ⟨vs,H1,I1,r1,hid,μ1,O1,ds,cl,d,p⟩=>?_) (by rw [hs];rfl) (by rfl)))
 split at p
 ·rename_i x
  split at p
  ·rename_i ts hz
   obtain ⟨v,rfl,dx⟩:=z3S d
   obtain ⟨u1,rfl,ru1⟩:=z4R r1
   obtain ⟨k1,J1,v1,p1,t1,i1⟩:=zhI I1 cl dx ru1 hz
   rw [<- v1]
   refine zbt k1 p1 fun h' g1 g2 hk=>?_
   refine z8H (s1.heap.objs.size + 1) s1.heap.objs.size _ 0 _ _ _ ⟨_,g1⟩ ?_
   have I2:L2.Inv X pins σv H1 { s1 with heap:=h',toks:=s1.toks }:=I1.kept hk
   obtain ⟨S1,N1,z1⟩:=i1 s1.heap.objs.size
   refine ⟨s1.heap.objs.size + 1,[s1.heap.objs.size + 1,s1.heap.objs.size],_,_,H1,rfl,I2,zcD _ _ (Nat.succ_ne_self _) N1 (z8H _ _),⟨⟨_,g1⟩,z1 _ g2⟩,fun b hb=>?_,post.here p cl (.enum t1)⟩
   have hb':s1.heap.objs.size <= b:=by
    simp only [av,aM,or_false] at hb
    rcases hb with rfl|rfl <;> omega
   exact I1.fpOk (H':=H1) hb' (I1.hok.fresh hb')
  ·exact ak p
 ·exact ak p
end
end DL
namespace DL
open PySem
theorem zim (t:i6) (es:Array (Int × ae)) (h:Int) (x:ae):(layNew t es h x).2.1.led=t.led:=by
 unfold layNew
 split
 ·rename_i slot wd _
  show ((t.put slot).1.orStandIn _).led=_
  unfold SetTable.orStandIn
  split <;> rfl
 ·rfl
theorem zcF (t:i6) (es:Array (Int × ae)) (n:Nat):(relayAll t es n).2.1.led=t.led/\(t.plain=false->(relayAll t es n).2.1.plain=false):=by
 unfold relayAll
 cases h:t.relaid (es.map (·.1)) n with
 | none=>exact ⟨rfl,fun _=>rfl⟩
 | some p=>
  obtain ⟨t',order⟩:=p
  have hl:t'.led=t.led/\t'.plain=t.plain:=by
   unfold SetTable.relaid SetTable.laid at h
   cases hc:SetTable.layClean (SetTable.sizeAbove n - 1) (es.map (·.1)) with
   | none=>rw [hc] at h;cases h
   | some ow=>rw [hc] at h;cases h;exact ⟨rfl,rfl⟩
  dsimp only
  split
  ·exact ⟨hl.1,fun e=>hl.2.trans e⟩
  ·exact ⟨rfl,fun _=>rfl⟩
def byT (w:aR):Bool:=w.params.followText "set-order"
def z6M (e:Int × ae):Str:=match e.2 with
 | .str x _=>x
 | _=>⟨#[]⟩
def mn (P:aJ) (w:aR) (a:af) (ks:List Str) (h:aP):Prop:=
 ∃ o es ep t,h.get? a=some o/\o.ExactSet/\o.data=.set es ep t/\gA (strKind P w) es.toList/\(es.toList.map z6M).Perm ks/\ks.Nodup/\es.size < scanBound/\t.fits es.size=true/\(byT w=false->t.led=true)/\(es.size ≠ 0->t.plain=false)
section
variable {P:aJ} {w:aR} {A:ba} {E:ae->ai->Prop} {s:ai} {a:af} {ks:List Str}
theorem mn.keep (k:∀ o,h.get? a=some o->h'.get? a=some o):mn P w a ks h->mn P w a ks h':=fun ⟨o,es,ep,t,ho,r⟩=>⟨o,es,ep,t,k o ho,r⟩
theorem mn.size (x:mn P w a ks h):∃ o es ep t,h.get? a=some o/\o.data=.set es ep t/\es.size=ks.length:=by
 obtain ⟨o,es,ep,t,ho,hx,hd,hel,hp,_⟩:=x
 exact ⟨o,es,ep,t,ho,hd,by rw [<- hp.length_eq];simp⟩
theorem z7X (h:gA (strKind P w) l) (he:e ∈ l):∃ t,e.2=.str (z6M e) t:=by
 obtain ⟨⟨k,hk,_⟩,_⟩:=h e he
 obtain ⟨t,ht⟩:=gW (x:=k) (v:=e.2) hk
 exact ⟨t,by unfold z6M;rw [ht]⟩
theorem zgq (h:e.2=.str (z6M e) t) (x:Str):(strKind P w).is x e.2=true ↔ z6M e=x:=by
 rw [h]
 constructor
 ·intro q
  obtain ⟨t',e'⟩:=gW (x:=x) (v:=.str (z6M e) t) q
  injection e'
 ·intro q
  rw [q]
  show ef x (.str x t)=true
  simp [ef]
def zay (ks:List Str) (x:Str):List Str:=if ks.contains x=true then ks else ks ++ [x]
theorem zgp {h:aP} {o:Obj} {es es':Array (Int × ae)} {ep:Nat} {t t':i6} {ks':List Str} (ho:h.get? a=some o) (hx:o.ExactSet) (hd:o.data=.set es ep t) (hel:gA (strKind P w) es'.toList) (hp:(es'.toList.map z6M).Perm ks') (hn:ks'.Nodup)
  (hb:es'.size < scanBound) (hf:t'.fits es'.size=true) (hl:byT w=false->t'.led=true) (hpl:es'.size ≠ 0->t'.plain=false):mn P w a ks' (h.update a (jW es' t'))/\(h.update a (jW es' t')).get? a=some { o with data:=.set es' (ep + 1) t' }:=by
 have g:=bC (jW es' t') ho (by rw [putSet_of es' t' hd];rfl)
 rw [putSet_of es' t' hd] at g
 exact ⟨⟨_,es',ep + 1,t',g,hx,rfl,hel,hp,hn,hb,hf,hl,hpl⟩,g⟩
theorem zn0 {x:Str} {tk:Tok} {Q:Bool->ai->Prop} (hS:mn P w a ks s.heap) (hroom:ks.length + 1 < scanBound)
  (h:∀ b h',cr a s.heap h'->mn P w a (zay ks x) h'->Q b { s with heap:=h' }):
  ar (ay P w) A (setAddHashed a (.str x tk) ((strKind P w).hash x)) Q E s:=by
 obtain ⟨o,es,ep,t,ho,hx,hd,hel,hp,hn,hb,hf,hl,hpl⟩:=hS
 have hkey:(strKind P w).is x (.str x tk)=true:=by show ef x (.str x tk)=true;simp [ef]
 have hsz:es.size=ks.length:=by rw [<- hp.length_eq];simp
 unfold setAddHashed setAddHashedIn
 refine bL (aa (ez ho hd hf ?_))
 dsimp only
 rw [byScan_of (x:=.str x tk) rfl hb hel,if_pos rfl]
 unfold setAddByScan
 refine aa (aa (eD (aa (wpAny_setScan_of hkey ho hd hf hel ?_))))
 cases hr:List.findIdx? (fun e=>(strKind P w).is x e.2) es.toList with
 | some j=>
  dsimp only
  obtain ⟨hj,hpj,_⟩:=List.findIdx?_eq_some_iff_getElem.mp hr
  have hin:x ∈ ks:=by
   obtain ⟨t',ht'⟩:=z7X hel (bG hj)
   have:=(zgq ht' x).mp hpj
   exact hp.mem_iff.mp (aO.mpr ⟨_,bG hj,this⟩)
  refine am (am ?_)
  have:=h false s.heap (Heap.SameBut.refl a s.heap) (by
   unfold zay
   rw [if_pos (bV.mpr hin)]
   exact ⟨o,es,ep,t,ho,hx,hd,hel,hp,hn,hb,hf,hl,hpl⟩)
  cases s;exact this
 | none=>
  dsimp only
  have hnin:x ∉ ks:=fun hm=>by
   obtain ⟨e,he,ek⟩:=aO.mp (hp.mem_iff.mpr hm)
   obtain ⟨t',ht'⟩:=z7X hel he
   have:=List.findIdx?_eq_none_iff.mp hr e he
   rw [(zgq ht' x).mpr ek] at this
   cases this
  have ea:zay ks x=ks ++ [x]:=by unfold zay;rw [if_neg (fun z=>hnin (bV.mp z))]
  have hpm:=layNew_perm t es ((strKind P w).hash x) (.str x tk)
  have hft:=layNew_fits t es ((strKind P w).hash x) (.str x tk)
  have hld:=zim t es ((strKind P w).hash x) (.str x tk)
  generalize layNew t es ((strKind P w).hash x) (.str x tk)=L at hpm hft hld ⊢
  obtain ⟨es1,t1,wd,gv⟩:=L
  dsimp only at hpm hft hld ⊢
  rw [kZ] at hpm
  have hel1:gA (strKind P w) es1.toList:=(hel.push hkey rfl).perm hpm
  have hp1:(es1.toList.map z6M).Perm (ks ++ [x]):=by
   refine (hpm.map z6M).trans ?_
   rw [cW]
   exact hp.append_right _
  have hn1:(ks ++ [x]).Nodup:=by
   rw [dG]
   exact ⟨hn,by simp,fun p hp q hq=>by
    have:q=x:=by simpa using hq
    subst this;rintro rfl;exact hnin hp⟩
  have hs1:es1.size=ks.length + 1:=by rw [<- ck,<- az (f:=z6M),hp1.length_eq];simp
  have hb1:es1.size < scanBound:=by rw [hs1];exact hroom
  have gw:∀ (b:Bool) {s1:ai} {Q':Unit->ai->Prop},Q' () s1->ar (ay P w) A (match b with|true=>rule "set.scan.the-table-gave-way"|false=>pure ()) Q' E s1:=fun b s1 Q' hq=>by
   cases b
   ·exact am hq
   ·exact eD hq
  refine aa (gw _ ?_)
  have tail:∀ t2:i6,t2.led=t.led->t2.plain=false->t2.fits es1.size=true->ar (ay P w) A (do
    storeSet a es1 t2
    if (!wd && t2.tooFull)=true then do
      (match (relayAll t2 es1 (eH es1.size)).2.2 with|true=>rule "set.scan.the-table-gave-way"|false=>pure ())
      storeSet a (relayAll t2 es1 (eH es1.size)).1 (relayAll t2 es1 (eH es1.size)).2.1
      pure (some true)
     else pure (some true)) (fun r s'=>ar (ay P w) A (match r with|some added=>(pure added:Sem Bool)|none=>setAddHashedIn a (.str x tk) ((strKind P w).hash x) 99999) Q E s') E s:=by
   intro t2 h1 h2 h3
   obtain ⟨S1,g1⟩:=zgp (P:=P) (w:=w) (ks':=ks ++ [x]) (es':=es1) (t':=t2) ho hx hd hel1 hp1 hn1 hb1 h3 (fun e=>h1.trans (hl e)) (fun _=>h2)
   have sb:=di s.heap a (jW es1 t2)
   refine aa (wpAny_storeSet_of ho hd ?_ (iM hb1))
   split
   ·have rp:=relayAll_perm t2 es1 (eH es1.size)
    have rf:=relayAll_fits t2 es1 (eH es1.size)
    have rl:=zcF t2 es1 (eH es1.size)
    generalize relayAll t2 es1 (eH es1.size)=R at rp rf rl ⊢
    obtain ⟨es2,t3,gv2⟩:=R
    dsimp only at rp rf rl ⊢
    have s2:es2.size=es1.size:=by rw [<- ck,rp.length_eq,ck]
    have b2:es2.size < scanBound:=by rw [s2];exact hb1
    refine aa (gw _ (aa (wpAny_storeSet_of g1 rfl ?_ (iM b2))))
    obtain ⟨S2,_⟩:=zgp (P:=P) (w:=w) (ks':=ks ++ [x]) (es':=es2) (t':=t3) g1 hx rfl (hel1.perm rp) ((rp.map z6M).trans hp1) hn1 b2 rf (fun e=>rl.1.trans (h1.trans (hl e))) (fun _=>rl.2 h2)
    exact am (am (h true _ (sb.trans (di _ a _)) (by rw [ea];exact S2)))
   ·exact am (am (h true _ sb (by rw [ea];exact S1)))
  split
  ·rename_i hpt
   refine aa ?_
   rw [hashByValue_scannable 8 (x:=.str x tk) rfl]
   refine am ?_
   exact tail { t1 with plain:=false } hld rfl (SetTable.fits_plain_off hft)
  ·rename_i hpt
   refine aa (am ?_)
   rw [if_pos rfl]
   exact tail t1 hld (by simpa using hpt) hft
end
def ded (l:List Str):List Str:=l.foldl zay []
theorem zfN (l:List Str) (x:Str):ded (l ++ [x])=zay (ded l) x:=by unfold ded;rw [List.foldl_append];rfl
theorem zfu (ks:List Str) (x:Str):(zay ks x).length <= ks.length + 1:=by unfold zay;split <;> simp
theorem zdd:∀ (l:List Str),(ded l).length <= l.length:=fun l=>by
 have:∀ (l ks:List Str),(l.foldl zay ks).length <= ks.length + l.length:=by
  intro l
  induction l with
  | nil=>intro ks;exact aB _
  | cons x l ih=>intro ks;refine bb (ih (zay ks x)) ?_;have:=zfu ks x;rw [bX];omega
 have h:=this l []
 simpa [ded] using h
theorem zfh:y ∈ zay ks x ↔ y ∈ ks \/ y=x:=by
 unfold zay
 split
 ·rename_i h
  exact ⟨.inl,fun q=>q.elim id fun e=>by rw [e];exact bV.mp h⟩
 ·rw [bg,List.mem_singleton]
theorem zcO:∀ (l:List Str),y ∈ ded l ↔ y ∈ l:=fun l=>by
 have:∀ (l ks:List Str),y ∈ l.foldl zay ks ↔ y ∈ ks \/ y ∈ l:=by
  intro l
  induction l with
  | nil=>intro ks;simp
  | cons x l ih=>intro ks;rw [fH,ih,zfh,av];exact ⟨fun h=>by rcases h with (h|h)|h <;> simp [h],fun h=>by rcases h with h|h|h <;> simp [h]⟩
 rw [ded,this];simp
section
variable {P:aJ} {w:aR} {A:ba} {s:ai} {R:Result->ai->Prop}
variable {I:af} {fp wr:List af} {n:Nat} {Pv:Nat->ae->Prop} {St:Nat->aP->Prop}
theorem zn1 (W:Walks P w A.in1 I fp wr n Pv St) (S:af) (hSf:S ∉ fp) (vs:List Str) (hl:vs.length=n) (hval:∀ i v,Pv i v->i < n->∃ t,v=.str (vs.getD i ⟨#[]⟩) t) (hb:n + 1 < scanBound):
  ∀ (k i:Nat) (s:ai),n - i=k->i <= n->St i s.heap->mn P w S (ded (vs.take i)) s.heap->
   (∀ h' tk,(∀ b o,b ∉ S :: wr->s.heap.get? b=some o->h'.get? b=some o)->mn P w S (ded vs) h'->R (.ok (.ret .none)) { s with heap:=h',toks:=tk })->
   codeAny (ay P w) A (.builtin "set.update.loop" ⟨[.ref S,.ref I],[]⟩) R s:=by
 have hSw:S ∉ wr:=fun h=>hSf (W.sub _ h)
 intro k
 induction k with
 | zero=>
  intro i s hk hi st hS hR
  have e:i=n:=by omega
  subst e
  refine e8 fR ?_
  rw [eE dY _]
  show ar _ A.in1 (pyNext (.ref I) >>= _) _ _ s
  refine aa (W.done s _ _ st fun h' tk hm=>?_)
  refine am (hR h' tk (fun b o hb z=>hm b o (fun q=>hb (au _ q)) z) ?_)
  rw [<- hl,dO] at hS
  exact hS.keep fun o z=>hm S o hSw z
 | succ k ih=>
  intro i s hk hi st hS hR
  have hlt:i < n:=by omega
  refine e8 fR ?_
  rw [eE dY _]
  show ar _ A.in1 (pyNext (.ref I) >>= _) _ _ s
  refine aa (W.item i s _ _ hlt st fun v h1 tk1 pv st1 hm=>?_)
  obtain ⟨t,rfl⟩:=hval i v pv hlt
  have S1:mn P w S (ded (vs.take i)) h1:=hS.keep fun o z=>hm S o hSw z
  show ar _ A.in1 (holding [_] (setAdd S _) >>= _) _ _ _
  unfold setAdd
  refine aa (bL (bL (aa ((strKind P w).pyHash (k:=vs.getD i ⟨#[]⟩) (by show ef _ (.str _ t)=true;simp [ef]) ?_))))
  refine zn0 (s:={ s with heap:=h1,toks:=tk1 + 1 }) S1 (by have:=zdd (vs.take i);rw [dJ] at this;omega) fun b h2 sb S2=>?_
  have e2:zay (ded (vs.take i)) (vs.getD i ⟨#[]⟩)=ded (vs.take (i + 1)):=by
   rw [<- zfN,fU,aS,aw (by omega)];rfl
  rw [e2] at S2
  refine am ⟨iF dY _,ih (i + 1) _ (by omega) hlt (W.frame _ _ _ st1 fun b hb o z=>?_) S2 fun h' tk hk2 S'=>?_⟩
  ·rw [sb.2 b (fun q:b=S=>hSf (by rw [<- q];exact hb))];exact z
  ·refine hR h' tk (fun b o hb z=>hk2 b o hb ?_) S'
   rw [sb.2 b (fun q:b=S=>hb (by rw [q];exact aH))]
   exact hm b o (fun q=>hb (au _ q)) z
end
section
variable {P:aJ} {w:aR} {A:ba} {E:ae->ai->Prop} {s:ai}
abbrev z34 (w:aR):Obj:={ cls:=.type "set",dict:=none,data:=.set #[] 0 (.fresh 0 0 (!byT w)) }
theorem zmC (w:aR) (h:aP):mn P w h.objs.size [] (h.push (z34 w)):=
 ⟨_,#[],0,_,aC _ rfl,⟨rfl,rfl,rfl⟩,rfl,fun e he=>by simp at he,by simp,by simp,by decide,by rfl,fun e=>by show (!byT w)=true;rw [e];rfl,fun e=>absurd rfl e⟩
theorem zdT (v:ae) (h:Q1 (.ref s.heap.objs.size) { s with heap:=s.heap.push (z34 w) }):
  codeAny (ay P w) A (.call (.builtin "set.__new__") ⟨[.type "set",v],[]⟩) (wants Q1 E) s:=by
 refine gL ?_
 show ar _ A.in1 (do checkBuiltinCall "set.__new__" ⟨[.type "set",v],[]⟩;again (.builtin "set.__new__" ⟨[.type "set",v],[]⟩)) _ _ s
 refine aa (jr (F.newCall_set_1 v) (am ⟨iF F.plain_set_new _,e8 F.entry_set_new ?_⟩))
 rw [eE F.plain_set_new _]
 unfold cA.«set.__new__» lN
 have hsub:=sub_set_self
 obtain ⟨hp,g,d,tk,os⟩:=s
 dsimp only
 wp_walk
 refine dL (am ?_)
 dsimp only
 simp only [newObj]
 exact aa (wpAny_alloc (am (am h)))
def ZK.ty:ZK->String
 | .tup _ _ => "tuple"
 | .str _ _ => "str"
 | .lst _ _ => "list"
theorem zl2:isSubtype (.type "tuple") (.type "set")=pure false:=by rw [h9];kernel_rfl
theorem zjN:isSubtype (.type "tuple") (.type "frozenset")=pure false:=by rw [h9];kernel_rfl
theorem ZK.typ (q:ZK) (h:q.pre s.heap) (hn:∀ x t,q ≠ .str x t):∃ ob a,q.val=.ref a/\s.heap.get? a=some ob/\ob.cls=.type q.ty:=by
 cases q with
 | tup t items=>obtain ⟨o,e,c,_⟩:=h;exact ⟨o,t,rfl,e,c⟩
 | str x t=>exact absurd rfl (hn x t)
 | lst l items=>obtain ⟨o,e,c,_⟩:=h;exact ⟨o,l,rfl,e,c⟩
def ZK.vals:ZK->Array ae
 | .tup _ its=>its
 | .str _ _=>#[]
 | .lst _ its=>its
theorem ZK.walks (q:ZK) (hh:A.handled=none) (hn:∀ x t,q ≠ .str x t) (I:af) (hp:q.pre h) (hI:h.get? I=some q.obj) (hne:q.val ≠ .ref I):
  ∃ ax St,q.val=.ref ax/\Walks P w A I [I,ax] [I] q.vals.size (fun i v=>q.vals[i]?=some v) St/\St 0 h:=by
 cases q with
 | tup t items=>exact ⟨t,_,rfl,Walks.tuple hh I t (fun e=>hne (by rw [e];rfl)) items,⟨_,hI,rfl,rfl⟩,hp⟩
 | str x t=>exact absurd rfl (hn x t)
 | lst l items=>exact ⟨l,_,rfl,lB hh I l (fun e=>hne (by rw [e];rfl)) items,⟨_,hI,rfl,rfl⟩,hp⟩
set_option maxHeartbeats 4000000 in
theorem zcT (q:ZK) (hh:A.handled=none) (hp:q.pre s.heap) (hn:∀ x t,q ≠ .str x t) (vs:List Str) (hl:vs.length=q.vals.size) (hv:∀ i (v:ae),q.vals[i]?=some v->∃ t:Tok,v=ik (vs.getD i ⟨#[]⟩) t) (hb:vs.length + 1 < scanBound)
  (h:∀ h' tk,mn P w s.heap.objs.size (ded vs) h'->(∀ b o,b < s.heap.objs.size->s.heap.get? b=some o->h'.get? b=some o)->Q (.ref s.heap.objs.size) { s with heap:=h',toks:=tk }):
  ar (ay P w) A (call (.type "set") [q.val]) Q E s:=by
 obtain ⟨c,tl,hmro⟩:=eJ.mro
 have hmade:=eJ.made
 have hsub:=eJ.sub
 obtain ⟨ob,l,el,hol,hcl⟩:=q.typ hp hn
 rw [el]
 refine gH (gL ?_)
 show ar _ _ (callAny (.type "set") _) _ _ _
 refine am ⟨Code.quiet_builtin _ (by decide +kernel),e8 F.entry_type_call ?_⟩
 rw [Around.under_plain (weight_type_call_type "set" [.ref l] []) rfl]
 have h1:=eJ.notType
 have h2:=eJ.canCreate
 have hct:=F.typeCall_set_1 (.ref l)
 repeat (any_goals (first|assumption|wp_step))
 refine dU (zdT (.ref l) (E:=E) (Q1:=fun obj s1=>obj=.ref s.heap.objs.size/\s1={ s with heap:=s.heap.push (z34 w) }) ⟨rfl,rfl⟩) fun r s1 hr=>?_
 cases r with
 | error e=>exact hr
 | ok fl=>
  cases fl with
  | ret obj=>
   obtain ⟨rfl,rfl⟩:=hr
   have hS:(s.heap.push (z34 w)).get? s.heap.objs.size=some (z34 w):=aC _ rfl
   have hT:lO { s with heap:=s.heap.push (z34 w) } (.ref s.heap.objs.size) "set":=⟨_,hS,rfl⟩
   have hli:=eJ.init.lookup
   have hbi:=eJ.init.bind (.ref s.heap.objs.size)
   repeat (any_goals (first|assumption|wp_step))
   refine dU (jS (R:=wants (fun r s2=>r=.none/\∃ h' tk,s2={ s with heap:=h',toks:=tk }/\mn P w s.heap.objs.size (ded vs) h'/\(∀ b o,b < s.heap.objs.size->s.heap.get? b=some o->h'.get? b=some o)) E) eJ.init.plain F.entry_set_init (check_set_init_1 hT ?_)) fun r2 s2 hr2=>?_
   ·obtain ⟨ocls,odict,odata,oslots⟩:=ob
    have hcl:ocls=.type q.ty:=hcl
    subst hcl
    have hol':(s.heap.push (z34 w)).get? l=some { cls:=.type q.ty,dict:=odict,data:=odata,slots:=oslots }:=ah _ hol
    have hp1:q.pre (s.heap.push (z34 w)):=q.keep (fun b o e=>ah _ e) hp
    have hlS:l < s.heap.objs.size:=aF hol
    have i1:∀ {B:ba} {E':ae->ai->Prop} {Q':ae->ai->Prop} {tk:Nat},Q' (.ref (s.heap.push (z34 w)).objs.size) { s with heap:=(s.heap.push (z34 w)).push q.obj,toks:=tk }->ar (ay P w) B (pyIter (.ref l)) Q' E' { s with heap:=s.heap.push (z34 w),toks:=tk }:=fun {B E' Q' tk} hq=>by
     rw [<- el];exact q.iter (s:={ s with heap:=s.heap.push (z34 w),toks:=tk }) hp1 hq
    have hs1:isSubtype (.type q.ty) (.type "set")=pure false:=by
     cases q with
     | tup _ _=>exact zl2
     | str x t=>exact absurd rfl (hn x t)
     | lst _ _=>exact F.sub_list_set
    have hs2:isSubtype (.type q.ty) (.type "frozenset")=pure false:=by
     cases q with
     | tup _ _=>exact zjN
     | str x t=>exact absurd rfl (hn x t)
     | lst _ _=>exact F.sub_list_frozenset
    have hnd:(iN q.ty == iN "dict")=false:=by cases q <;> rfl
    unfold cA.«set.__init__» noKeywords lH
    generalize hPI:pyIter=PI
    wp_walk
    subst hPI
    refine i1 ?_
    refine aa (wpAny_runValue ?_)
    have hh3:A.in1.in1.in1.handled=none:=by simp [hh]
    have hsz:(s.heap.push (z34 w)).objs.size=s.heap.objs.size + 1:=bQ ..
    have fo:q.obj.isFreed=false:=by cases q <;> rfl
    obtain ⟨ax,St,ea,W,st0⟩:=q.walks (P:=P) (w:=w) (A:=A.in1.in1.in1) hh3 hn (s.heap.push (z34 w)).objs.size (h:=(s.heap.push (z34 w)).push q.obj) (q.keep (fun b o e=>ah _ e) hp1) (aC _ fo) (by rw [el,hsz];intro e;injection e with e;exact absurd hlS (by rw [e];exact iR.mpr (dQ _)))
    have eax:ax=l:=by rw [el] at ea;injection ea with ea;exact ea.symm
    subst eax
    refine zn1 W s.heap.objs.size (by
      rw [hsz]
      simp only [av,aM,or_false,not_or]
      exact ⟨aX (ci _),cM hlS⟩) vs hl (fun i v e _=>hv i v e) (by rw [<- hl];exact hb) (q.vals.size - 0) 0 _ (by omega) (bW _) st0 ?_ fun h' tk hk S'=>?_
    ·exact (zmC (P:=P) w s.heap).keep fun o e=>ah _ e
    ·refine am (am ⟨rfl,h',tk,rfl,S',fun b o hb e=>hk b o ?_ (ah _ (ah _ e))⟩)
     rw [hsz]
     simp only [av,aM,or_false,not_or]
     exact ⟨aX hb,aX (cy hb)⟩
   ·cases r2 with
    | error e=>exact hr2
    | ok fl2=>
     cases fl2 with
     | ret r=>
      obtain ⟨rfl,h',tk,rfl,S',hk⟩:=hr2
      repeat (any_goals (first|assumption|wp_step))
      exact h _ _ S' hk
     | _=>exact hr2.elim
  | _=>exact hr.elim
end
theorem zg3:Manifest.owners.lookup (String.ofList ['r','o','t','a','r','e','t','i','_','t','e','s'].reverse)=some Manifest.sig_set_iterator:=by kernel_rfl
theorem mB:Slot "set_iterator" "__next__" "set_iterator.__next__":=Slot.of (owner := "set_iterator") (n := "__next__") (by rw [typeLookup_type,jI];kernel_rfl) (by decide +kernel) (by decide +kernel) (by decide +kernel) (by first|exact .inl (by decide +kernel)|exact .inr (by decide +kernel)) (by rw [h9];kernel_rfl)
theorem zdz:Slot "set_iterator" "__iter__" "set_iterator.__iter__":=Slot.of (owner := "set_iterator") (n := "__iter__") (by rw [typeLookup_type,jI];kernel_rfl) (by decide +kernel) (by decide +kernel) (by decide +kernel) (by first|exact .inl (by decide +kernel)|exact .inr (by decide +kernel)) (by rw [h9];kernel_rfl)
theorem zey:entryFor table "set_iterator.__next__" = some cA.«set_iterator.__next__»:=entryFor_of_tree (by kernel_rfl)
theorem zhE (a:ae):argsOk "set_iterator.__next__" ⟨[a],[]⟩:=by
 unfold argsOk
 rw [signature?_of (id := "set_iterator.__next__") (n:=['_','_','t','x','e','n','_','_']) (o:=['r','o','t','a','r','e','t','i','_','t','e','s']) (by kernel_rfl) zg3]
 kernel_rfl
theorem zir (a:ae):argsOk "set_iterator.__iter__" ⟨[a],[]⟩:=by
 unfold argsOk
 rw [signature?_of (id := "set_iterator.__iter__") (n:=['_','_','r','e','t','i','_','_']) (o:=['r','o','t','a','r','e','t','i','_','t','e','s']) (by kernel_rfl) zg3]
 kernel_rfl
theorem zf4:entryFor table "set.__iter__" = some cA.«frozenset.__iter__»:=entryFor_alias (id' := "frozenset.__iter__") (by kernel_rfl) rfl (by decide +kernel) (by kernel_rfl)
theorem zeI:entryFor table "set_iterator.__iter__" = some cA.«dict_keyiterator.__iter__»:=entryFor_alias (id' := "dict_keyiterator.__iter__") (by kernel_rfl) rfl (by decide +kernel) (by kernel_rfl)
theorem z3v {α:Type} {l:List α} {i:Nat} {x:α} (h:l[i]?=some x):(x :: l.eraseIdx i).Perm l:=by
 obtain ⟨hi,e⟩:=ao.mp h
 have q:l.take i ++ x :: l.drop (i + 1)=l:=by rw [<- e,List.getElem_cons_drop hi,jJ]
 rw [List.eraseIdx_eq_take_drop_succ]
 exact List.perm_middle.symm.trans (by rw [q])
theorem z97 {α:Type} (next:Nat->Nat):∀ (fuel k:Nat) (left:List α) (out:Array α),left.length=fuel->(kJ next fuel k left out).toList.Perm (out.toList ++ left)
 | 0,k,left,out,h=>by
  have:left=[]:=de.mp h
  subst this
  unfold kJ
  simp
 | fuel + 1,k,left,out,h=>by
  unfold kJ
  have hl:next k % left.length < left.length:=Nat.mod_lt _ (by omega)
  rw [aw hl]
  dsimp only
  have e:=fA hl
  refine (z97 next fuel (k + 1) _ _ (by rw [e];omega)).trans ?_
  rw [kZ,f8]
  exact List.Perm.append_left _ (z3v (aw hl))
theorem z2A {α:Type} (next:Nat->Nat) (xs:Array α):(pickOrder next xs).toList.Perm xs.toList:=by
 unfold pickOrder
 have:=z97 next xs.size 0 xs.toList #[] (by simp)
 simpa using this
section
variable {P:aJ} {w:aR} {A:ba} {E:ae->ai->Prop} {s:ai} {a:af}
theorem zgC {src:Source} {n:Nat} {Q:Nat->ai->Prop} (hn:n ≠ 0) (h:∀ i d,i < n->Q i { s with drawn:=d }):ar (ay P w) A (choose src n) Q E s:=
 fun Γ p _=>⟨hn,h _ _ (Nat.mod_lt _ (Nat.pos_of_ne_zero hn))⟩
theorem zj8 {α:Type}:∀ (n:Nat) (xs:List α) (s:ai) (Q:List α->ai->Prop),xs.length=n->(∀ ys d,ys.Perm xs->Q ys { s with drawn:=d })->ar (ay P w) A (drawOrder n xs) Q E s
 | 0,xs,s,Q,h,hq=>by
  have:xs=[]:=de.mp h
  subst this
  unfold drawOrder
  exact am (by have:=hq [] s.drawn (jK _);cases s;exact this)
 | n + 1,[],s,Q,h,hq=>by simp at h
 | n + 1,x :: xs,s,Q,h,hq=>by
  unfold drawOrder
  refine aa (zgC (by simp) fun i d hi=>?_)
  rw [aw hi]
  refine aa (zj8 n _ _ _ (by rw [fA hi];simpa using h) fun ys d' hp=>am ?_)
  exact hq _ d' ((List.Perm.cons _ hp).trans (z3v (aw hi)))
abbrev itO (first:ae) (i:Nat) (a:af) (n ep:Nat):Obj:={ cls:=.type "set_iterator",data:=.fields #[first,bj i,.ref a,bj n,bj ep] }
theorem zkM (hT:s.TypeIs (.ref I) "set_iterator") (h:ar (ay P w) A.in1 (cA.«set_iterator.__next__» ⟨[.ref I],[]⟩) (fun f s'=>∃ v,f=.done (.ret v)/\Q (some v) s') (fun e s'=>∃ o,e=.ref o/\(∃ ob,s'.heap.get? o=some ob/\ob.cls=.type "StopIteration")/\Q none s') s):
  ar (ay P w) A (pyNext (.ref I)) Q E s:=by
 unfold pyNext
 refine aa (eR (bB (name := "__next__") hT mB (bF mB hT zey ?_ (zhE _))))
 refine c7 h (fun f s' hf=>?_) fun e s' he=>?_
 ·obtain ⟨v,rfl,q⟩:=hf
  exact ⟨v,rfl,am q⟩
 ·obtain ⟨o,rfl,⟨ob,ho,hc⟩,q⟩:=he
  exact aa (gu (T := "StopIteration") (b:=true) ⟨ob,ho,hc⟩ jF (am q))
end
section
variable {P:aJ} {w:aR} {A:ba} {E:ae->ai->Prop} {s:ai} {a:af} {o:Obj} {es:Array (Int × ae)} {ep:Nat} {t:i6}
theorem z93 {α:Type} {Q:α->ai->Prop} (hh:A.handled=none) (h:∀ h' e,(∀ b o,s.heap.get? b=some o->h'.get? b=some o)->(∃ o,h'.get? e=some o/\o.cls=.type "StopIteration")->E (.ref e) { s with heap:=h' }):
  ar (ay P w) A (newExc (.type "StopIteration") [] >>= fun e=>(raiseNew e:Sem α)) Q E s:=by
 refine aa ?_
 simp only [newExc,newTuple]
 refine aa (bn (?_) (by size_fits))
 refine aa (m:=firstArgMember _ _) (jr (a:=.none) (by first|rfl|(simp only [firstArgMember];rfl)) (bn ?_ (by size_fits)))
 simp only [raiseNew]
 refine aa (wpAny_handled ?_);rw [hh]
 refine aa (am (wpAny_throw (h _ _ (fun b o e=>ah _ (ah _ e)) ⟨_,aC _ rfl,rfl⟩)))
theorem zfT (ho:s.heap.get? a=some o) (hd:o.data=.set es ep t) (hf:t.fits es.size=true) (hb:byT w=true) (h:Q (((pickOrder (w.params.setOrder a ep) es)[i]?).map fun e=>(e.2,sl)) s):
  ar (ay P w) A (setNext a sl i ep) Q E s:=by
 have hb':(ay P w).w.params.followText "set-order" = true:=hb
 unfold setNext setsByText
 refine aa (ez ho hd hf ?_)
 dsimp only
 refine aa (aa (dL (am ?_)))
 rw [hb',if_pos rfl,if_neg (by simp)]
 refine aa ?_
 unfold setWalk setsByText
 refine aa (ez ho hd hf ?_)
 dsimp only
 refine aa (aa (dL (am ?_)))
 rw [hb',if_pos rfl]
 exact aa (dL (am (am h)))
theorem zcN (ho:s.heap.get? a=some o) (hd:o.data=.set es ep t) (hf:t.fits es.size=true) (hb:byT w=false) (hs:es.size <= 1) (hl:t.led=true)
  (h:Q (match es[dP t.place sl]?,t.place[dP t.place sl]? with|some (_,x),some j=>some (x,j + 1)|_,_=>none) s):
  ar (ay P w) A (setNext a sl i ep) Q E s:=by
 have hb':(ay P w).w.params.followText "set-order" = false:=hb
 unfold setNext setsByText
 refine aa (ez ho hd hf ?_)
 dsimp only
 refine aa (aa (dL (am ?_)))
 rw [hb',if_neg (by simp)]
 show ar _ _ (if (!t.plain && decide (es.size > 1))=true then _ else _) _ _ _
 have h1:(!t.plain && decide (es.size > 1))=false:=by
  rw [decide_eq_false (by omega)];simp
 rw [h1,if_neg (by simp)]
 refine aa ?_
 show ar _ _ (if (!t.led && !es.isEmpty)=true then _ else _) _ _ _
 rw [hl,if_neg (by simp)]
 exact am (am h)
theorem zcG (ho:s.heap.get? a=some o) (hd:o.data=.set es ep t) (hf:t.fits es.size=true) (hx:es[pl]?=some x) (h:Q x.2 s):
  ar (ay P w) A (setNextDrawn a pl ep) Q E s:=by
 unfold setNextDrawn
 refine aa (ez ho hd hf ?_)
 dsimp only
 rw [if_neg (by simp),hx]
 exact am h
theorem zie (ho:s.heap.get? a=some o) (hd:o.data=.set es ep t) (hf:t.fits es.size=true) (hpl:es.size ≠ 0->t.plain=false) (h:Q (!byT w && decide (es.size > 1)) s):ar (ay P w) A (setDrawn a) Q E s:=by
 unfold setDrawn setsByText
 refine aa (ez ho hd hf ?_)
 dsimp only
 refine aa (aa (dL (am (am ?_))))
 have e:(!t.plain && decide (es.size > 1))=decide (es.size > 1):=by
  by_cases q:es.size > 1
  ·rw [hpl (by omega),decide_eq_true q];rfl
  ·rw [decide_eq_false q];simp
 show Q (!byT w && (!t.plain && decide (es.size > 1))) s
 rw [e];exact h
theorem zfd {I:af} {sl i:Nat} {R:Option (ae × Nat)} {Q:Option ae->ai->Prop} (ho:s.heap.get? a=some o) (hd:o.data=.set es ep t) (hf:t.fits es.size=true) (hI:s.heap.get? I=some (itO (bj sl) i a es.size ep)) (hne:a ≠ I) (hh:A.handled=none)
  (hn:∀ (B:ba) (Q':Option (ae × Nat)->ai->Prop) (E':ae->ai->Prop),Q' R s->ar (ay P w) B (setNext a sl i ep) Q' E' s)
  (hq:∀ v j,R=some (v,j)->∀ h',cr I s.heap h'->h'.get? I=some (itO (bj j) (i + 1) a es.size ep)->Q (some v) { s with heap:=h' })
  (hz:R=none->∀ h',ig I s.heap h'->Q none { s with heap:=h' }):ar (ay P w) A (pyNext (.ref I)) Q E s:=by
 refine zkM ⟨_,hI,rfl⟩ ?_
 unfold cA.«set_iterator.__next__» slotArgs
 dsimp only
 rw [if_neg (by simp),if_neg (by simp)]
 refine aa (am (aa (wpAny_fieldsOf hI rfl ?_)))
 show ar _ _ (setEntries a >>= _) _ _ _
 refine aa (gZ ho hd hf ?_)
 rw [if_neg (by simp)]
 show ar _ _ (setNext a sl i ep >>= _) _ _ _
 refine aa (hn _ _ _ ?_)
 obtain ⟨hp,g,d,tk,os⟩:=s
 cases hR:R with
 | some p=>
  obtain ⟨v,j⟩:=p
  dsimp only
  refine aa (br hI (by simp) fun h1 e1 s1=>?_)
  refine aa (br e1 (by simp) fun h2 e2 s2=>?_)
  exact am ⟨v,rfl,hq v j hR h2 (s1.trans s2) e2⟩
 | none=>
  dsimp only
  refine aa (br hI (by simp) fun h1 e1 s1=>?_)
  refine z93 (by simpa using hh) fun h' e he hc=>⟨e,rfl,hc,hz hR h' fun b ob hb z=>he b ob (s1.extBut b ob hb z)⟩
theorem zk7 {I tt:af} {i:Nat} {first:ae} {ps:List Nat} {Q:Option ae->ai->Prop} (ho:s.heap.get? a=some o) (hd:o.data=.set es ep t) (hf:t.fits es.size=true) (hI:s.heap.get? I=some (itO (.ref tt) i a es.size ep)) (ht:s.heap.get? tt=some { cls:=.type "tuple",data:=.seq (ps.map fun (j:Nat)=>bj (j:Int)).toArray }) (hh:A.handled=none)
  (hq:∀ j x,ps[i]?=some j->es[j]?=some x->∀ h',cr I s.heap h'->h'.get? I=some (itO (.ref tt) (i + 1) a es.size ep)->Q (some x.2) { s with heap:=h' }) (hin:∀ j,ps[i]?=some j->j < es.size)
  (hz:ps[i]?=none->∀ h',ig I s.heap h'->Q none { s with heap:=h' }):ar (ay P w) A (pyNext (.ref I)) Q E s:=by
 refine zkM ⟨_,hI,rfl⟩ ?_
 unfold cA.«set_iterator.__next__» slotArgs
 dsimp only
 rw [if_neg (by simp),if_neg (by simp)]
 refine aa (am (aa (wpAny_fieldsOf hI rfl ?_)))
 show ar _ _ (setEntries a >>= _) _ _ _
 refine aa (gZ ho hd hf ?_)
 rw [if_neg (by simp)]
 show ar _ _ (seqItems? (.ref tt) >>= _) _ _ _
 refine aa (dr ht rfl ?_)
 obtain ⟨hp,g,d,tk,os⟩:=s
 have e0:((ps.map fun (j:Nat)=>bj (j:Int)).toArray)[((i:Int)).toNat]?=(ps[i]?).map fun (j:Nat)=>bj (j:Int):=by
  rw [eu,gz,bc]
 dsimp only
 rw [e0]
 cases hR:ps[i]? with
 | some j=>
  have hj:=hin j hR
  dsimp only [eZ,bj]
  refine aa (zcG (pl:=j) (x:=es[j]) ho hd hf (aV hj) ?_)
  refine aa (br hI (by simp) fun h1 e1 s1=>?_)
  exact am ⟨_,rfl,hq j _ hR (aV hj) h1 s1 e1⟩
 | none=>
  dsimp only [Option.map_none]
  refine aa (br hI (by simp) fun h1 e1 s1=>?_)
  refine aa (br e1 (by simp) fun h2 e2 s2=>?_)
  refine z93 (by simpa using hh) fun h' e he hc=>⟨e,rfl,hc,hz hR h' fun b ob hb z=>he b ob (s2.extBut b ob hb (s1.extBut b ob hb z))⟩
end
section
variable {P:aJ} {w:aR} {A:ba} {E:ae->ai->Prop} {s:ai} {a:af} {o:Obj} {es:Array (Int × ae)} {ep:Nat} {t:i6} {I tt:af}
abbrev PvS (os:List Str):Nat->ae->Prop:=fun i v=>∃ tk:Tok,v=.str (os.getD i ⟨#[]⟩) tk
theorem zgH (h:∃ ob,s.heap.get? I=some ob/\ob.cls=.type "set_iterator") (q:Q (.ref I) s):ar (ay P w) A (pyIter (.ref I)) Q E s:=by
 have ht:s.TypeIs (.ref I) "set_iterator":=h
 refine iL ht zdz (bF zdz ht zeI ?_ (zir _))
 unfold cA.«dict_keyiterator.__iter__»
 obtain ⟨hp,g,d,tk,os⟩:=s
 wp_walk
 exact ⟨_,rfl, "set_iterator",_,ht,mB.lookup,q⟩
theorem zdp (hel:gA (strKind P w) l) (h:l[i]?=some e):PvS (l.map z6M) i e.2:=by
 obtain ⟨tk,ht⟩:=z7X hel (aW h)
 refine ⟨tk,?_⟩
 rw [aS,bc,h]
 exact ht
theorem zif (hd:o.data=.set es ep t) (hf:t.fits es.size=true) (hel:gA (strKind P w) es.toList) (hb:byT w=true) (hh:A.handled=none) (hne:a ≠ I):
  Walks P w A I [I,a] [I] es.size (PvS ((pickOrder (w.params.setOrder a ep) es).toList.map z6M)) (fun i h=>(∃ sl:Nat,h.get? I=some (itO (bj sl) i a es.size ep))/\h.get? a=some o) where
 sub:=fun b hb=>by simp at hb;simp [hb]
 frame:=fun i h h' st hk=>⟨let ⟨sl,e⟩:=st.1;⟨sl,hk I (by simp) _ e⟩,hk a (by simp) _ st.2⟩
 item:=fun i s Q E hi st hq=>by
  obtain ⟨⟨sl,hI⟩,ho⟩:=st
  have hpm:=z2A (w.params.setOrder a ep) es
  have hsz:(pickOrder (w.params.setOrder a ep) es).size=es.size:=by rw [<- ck,hpm.length_eq,ck]
  have hi':i < (pickOrder (w.params.setOrder a ep) es).size:=by omega
  refine zfd (R:=some ((pickOrder (w.params.setOrder a ep) es)[i].2,sl)) ho hd hf hI hne hh (fun B Q' E' h=>zfT ho hd hf hb (by rw [aV hi'];exact h)) (fun v j e h' sb e'=>?_) fun e=>by cases e
  cases e
  refine hq _ h' s.toks (zdp (hel.perm hpm) (by rw [dm];exact aV hi')) ⟨⟨_,e'⟩,?_⟩ fun b ob hb z=>?_
  ·rw [sb.2 a hne];exact ho
  ·rw [sb.2 b (by simpa using hb)];exact z
 done:=fun s Q E st hq=>by
  obtain ⟨⟨sl,hI⟩,ho⟩:=st
  have hpm:=z2A (w.params.setOrder a ep) es
  have hsz:(pickOrder (w.params.setOrder a ep) es).size=es.size:=by rw [<- ck,hpm.length_eq,ck]
  refine zfd (R:=none) ho hd hf hI hne hh (fun B Q' E' h=>zfT ho hd hf hb (by rw [ju (by omega)];exact h)) (fun v j e=>by cases e) fun _ h' eb=>hq h' s.toks fun b ob hb z=>eb b ob (by simpa using hb) z
 self:=fun i s Q E st hq=>zgH (let ⟨⟨sl,e⟩,_⟩:=st;⟨_,e,rfl⟩) hq
theorem zij (hd:o.data=.set es ep t) (hf:t.fits es.size=true) (hel:gA (strKind P w) es.toList) (hh:A.handled=none) (hne:a ≠ I) (hnt:tt ≠ I) {ps:List Nat} (hps:ps.Perm (aU es.size)):
  Walks P w A I [I,a,tt] [I] es.size (PvS ((ps.filterMap fun j=>es[j]?).map z6M)) (fun i h=>h.get? I=some (itO (.ref tt) i a es.size ep)/\h.get? a=some o/\h.get? tt=some { cls:=.type "tuple",data:=.seq (ps.map fun (j:Nat)=>bj (j:Int)).toArray }) where
 sub:=fun b hb=>by simp at hb;simp [hb]
 frame:=fun i h h' st hk=>⟨hk I (by simp) _ st.1,hk a (by simp) _ st.2.1,hk tt (by simp) _ st.2.2⟩
 item:=fun i s Q E hi st hq=>by
  obtain ⟨hI,ho,ht⟩:=st
  have hlen:ps.length=es.size:=by rw [hps.length_eq];simp
  have hin:∀ j ∈ ps,j < es.size:=fun j hj=>bv.mp (hps.mem_iff.mp hj)
  refine zk7 (first:=.ref tt) ho hd hf hI ht hh (fun j x e1 e2 h' sb e'=>?_) (fun j e=>hin j (aW e)) fun e=>absurd (aQ.mp e) (by omega)
  have hfm:∀ (l:List Nat),(∀ j ∈ l,j < es.size)->(l.filterMap fun j=>es[j]?)=l.map fun j=>es.getD j default:=by
   intro l
   induction l with
   | nil=>intro _;rfl
   | cons q l ih=>
    intro h
    have hq':=h q aH
    rw [cT,aV hq',ih fun j hj=>h j (au _ hj),bM]
    simp [Array.getD,hq']
  have hx:(ps.filterMap fun j=>es[j]?)[i]?=some x:=by
   rw [hfm ps hin,bc,e1]
   have hj:=hin j (aW e1)
   rw [aV hj] at e2
   have:es[j]=x:=bN e2
   simp [Array.getD,hj,this]
  have hel':gA (strKind P w) (ps.filterMap fun j=>es[j]?):=fun e he=>by
   obtain ⟨j,_,hj⟩:=im.mp he
   exact hel e (by rw [<- dm] at hj;exact aW hj)
  refine hq _ h' s.toks (zdp hel' hx) ⟨e',?_,?_⟩ fun b ob hb z=>?_
  ·rw [sb.2 a hne];exact ho
  ·rw [sb.2 tt hnt];exact ht
  ·rw [sb.2 b (by simpa using hb)];exact z
 done:=fun s Q E st hq=>by
  obtain ⟨hI,ho,ht⟩:=st
  have hlen:ps.length=es.size:=by rw [hps.length_eq];simp
  have hn:ps[es.size]?=none:=aQ.mpr (by omega)
  exact zk7 (first:=.ref tt) ho hd hf hI ht hh (fun j x e1=>by rw [hn] at e1;cases e1) (fun j e=>by rw [hn] at e;cases e) fun _ h' eb=>hq h' s.toks fun b ob hb z=>eb b ob (by simpa using hb) z
 self:=fun i s Q E st hq=>zgH ⟨_,st.1,rfl⟩ hq
theorem ziw (xs:Array Nat) (h:xs.size <= 1):dP xs 0=0:=by
 unfold dP
 have:xs.size=0 \/ xs.size=1:=by omega
 rcases this with e|e
 ·rw [e];rfl
 ·rw [e]
  unfold f9
  rw [if_pos (by omega)]
  dsimp only
  rw [if_neg (by simp)]
  unfold f9
  rfl
theorem zhL (xs:Array Nat) (p:Nat) (h:xs.size=1) (hp:xs[0]?=some p):dP xs (p + 1)=1:=by
 unfold dP
 rw [h]
 unfold f9
 rw [if_pos (by omega)]
 dsimp only
 have e:xs.getD ((0 + 1) / 2) (p + 1)=p:=by
  show xs.getD 0 (p + 1)=p
  rw [Array.getD_eq_getD_getElem?,hp];rfl
 rw [e,if_pos (by omega)]
 unfold f9
 rfl
theorem zf8 (hd:o.data=.set es ep t) (hf:t.fits es.size=true) (hel:gA (strKind P w) es.toList) (hb:byT w=false) (hs:es.size <= 1) (hl:t.led=true) (hh:A.handled=none) (hne:a ≠ I):
  Walks P w A I [I,a] [I] es.size (PvS (es.toList.map z6M)) (fun i h=>(∃ sl:Nat,h.get? I=some (itO (bj sl) i a es.size ep)/\dP t.place sl=i)/\h.get? a=some o) where
 sub:=fun b hb=>by simp at hb;simp [hb]
 frame:=fun i h h' st hk=>⟨let ⟨sl,e,q⟩:=st.1;⟨sl,hk I (by simp) _ e,q⟩,hk a (by simp) _ st.2⟩
 item:=fun i s Q E hi st hq=>by
  obtain ⟨⟨sl,hI,hbl⟩,ho⟩:=st
  have hpz:t.place.size=es.size:=by simp only [lP,bh,beq_iff_eq] at hf;exact hf.1
  have h1:es.size=1:=by omega
  have h0:i=0:=by omega
  subst h0
  have hp1:t.place.size=1:=by omega
  refine zfd (R:=some (es[0].2,t.place[0] + 1)) ho hd hf hI hne hh (fun B Q' E' h=>zcN ho hd hf hb hs hl (by rw [hbl,aV hi,aV (by omega)];exact h)) (fun v j e h' sb e'=>?_) fun e=>by cases e
  cases e
  refine hq _ h' s.toks (zdp hel (by rw [dm];exact aV hi)) ⟨⟨_,e',zhL _ _ hp1 (aV _)⟩,?_⟩ fun b ob hb z=>?_
  ·rw [sb.2 a hne];exact ho
  ·rw [sb.2 b (by simpa using hb)];exact z
 done:=fun s Q E st hq=>by
  obtain ⟨⟨sl,hI,hbl⟩,ho⟩:=st
  refine zfd (R:=none) ho hd hf hI hne hh (fun B Q' E' h=>zcN ho hd hf hb hs hl (by rw [hbl,ju (aB _)];exact h)) (fun v j e=>by cases e) fun _ h' eb=>hq h' s.toks fun b ob hb z=>eb b ob (by simpa using hb) z
 self:=fun i s Q E st hq=>zgH (let ⟨⟨sl,e,_⟩,_⟩:=st;⟨_,e,rfl⟩) hq
end
section
variable {P:aJ} {w:aR} {A:ba} {E:ae->ai->Prop} {s:ai} {a:af} {ks:List Str}
theorem zgf (es:Array (Int × ae)):∀ (l:List Nat),(∀ j ∈ l,j < es.size)->(l.filterMap fun j=>es[j]?).length=l.length
 | [],_=>rfl
 | q :: l,h=>by
  rw [cT,aV (h q aH)]
  show (_ :: _).length=_
  rw [bX,bX,zgf es l fun j hj=>h j (au _ hj)]
structure ItX (P:aJ) (w:aR) (a:af) (ks:List Str) (s:ai) (I:af) (s1:ai):Prop where
 ex:∃ (os:List Str) (fp:List af) (St:Nat->aP->Prop),os.Perm ks/\I ∈ fp/\(∀ b ∈ fp,b < s1.heap.objs.size)/\(∀ b ∈ fp,b=a \/ s.heap.objs.size <= b)/\(∀ B:ba,B.handled=none->Walks P w B I fp [I] os.length (PvS os) St)/\St 0 s1.heap
 keep:∀ b o,s.heap.get? b=some o->s1.heap.get? b=some o
 ty:∃ ob,s1.heap.get? I=some ob/\ob.cls=.type "set_iterator"
 new:s.heap.objs.size <= I
 gens:s1.gens=s.gens
 os:s1.os=s.os
theorem zlY (hS:mn P w a ks s.heap) (h:∀ I s1,ItX P w a ks s I s1->Q (.ref I) s1):ar (ay P w) A (pyIter (.ref a)) Q E s:=by
 obtain ⟨o,es,ep,t,ho,hx,hd,hel,hp,hn,hb,hf,hl,hpl⟩:=hS
 have hT:s.TypeIs (.ref a) "set":=⟨o,ho,hx.1⟩
 have hsz:es.size=ks.length:=by rw [<- hp.length_eq];simp
 have halt:a < s.heap.objs.size:=aF ho
 refine iL hT F.slot_set_iter (bF F.slot_set_iter hT zf4 ?_ (F.args_set_iter_1 _))
 unfold cA.«frozenset.__iter__» lV slotArgs
 simp only [List.isEmpty_nil,lQ,cH,↓reduceIte,bind_assoc,fF,bne_self_eq_false]
 unfold lT lU
 refine aa (am (aa (am (aa (aa (gZ ho hd hf (am ?_)))))))
 refine aa (zie ho hd hf hpl ?_)
 have fin:∀ (first:ae) (h1:aP) (d:Drawn),(∀ b ob,s.heap.get? b=some ob->h1.get? b=some ob)->s.heap.objs.size <= h1.objs.size->
   (∃ (os:List Str) (fp:List af) (St:Nat->aP->Prop),os.Perm ks/\h1.objs.size ∈ fp/\(∀ b ∈ fp,b < h1.objs.size + 1)/\(∀ b ∈ fp,b=a \/ s.heap.objs.size <= b)/\(∀ B:ba,B.handled=none->Walks P w B h1.objs.size fp [h1.objs.size] os.length (PvS os) St)/\St 0 (h1.push (itO first 0 a es.size ep)))->
   ar (ay P w) A.in1 (setEpoch a >>= fun e=>newFields "set_iterator" [first,bj 0,.ref a,bj es.size,bj e] >>= fun v=>ret v) (fun f s'=>∃ r,f=.done (.ret r)/\∃ T' r',s'.TypeIs r T'/\typeLookup (.type T') "__next__" = pure (some r')/\Q r s') E { s with heap:=h1,drawn:=d }:=by
  intro first h1 d hk hz ⟨os,fp,St,p1,p2,p3,p6,p4,p5⟩
  refine aa (wpAny_setEpoch_of (hk a o ho) hd hf ?_)
  unfold newFields
  refine aa (bn ?_ (by size_fits))
  have g:(h1.push (itO first 0 a es.size ep)).get? h1.objs.size=some (itO first 0 a es.size ep):=aC _ rfl
  refine am ⟨_,rfl, "set_iterator",_,⟨_,g,rfl⟩,mB.lookup,h _ _ ⟨⟨os,fp,St,p1,p2,fun b hb=>?_,p6,p4,p5⟩,fun b ob e=>ah _ (hk b ob e),⟨_,g,rfl⟩,hz,rfl,rfl⟩⟩
  rw [bQ];exact p3 b hb
 cases hdr:(!byT w && decide (es.size > 1)) with
 | true=>
  rw [if_pos rfl]
  refine aa (zj8 es.size (aU es.size) _ _ (by simp) fun ps d hps=>aa (jE ?_ ?_))
  ·have hsz1:(s.heap.push { cls:=.type "tuple",data:=.seq (ps.map fun (j:Nat)=>bj (j:Int)).toArray }).objs.size=s.heap.objs.size + 1:=bQ ..
   refine fin (.ref s.heap.objs.size) _ d (fun b ob e=>ah _ e) (by rw [hsz1];exact dQ _) ?_
   refine ⟨(ps.filterMap fun j=>es[j]?).map z6M,[(s.heap.push { cls:=.type "tuple",data:=.seq (ps.map fun (j:Nat)=>bj (j:Int)).toArray }).objs.size,a,s.heap.objs.size],(fun i h=>h.get? (s.heap.push { cls:=.type "tuple",data:=.seq (ps.map fun (j:Nat)=>bj (j:Int)).toArray }).objs.size=some (itO (.ref s.heap.objs.size) i a es.size ep)/\h.get? a=some o/\h.get? s.heap.objs.size=some { cls:=.type "tuple",data:=.seq (ps.map fun (j:Nat)=>bj (j:Int)).toArray }),?_,by simp,?_,?_,fun B hB=>?_,aC _ rfl,ah _ (ah _ ho),ah _ (aC _ rfl)⟩
   ·refine (List.Perm.map z6M ?_).trans hp
    have e1:(aU es.size).filterMap (fun j=>es[j]?)=es.toList:=by
     apply k7
     intro i
     have hfm:∀ n,n <= es.size->(aU n).filterMap (fun j=>es[j]?)=es.toList.take n:=by
      intro n
      induction n with
      | zero=>intro _;simp
      | succ n ih=>
       intro hn'
       rw [List.range_succ,List.filterMap_append,ih (by omega),cT,List.filterMap_nil,aV (by omega),fU,dm,aV (by omega)]
       rfl
     rw [hfm es.size (aB _),List.take_of_length_le (by simp)]
    rw [<- e1]
    exact hps.filterMap _
   ·intro b hb
    rw [hsz1] at hb ⊢
    simp only [av,aM,or_false] at hb
    rcases hb with rfl|rfl|rfl
    ·exact ci _
    ·exact cy (cy halt)
    ·exact cy (ci _)
   ·intro b hb
    rw [hsz1] at hb
    simp only [av,aM,or_false] at hb
    rcases hb with rfl|rfl|rfl
    ·exact .inr (dQ _)
    ·exact .inl rfl
    ·exact .inr (aB _)
   ·have hlen:((ps.filterMap fun j=>es[j]?).map z6M).length=es.size:=by
     have e0:=zgf es ps fun j hj=>bv.mp (hps.mem_iff.mp hj)
     rw [az,e0,hps.length_eq];simp
    rw [hlen]
    exact zij hd hf hel hB (by rw [hsz1];exact aX (cy halt)) (by rw [hsz1];exact aX (ci _)) hps
  ·rw [az,hps.length_eq,cR];exact iM hb
 | false=>
  rw [if_neg (by simp)]
  have this:=fin (bj 0) s.heap s.drawn (fun b ob e=>e) (aB _)
  have e0:({ s with heap:=s.heap,drawn:=s.drawn }:ai)=s:=by cases s;rfl
  rw [e0] at this
  refine this ?_
  by_cases hbt:byT w=true
  ·refine ⟨(pickOrder (w.params.setOrder a ep) es).toList.map z6M,[s.heap.objs.size,a],(fun i h=>(∃ sl:Nat,h.get? s.heap.objs.size=some (itO (bj sl) i a es.size ep))/\h.get? a=some o),((z2A _ es).map z6M).trans hp,by simp,?_,?_,fun B hB=>?_,⟨0,aC _ rfl⟩,ah _ ho⟩
   ·intro b hb
    simp only [av,aM,or_false] at hb
    rcases hb with rfl|rfl
    ·exact ci _
    ·exact cy halt
   ·intro b hb
    simp only [av,aM,or_false] at hb
    rcases hb with rfl|rfl
    ·exact .inr (aB _)
    ·exact .inl rfl
   ·have hlen:((pickOrder (w.params.setOrder a ep) es).toList.map z6M).length=es.size:=by rw [az,(z2A _ es).length_eq];simp
    rw [hlen]
    exact zif hd hf hel hbt hB (aX halt)
  ·have hbt:byT w=false:=by simpa using hbt
   have h1:es.size <= 1:=by
    rw [hbt] at hdr
    simp at hdr;exact hdr
   have hpz:t.place.size=es.size:=by simp only [lP,bh,beq_iff_eq] at hf;exact hf.1
   refine ⟨es.toList.map z6M,[s.heap.objs.size,a],(fun i h=>(∃ sl:Nat,h.get? s.heap.objs.size=some (itO (bj sl) i a es.size ep)/\dP t.place sl=i)/\h.get? a=some o),hp,by simp,?_,?_,fun B hB=>?_,⟨0,aC _ rfl,ziw _ (by omega)⟩,ah _ ho⟩
   ·intro b hb
    simp only [av,aM,or_false] at hb
    rcases hb with rfl|rfl
    ·exact ci _
    ·exact cy halt
   ·intro b hb
    simp only [av,aM,or_false] at hb
    rcases hb with rfl|rfl
    ·exact .inr (aB _)
    ·exact .inl rfl
   ·have hlen:(es.toList.map z6M).length=es.size:=by simp
    rw [hlen]
    exact zf8 hd hf hel hbt h1 (hl hbt) hB (aX halt)
end
section
variable {P:aJ} {w:aR} {A:ba} {E:ae->ai->Prop} {s:ai} {a:af} {ks:List Str}
theorem zlw (hT:s.TypeIs (.ref a) "set") (h:Q false s):ar (ay P w) A (iu (.ref a)) Q E s:=by
 unfold iu
 refine aa (wpAny_specialOf hT F.slot_set_len.lookup ?_)
 have hsp:splitId "set.__len__" = some ("set", "__len__"):=by kernel_rfl
 have hss:=sub_set_self
 obtain ⟨hp,g,d,tk,os⟩:=s
 dsimp only
 rw [hsp]
 dsimp only
 refine aa (gu hT hss ?_)
 rw [if_neg (by simp),if_pos (by kernel_rfl)]
 exact aa (fL hT (am h))
theorem z4Z:∀ (os:List Str) (vs:List ae),vs.length=os.length->(∀ j v,vs[j]?=some v->PvS os j v)->eB vs os
 | [],[],_,_=>.nil
 | [],_ :: _,h,_=>by simp at h
 | _ :: _,[],h,_=>by simp at h
 | x :: os,v :: vs,h,q=>by
  obtain ⟨tk,e⟩:=q 0 v rfl
  have e:v=.str x tk:=e
  subst e
  exact .cons x tk (z4Z os vs (by simpa using h) fun j u z=>by
   obtain ⟨t',e'⟩:=q (j + 1) u (by simpa using z)
   exact ⟨t',by simpa [List.getD] using e'⟩)
theorem zfG (hh:A.handled=none) (hS:mn P w a ks s.heap) (hn:ks.length <= 1000)
  (h:∀ (vs:List ae) (os:List Str) s1,os.Perm ks->eB vs os->s.heap.objs.size <= s1.heap.objs.size->(∀ b o,s.heap.get? b=some o->s1.heap.get? b=some o)->s1.gens=s.gens->s1.os=s.os->Q vs s1):
  ar (ay P w) A (collect (.ref a)) Q E s:=by
 obtain ⟨o,es,ep,t,ho,hx,r⟩:=id hS
 have hT:s.TypeIs (.ref a) "set":=⟨o,ho,hx.1⟩
 have halt:a < s.heap.objs.size:=aF ho
 unfold collect
 refine aa (wpAny_runValue (e8 F.entry_proto_collect ?_))
 rw [eE F.plain_proto_collect _]
 show ar _ A.in1 (newList [] >>= fun l=>again (.builtin "list.__iadd__" ⟨[l,.ref a],[]⟩)) _ _ s
 refine aa (bn (am ⟨iF k8 _,e8 F.entry_list_iadd ?_⟩))
 rw [eE k8 _]
 have g0:(s.heap.push { cls:=.type "list",data:=.seq ([]:List ae).toArray }).get? s.heap.objs.size=some { cls:=.type "list",data:=.seq ([]:List ae).toArray }:=aC _ rfl
 have S0:mn P w a ks (s.heap.push { cls:=.type "list",data:=.seq ([]:List ae).toArray }):=hS.keep fun o e=>ah _ e
 have T0:lO { s with heap:=s.heap.push { cls:=.type "list",data:=.seq ([]:List ae).toArray } } (.ref a) "set":=⟨o,ah _ ho,hx.1⟩
 show ar _ A.in1 (iw (.ref s.heap.objs.size) (.ref a) (.ref s.heap.objs.size)) _ _ _
 unfold iw
 refine aa (fL T0 ?_)
 have h1:i7 (.ref s.heap.objs.size) (.ref a)=false:=by simp [i7,cM halt]
 rw [if_neg (by rw [h1];decide)]
 refine aa (zlY (s:={ s with heap:=s.heap.push { cls:=.type "list",data:=.seq ([]:List ae).toArray } }) S0 fun I s1 X=>?_)
 obtain ⟨⟨os,fp,St,p1,p2,p3,p6,p4,p5⟩,kp,ty,nw,gn,oo⟩:=X
 refine aa (bL (zlw ⟨o,kp a o (ah _ ho),hx.1⟩ ?_))
 rw [if_pos (by kernel_rfl)]
 refine aa (eD ?_)
 refine aa ?_
 obtain ⟨hp,g,d,tk,oss⟩:=s1
 have gS:hp.get? s.heap.objs.size=some { cls:=.type "list",data:=.seq ([]:List ae).toArray }:=kp _ _ g0
 show ar _ A.in1 (updateSeq s.heap.objs.size (·.push .none) >>= fun _=>updateSeq s.heap.objs.size (·.pop)) _ _ _
 refine aa (jm gS rfl ?_)
 have g2:=bC (dB (·.push cj)) gS rfl
 refine jm g2 rfl ?_
 have g3:=bC (dB (·.pop)) g2 rfl
 have hz1:(Shared.heap { s with heap:=s.heap.push { cls:=.type "list",data:=.seq ([]:List ae).toArray } }).objs.size=s.heap.objs.size + 1:=bQ ..
 have hSf:s.heap.objs.size ∉ fp:=fun m=>by
  rcases p6 _ m with e|e
  ·exact bE _ (e ▸ halt)
  ·rw [hz1] at e;exact Nat.not_succ_le_self _ e
 have W:=(p4 A.in1 (by simpa using hh)).toS
 have oth:∀ b ob,b ≠ s.heap.objs.size->hp.get? b=some ob->((hp.update s.heap.objs.size (dB (·.push cj))).update s.heap.objs.size (dB (·.pop))).get? b=some ob:=
  fun b ob hb e=>(bq _ _ (bo hb)).trans ((bq _ _ (bo hb)).trans e)
 refine am ⟨iF F.plain_extend_loop _,codeAny_extend_loopS W (bb (by rw [p1.length_eq];exact hn) (by decide)) _ hSf _ os.length 0 _ _ _ rfl (bW _) ((p4 A.in1 (by simpa using hh)).frame 0 hp _ p5 fun b hb ob e=>oth b ob (fun q=>hSf (q ▸ hb)) e) g3 (ItemsOf.nil _) fun s' acc c' hm hS' hacc=>?_⟩
 show ar _ A (load s.heap.objs.size >>= _) _ _ s'
 refine aa (wpAny_load hS' (am ?_))
 have hst:eB acc.toList os:=z4Z os acc.toList (by simpa using hacc.1) fun j v e=>hacc.2 j v (by rw [<- dm];exact e)
 refine h acc.toList os s' p1 hst (eI (aF hS')) (fun b ob e=>hm.heap b ob ?_ (oth b ob ?_ (kp b ob (ah _ e)))) (hm.gens.trans gn) (hm.os.trans oo)
 ·simp only [av,aM,or_false,not_or]
  refine ⟨fun q=>absurd (aF e) (by rw [q];exact bE _),fun q=>?_⟩
  have hb:=aF e
  rw [hz1] at nw
  exact absurd (aN hb (kQ nw)) (by rw [q];exact bE _)
 ·exact fun q=>absurd (aF e) (by rw [q];exact bE _)
end
end DL
namespace DL
open PySem PyProof.Rows
section
variable {P:aJ} {w:aR} {A:ba} {E:ae->ai->Prop} {s:ai} {a:af} {ks:List Str}
theorem zhi (hh:A.handled=none) (hS:mn P w a ks s.heap) (hn:ks.length < 64)
  (h:∀ (out:Array ae) (os:List Str) l s1 c,os.Perm ks->sortedS os=true->eB out.toList os->s.heap.objs.size <= l->s1.heap.get? l=some { cls:=.type "list",data:=.seq out c }->(∀ b o,s.heap.get? b=some o->s1.heap.get? b=some o)->s1.gens=s.gens->s1.os=s.os->Q (.ref l) s1):
  ar (ay P w) A (call (.builtin "sorted") [.ref a]) Q E s:=by
 refine Calls.call_function_entry kind_sorted plain_sorted entry_sorted (args_sorted1 _) ?_
 unfold cA.«sorted»
 refine aa (m:=checkCount "sorted" 1 1 _) (am ?_)
 refine aa (zfG (by simpa using hh) hS (by omega) fun vs os s1 hp hst hsz kp gn oo=>?_)
 have hlen:vs.length=os.length:=hst.length
 have h64:vs.length < 64:=by rw [hlen,hp.length_eq];exact hn
 refine aa (wpAny_newList ?_)
 have gl:(s1.heap.push (seqObj "list" vs.toArray 0)).get? s1.heap.objs.size=some (seqObj "list" vs.toArray 0):=aC _ rfl
 refine aa (bL (bF slot_list_sort ⟨_,gl,rfl⟩ entry_list_sort (list_sort_treeK strKind_oneLt gl hst.keysOf (fun v1 v2 z2C e=>keyKind_strs (by rw [<- e];exact hst)) h64 fun st' a1 a2=>⟨_,rfl,?_⟩) (args_list_sort _)))
 obtain ⟨os',q1,q2,q3⟩:=sorted_out_str hst a1 a2
 refine am ⟨_,rfl,?_⟩
 have g1:=bC (dB fun _=>#[]) gl rfl
 have g2:=ah (seqObj "list" #[] 0) (ah (seqObj "tuple" vs.toArray 0) g1)
 have g3:=bC (dB fun _=>(arrOf st').map (·.2)) g2 rfl
 refine h _ os' _ _ _ (q2.trans hp) q3 q1 ?_ g3 (fun b o e=>?_) gn oo
 ·exact hsz
 ·have e1:=kp b o e
  have ne:s1.heap.objs.size ≠ b:=fun q=>absurd (aF e1) (by rw [<- q];exact bE _)
  exact (bq _ _ ne).trans (ah _ (ah _ ((bq _ _ ne).trans (ah _ e1))))
end
end DL
namespace DL
open PySem L2 PyProof.Rows
def zah (x:List Nat):List (List Nat)->List (List Nat)
 | []=>[x]
 | y :: r=>if x < y then x :: y :: r else if x=y then y :: r else y :: zah x r
def z3K (ss:List (List Nat)):List (List Nat):=ss.foldl (fun l x=>zah x l) []
theorem mC:∀ {l:List (List Nat)},y ∈ zah x l ↔ y=x \/ y ∈ l
 | []=>by simp [zah]
 | z :: r=>by
  unfold zah
  split
  ·simp
  ·split
   ·rename_i h;subst h;simp
   ·rw [av,mC,av];exact ⟨fun h=>by rcases h with h|h|h <;> simp [h],fun h=>by rcases h with h|h|h <;> simp [h]⟩
theorem zaW:∀ {l:List (List Nat)},l.Pairwise (· < ·)->(zah x l).Pairwise (· < ·)
 | [],_=>by simp [zah]
 | z :: r,h=>by
  obtain ⟨h1,h2⟩:=cI.mp h
  unfold zah
  split
  ·rename_i hxz
   exact cI.mpr ⟨fun y hy=>by
    rcases av.mp hy with rfl|hy
    ·exact hxz
    ·exact iG hxz (h1 y hy),h⟩
  ·rename_i hxz
   split
   ·exact h
   ·rename_i hne
    refine cI.mpr ⟨fun y hy=>?_,zaW h2⟩
    rcases mC.mp hy with rfl|hy
    ·exact iS fun q=>hne (lq (jv.mp q) (jv.mp hxz))
    ·exact h1 y hy
theorem z3G (ss:List (List Nat)):y ∈ z3K ss ↔ y ∈ ss:=by
 have:∀ (ss l:List (List Nat)),y ∈ ss.foldl (fun l x=>zah x l) l ↔ y ∈ l \/ y ∈ ss:=by
  intro ss
  induction ss with
  | nil=>intro l;simp
  | cons x ss ih=>intro l;rw [fH,ih,mC,av];exact ⟨fun h=>by rcases h with (h|h)|h <;> simp [h],fun h=>by rcases h with h|h|h <;> simp [h]⟩
 rw [z3K,this];simp
theorem z55 (ss:List (List Nat)):(z3K ss).Pairwise (· < ·):=by
 have:∀ (ss l:List (List Nat)),l.Pairwise (· < ·)->(ss.foldl (fun l x=>zah x l) l).Pairwise (· < ·):=by
  intro ss
  induction ss with
  | nil=>intro l h;exact h
  | cons x ss ih=>intro l h;exact ih _ (zaW h)
 exact this ss [] f7
theorem z68:∀ {l m:List (List Nat)},l.Pairwise (· < ·)->m.Pairwise (· < ·)->(∀ x,x ∈ l ↔ x ∈ m)->l=m
 | [],[],_,_,_=>rfl
 | [],y :: m,_,_,h=>absurd ((h y).mpr aH) (by simp)
 | x :: l,[],_,_,h=>absurd ((h x).mp aH) (by simp)
 | x :: l,y :: m,hl,hm,h=>by
  obtain ⟨l1,l2⟩:=cI.mp hl
  obtain ⟨m1,m2⟩:=cI.mp hm
  have exy:x=y:=by
   rcases av.mp ((h x).mp aH) with e|e
   ·exact e
   ·rcases av.mp ((h y).mpr aH) with e'|e'
    ·exact e'.symm
    ·exact absurd (iG (m1 x e) (l1 y e')) (fV _)
  subst exy
  rw [z68 l2 m2 fun z=>⟨fun hz=>by
    rcases av.mp ((h z).mp (au _ hz)) with e|e
    ·subst e;exact absurd (l1 z hz) (fV _)
    ·exact e,fun hz=>by
    rcases av.mp ((h z).mpr (au _ hz)) with e|e
    ·subst e;exact absurd (m1 z hz) (fV _)
    ·exact e⟩]
abbrev toS (cs:List Nat):Str:=⟨cs.toArray⟩
theorem z6H:∀ (p:Str) (l:List Str),risingS p l=true->(p :: l).Nodup->((p :: l).map (·.cps.toList)).Pairwise (· < ·)
 | p,[],_,_=>by simp
 | p,x :: r,h,nd=>by
  unfold risingS at h
  rw [bh,iK,ltCps_eq,decide_eq_false_iff_not] at h
  obtain ⟨n1,n2⟩:=bO.mp nd
  have ih:=z6H x r h.2 n2
  have hpx:p.cps.toList < x.cps.toList:=iS fun q=>n1 (by
   have:=lq (jv.mp h.1) (jv.mp q)
   have e:p=x:=by
    obtain ⟨pc⟩:=p;obtain ⟨xc⟩:=x
    have this:pc.toList=xc.toList:=this
    rw [show pc=xc from Array.toList_inj.mp this]
   rw [e];exact aH)
  rw [bM]
  refine cI.mpr ⟨fun y hy=>?_,ih⟩
  rw [bM] at hy ih
  rcases av.mp hy with rfl|hy
  ·exact hpx
  ·exact iG hpx ((cI.mp ih).1 y hy)
theorem zjM {ss:List (List Nat)} {os:List Str} (hp:os.Perm (ded (ss.map toS))) (hn:(ded (ss.map toS)).Nodup) (hs:sortedS os=true):os=(z3K ss).map toS:=by
 have h1:(os.map (·.cps.toList)).Pairwise (· < ·):=by
  cases os with
  | nil=>exact f7
  | cons p l=>exact z6H p l hs (hp.nodup_iff.mpr hn)
 have h2:os.map (·.cps.toList)=z3K ss:=z68 h1 (z55 ss) fun x=>by
  rw [z3G,aO]
  constructor
  ·rintro ⟨o,ho,rfl⟩
   have:=(zcO _).mp (hp.mem_iff.mp ho)
   obtain ⟨cs,hcs,rfl⟩:=aO.mp this
   exact hcs
  ·intro hx
   exact ⟨toS x,hp.mem_iff.mpr ((zcO _).mpr (aO.mpr ⟨x,hx,rfl⟩)),rfl⟩
 rw [<- h2,bK]
 refine (jw os).symm.trans (dI fun o _=>?_)
 obtain ⟨c⟩:=o
 rfl
theorem mn.nd (x:mn P w a ks h):ks.Nodup:=by
 obtain ⟨_,_,_,_,_,_,_,_,_,hn,_⟩:=x
 exact hn
section
variable {X:Cx} {p:Pos} {e:aK} {t:DA}
def zlz (K:aj) (P:aJ) (w:aR):List V->Hp->VK->Prop:=fun xs H Q=>∃ (p:af) (ss:List (List Nat)),xs=[.ref p]/\(SqL K H p (ss.map fun cs=>V.str (toS cs)) \/ SqT K H p (ss.map fun cs=>V.str (toS cs)))/\ss.length <= 1000/\∀ l,H l=none->Q (.ref l) (upd H l (.ext (mn P w l (ded (ss.map toS)))))
theorem zf6 {ss:List (List Nat)} {its:List ae} (r:ma (ss.map fun cs=>V.str (toS cs)) its) {i:Nat} {v:ae} (h:its[i]?=some v):∃ t:Tok,v=ik ((ss.map toS).getD i ⟨#[]⟩) t:=by
 obtain ⟨x,hx,rv⟩:=z6g r h
 rw [bc] at hx
 cases hs:ss[i]? with
 | none=>rw [hs] at hx;cases hx
 | some cs=>
  rw [hs] at hx;cases hx
  obtain ⟨t,rfl⟩:=rv
  exact ⟨t,by rw [aS,bc,hs];rfl⟩
theorem zdi (hc:X.calm=true):mj X (.type "set") (zlz X.K X.prog X.w):=by
 intro pins s σ H xs us Q I r h
 obtain ⟨p,ss,rfl,sq,hl,q⟩:=h
 obtain ⟨u,rfl,ru⟩:=z4R r
 cases ru
 have main:∀ (z:ZK) (its:List ae),z.val=.ref p->z.pre s.heap->(∀ x t,z ≠ .str x t)->z.vals=its.toArray->ma (ss.map fun cs=>V.str (toS cs)) its->ar (ay X.prog X.w) X.A (call (.type "set") [.ref p]) (EP X pins σ Q) X.xe s:=by
  intro z its hv hp hn hi rv
  have hlen:its.length=ss.length:=by rw [<- rv.length];simp
  rw [<- hv]
  refine wT I (zcT z (I.ok.hd hc) hp hn (ss.map toS) (by rw [hi];simp [hlen]) (fun i v e=>zf6 rv (by rw [hi] at e;simpa using e)) (by rw [az];unfold scanBound;omega) fun h' tk S' hk htk=>?_)
  refine ⟨.ref s.heap.objs.size,_,I.laid (t':=tk) (o:=.ext (mn X.prog X.w s.heap.objs.size (ded (ss.map toS)))) (fun b ob z=>hk b ob (aF z) z) (aB _) ?_,rfl,q _ (I.hok.fresh (aB _))⟩
  exact ⟨S',let ⟨o,_,_,_,ho,_⟩:=S';⟨o,ho⟩,fun h1 h2 x k=>x.keep k⟩
 rcases sq with sq|sq
 ·obtain ⟨its,rv,pl,_⟩:=I.list sq
  exact main (.lst p its.toArray) its rfl pl.isList (fun _ _ e=>by cases e) rfl rv
 ·obtain ⟨its,rv,pl,_⟩:=I.tuple sq
  exact main (.tup p its.toArray) its rfl pl (fun _ _ e=>by cases e) rfl rv
theorem z6r:∀ {vs:List ae} {os:List Str},eB vs os->ma (os.map V.str) vs
 | _,_,.nil=>.nil
 | _,_,.cons y t h=>.cons ⟨t,rfl⟩ (z6r h)
theorem zc5 (hc:X.calm=true):mj X (.builtin "sorted") (fun xs H Q=>∃ a ks,xs=[.ref a]/\H a=some (.ext (mn X.prog X.w a ks))/\ks.length < 64/\∀ l os,os.Perm ks->ks.Nodup->sortedS os=true->H l=none->Q (.ref l) (upd H l (.lst (os.map V.str)))):=by
 intro pins s σ H xs us Q I r h
 obtain ⟨a,ks,rfl,hH,hn,q⟩:=h
 obtain ⟨u,rfl,ru⟩:=z4R r
 cases ru
 have hS:mn X.prog X.w a ks s.heap:=(I.hok a _ hH).1
 refine wT I (zhi (I.ok.hd hc) hS hn fun out os l s1 c hp hs hst hl gl kp gn oo htk=>?_)
 have fr:H l=none:=I.hok.fresh hl
 have hlen:os.length <= sizeLine:=bb (eI (by rw [hp.length_eq];exact hn)) (by decide)
 have new:mi X.prog X.w (upd H l (.lst (os.map V.str))) s1.heap l (.lst (os.map V.str)):=⟨by rw [az];exact hlen,out.toList,c,z6r hst,by rw [gl]⟩
 have hok:=I.hok.laid kp hl new
 refine ⟨.ref l,_,?_,rfl,q l os hp hS.nd hs fr⟩
 exact I.call' oo (Un.laid kp hl fr) hok (by rw [gn];exact I.bare) (fun b (hb:b ∈ ([]:List af))=>absurd hb (aM))
end
section
variable {Ex:Nat->Hp->Prop}
theorem z4H {K:aj} {H:Hp} {hid μ:List af}:∀ ss:List (List Nat),l8 K H hid μ (ss.map D.str) (ss.map fun cs=>V.str (toS cs))
 | []=>.nil
 | cs :: r=>.cons zaf (z4H r)
def zmh (o:Bool) (r:R (List D)):R D:=r.bnd fun acc O1=>match zcC acc with
 | some ss=>if ss.length < 64 then (if o=true then .ok (.own O1.length) (O1 ++ [(z3K ss).map .str]) else .ok (.lst ((z3K ss).map .str)) O1) else .bad
 | none=>.bad
theorem strL_map:∀ ss:List (List Nat),zcC (ss.map D.str)=some ss
 | []=>rfl
 | cs :: r=>by show (zcC (r.map D.str)).map _=_;rw [strL_map r];rfl
theorem zhd {P:aJ} {w:aR} {H H':Hp} {hid μ μ':List af} {O':Ow} {L:af} {Q:VK} {o:Bool} {ss:List (List Nat)} {K:aj} (x:Ext H μ H' μ') (c:l7 K H' hid μ' O') (hA:H' L=some (.ext (mn P w L (ded (ss.map toS))))) (hl:ss.length < 64)
  (q:z1q Ex K H hid μ (if o=true then .ok (.own O'.length) (O' ++ [(z3K ss).map .str]) else .ok (.lst ((z3K ss).map .str)) O') Q):
  ∃ a ks,[V.ref L]=[V.ref a]/\H' a=some (.ext (mn P w a ks))/\ks.length < 64/\∀ l os,os.Perm ks->ks.Nodup->sortedS os=true->H' l=none->Q (.ref l) (upd H' l (.lst (os.map V.str))):=by
 refine ⟨L,_,rfl,hA,fM (zdd _) (by rw [az];exact hl),fun l os hp hn hs hf=>?_⟩
 have e:=zjM hp hn hs
 subst e
 rw [bK]
 cases o with
 | true=>exact post.ok (show z1q Ex K H hid μ (.ok (.own O'.length) (O' ++ [(z3K ss).map .str])) Q from q) (x.trans (.cell hf)) (c.cell hf (z4H _)) (z2f c.len)
 | false=>exact post.ok (show z1q Ex K H hid μ (.ok (.lst ((z3K ss).map .str)) O') Q from q) (x.trans (.laid hf)) (c.laid hf) (Dat.newL c hf (z4H _))
end
section
variable {X:Cx} {Ex:Nat->Hp->Prop} {pos pos2 p p2:Pos} {e:aK} {es:List aK} {t:DA}
def z9S (o:Bool) (t:DA):DE:=fun σ O=>(t σ O).bnd fun xs O1=>match xs with
 | [x]=>match (match lsV O1 x with|some ds=>some ds|none=>tpV x) with
  | some ds=>zmh o (.ok ds O1)
  | none=>.bad
 | _=>.bad
theorem zhA (o:Bool) (hc:X.calm=true) (hg:Gl X x) (hm:X.mg x=none) (hv:a8 x=some (.builtin "sorted")) (hg2:Gl X y) (hm2:X.mg y=none) (hv2:a8 y=some (.type "set")) (ha:PDA X Ex (e :: es) t)
  (hn:x ≠ "__name__":=by decide) (hdb:(x == ("__debug__":Str))=false:=by decide) (hn2:y ≠ "__name__":=by decide) (hdb2:(y == ("__debug__":Str))=false:=by decide) (he:aD (e :: es) X.env=(false,eval e X.env) :: aD es X.env:=by rfl) (hpl:(backTo pos2 (aD es X.env)).any (·.1)=false:=by rfl)
  (he':aD [.Call (.Name y p2) (e :: es) [] pos2] X.env=(false,eval (.Call (.Name y p2) (e :: es) [] pos2) X.env) :: aD [] X.env:=by rfl):
  PD X Ex (.Call (.Name x p) [.Call (.Name y p2) (e :: es) [] pos2] [] pos) (z9S o t):=
 z22 (z49 (zc5 hc) hg hm hv (z1P (z9C (zdi hc) hg2 hm2 hv2 ha.out hn2 hdb2 he hpl) z3r he') hn hdb he' (by rfl)) fun hid μ σ O σv H Q e1 c1 q=>
  rdA.go e1 c1 q fun xs O1 vs H1 μ1 e2 x2 c d p=>by
   split at p
   ·rename_i x
    obtain ⟨v,rfl,dx⟩:=z3S d
    split at p
    ·rename_i ds eds
     have h:∃ pa ws,v=.ref pa/\(SqL X.K H1 pa ws \/ SqT X.K H1 pa ws)/\l8 X.K H1 hid μ1 ds ws:=by
      cases e1:lsV O1 x with
      | some es=>
       rw [e1] at eds;cases eds
       obtain ⟨p,ws,h1,sq,dd⟩:=z3c c dx e1
       exact ⟨p,ws,h1,.inl sq,dd⟩
      | none=>
       rw [e1] at eds
       obtain ⟨p,ws,h1,sq,dd⟩:=z7E dx eds
       exact ⟨p,ws,h1,.inr sq,dd⟩
     obtain ⟨pa,ws,rfl,sq,dd⟩:=h
     have p:z1q Ex X.K H1 hid μ1 (match zcC ds with|some ss=>if ss.length < 64 then (if o=true then .ok (.own O1.length) (O1 ++ [(z3K ss).map .str]) else .ok (.lst ((z3K ss).map .str)) O1) else .bad|none=>.bad) Q:=p
     split at p
     ·rename_i ss ens
      obtain ⟨hl,p⟩:=post.ite p
      have ev:=z9Q dd ens
      subst ev
      exact ⟨pa,ss,rfl,sq,by omega,fun l hl'=>zhd (.laid hl') (c.laid hl') z18 hl p⟩
     ·exact ak p
    ·exact ak p
   ·exact ak p
end
end DL
namespace DL
open PySem L2
structure Nx (l:List Str):Prop
section
variable {X:Cx} {Ex:Nat->Hp->Prop} {elt tg iter:aK} {ifs:List aK} {gs:List bJ} {scope:b9} {pos spos py:Pos} {x y:Str} {i k:Nat} {ext:List Str} {it0:DI} {g:Tg} {ts:List DT} {cs:List Cl} {te:DE}
abbrev zjc (X:Cx) (ext:List Str) (scope:b9) (tg:aK) (g:Tg) (ifs:List aK) (ts:List DT) (gs:List bJ) (cs:List Cl) (elt:aK) (te:DE):Prop:=∀ cells C s H fp,PG (cxB X (X.N ++ ext) scope cells C s H fp) tg (g.rd X.K)/\bi (fun e t=>PDT (cxB X (X.N ++ ext) scope cells C s H fp) Ex0 e t) ifs ts/\ms (cxB X (X.N ++ ext) scope cells C s H fp) gs cs/\PD (cxB X (X.N ++ ext) scope cells C s H fp) Ex0 elt te
theorem z7M (_:Nx ext) (o:Bool) (hc:X.calm=true) (hb:BOk X.env.scope scope (X.N ++ ext) (z12 (⟨it0,g,ts⟩ :: cs))) (hi:PDI X Ex tg iter it0) (blk:zjc X ext scope tg g ifs ts gs cs elt te) (hk:ext.length=k:=by rfl) (hs:∀ x,cb iter X.env x=pure x:=by intro _;rfl):
  PD X Ex (.ListComp elt (⟨tg,iter,ifs,0⟩ :: gs) scope pos) (z1i o k it0 g ts cs te):=hk ▸ zgK o ext hc hi hb blk hs
theorem z3V (_:Nx ext) (o:Bool) (hc:X.calm=true) (hN:X.N.Nodup) (hiy:X.N[i]?=some y) (hy:X.env.scope.names.lookup y=some .local) (hb:BOk X.env.scope scope (X.N ++ ext) (z12 (⟨it0,g,ts⟩ :: cs))) (hi:PDI X Ex tg iter it0) (blk:zjc X ext scope tg g ifs ts gs cs elt te)
  (hsw:swapsWith (.ListComp elt (⟨tg,iter,ifs,0⟩ :: gs) scope pos) (some (.Name y py)) spos.line X.env=pure true) (hk:ext.length=k:=by rfl) (hs:∀ x,cb iter X.env x=pure x:=by intro _;rfl):
  PDS X Ex (.Assign [.Name y py] (.ListComp elt (⟨tg,iter,ifs,0⟩ :: gs) scope pos) spos) (z24 i (z1i o k it0 g ts cs te)):=hk ▸ z9O o ext hc hN hiy hy hi hb blk hsw hs
end
def z3t (c:DT) (b:DS):Nat->Sg->Ow->RS
 | 0,_,_=>.bad
 | f + 1,σ,O=>(c σ O).bnS fun k O1=>if k=true then (match b σ O1 with
   | .nx σ' O'=>z3t c b f σ' O'
   | .ct σ' O'=>z3t c b f σ' O'
   | .bk σ' O'=>.nx σ' O'
   | r=>r) else .nx σ O1
def zdY (f:Nat) (c:DT) (b:DS):DS:=z3t c b f
section
variable {X:Cx} {Ex:Nat->Hp->Prop} {pos:Pos}
theorem zcm (f:Nat) (hp:ji (ay X.prog X.w) X.A X.env X.xe) (hc:PDT X Ex c tc) (hb:z5F X Ex body tb):PDS X Ex (.While c body [] pos) (zdY f tc tb):=
 z56 (zfz hp hc.out hb.out) fun hid μ σ O E σv H e1 c1 q=>by
  refine ⟨fun m σv H=>∃ hid μ σ O,l9 X.K H hid μ σ σv/\l7 X.K H hid μ O/\md Ex X.K H hid μ (z3t tc tb m σ O) E,⟨f,hid,μ,σ,O,e1,c1,q⟩,?_⟩
  rintro m σv H ⟨hid,μ,σ,O,e1,c1,q⟩
  cases m with
  | zero=>exact ak q
  | succ f=>
   refine rdT.goS e1 c1 q fun k O1 H1 μ1 e2 x2 c2 p=>?_
   cases k with
   | false=>exact p σv H1 μ1 .refl e2 c2
   | true=>
    rw [if_pos rfl]
    refine ⟨fun σv H=>∃ hid μ σ O,l9 X.K H hid μ σ σv/\l7 X.K H hid μ O/\md Ex X.K H hid μ (z3t tc tb f σ O) E,fun _ _ z=>⟨f,ci _,z⟩,hid,μ1,σ,O1,e2,c2,?_⟩
    have p:md Ex X.K H1 hid μ1 (match tb σ O1 with|.nx σ' O'=>z3t tc tb f σ' O'|.ct σ' O'=>z3t tc tb f σ' O'|.bk σ' O'=>.nx σ' O'|r=>r) E:=p
    cases hr:tb σ O1 with
    | nx σ' O'=>rw [hr] at p;exact fun σw H' μ' x e c=>⟨hid,μ',σ',O',e,c,md.ext p x⟩
    | ct σ' O'=>rw [hr] at p;exact fun σw H' μ' x e c=>⟨hid,μ',σ',O',e,c,md.ext p x⟩
    | bk σ' O'=>rw [hr] at p;exact p
    | rt d O'=>rw [hr] at p;exact p
    | exc c' O'=>rw [hr] at p;exact p
    | bad=>rw [hr] at p;exact p
end
def z8I (to:DE) (t:DA):DE:=fun σ O=>(to σ O).bnd fun x O1=>match x with
 | .own k=>(t σ O1).bnd fun ys O2=>match ys,O2[k]? with
  | [.int i],some ds=>if 0 <= i/\i < 100000 then (match ds[i.toNat]? with
   | some d=>.ok d (O2.set k (ds.eraseIdx i.toNat))
   | none=>.bad) else .bad
  | _,_=>.bad
 | _=>.bad
theorem l8.erase:∀ {ds:List D} {vs:List V} (i:Nat),l8 K H hid μ ds vs->l8 K H hid μ (ds.eraseIdx i) (vs.eraseIdx i)
 | [],vs,i,h=>by
  unfold l8 at h
  subst h
  simpa using (l8.nil:l8 K H hid μ [] [])
 | d :: ds,vs,i,h=>by
  unfold l8 at h
  obtain ⟨v,r,rfl,h1,h2⟩:=h
  cases i with
  | zero=>exact h2
  | succ i=>exact .cons h1 (l8.erase i h2)
theorem zlP (h:0 <= i) (hn:i.toNat < n):seqIndex? i n=some i.toNat:=by
 unfold seqIndex?
 split <;> simp_all <;> omega
section
variable {X:Cx} {Ex:Nat->Hp->Prop} {e:aK}
theorem zfL (ho:PD X Ex o to) (ha:PDA X Ex (e :: es) t) (hbase:attributeBase o "pop" X.env (eval o X.env)=eval o X.env:=by rfl)
  (hfew:((backTo cpos (aD (e :: es) X.env)).all (fun x=>!x.1) && (backToKw cpos (keywordEach [] X.env)).all (fun x=>x.1.isSome) && decide ((e :: es).length + ([]:List eG).length + (if ([]:List eG).isEmpty then 0 else 1) < 30))=true:=by rfl)
  (hline:(apos.endLine == cpos.line)=true:=by rfl) (hs:aD (e :: es) X.env=(false,eval e X.env) :: aD es X.env:=by rfl) (hplain:(backTo cpos (aD es X.env)).any (·.1)=false:=by rfl):
  PD X Ex (.Call (.Attribute o "pop" apos) (e :: es) [] cpos) (z8I to t):=
 z22 (z91 cJ ky PySem.F.type_list_pop zez ho.out ha.out hbase hfew hline hs hplain) fun hid μ σ O σv H Q e1 c1 q=>rd.go e1 c1 q fun d O1 v H1 μ1 e2 x cl r p=>by
  cases d with
  | own k=>
   have hr:=r
   unfold Dat at r
   obtain ⟨A,rfl,hk⟩:=r
   obtain ⟨ds,vs,h1,h2,h3⟩:=cl.at_ k A hk
   refine ⟨.inl ⟨rfl,vs,.of h2⟩,rdA.go e2 cl p fun ys O2 ws H2 μ2 e3 x3 c3 d3 p3=>?_⟩
   split at p3
   ·rename_i i es' hds
    obtain ⟨⟨hi0,hi1⟩,p3⟩:=post.ite p3
    obtain ⟨w,rfl,dw⟩:=z3S d3
    unfold Dat at dw
    subst dw
    have hk2:μ2[k]?=some A:=by
     have:=hr.ext x3
     unfold Dat at this
     obtain ⟨A',e',hk'⟩:=this
     cases e';exact hk'
    obtain ⟨ds2,vs2,g1,g2,g3⟩:=c3.at_ k A hk2
    rw [hds] at g1;cases g1
    split at p3
    ·rename_i d hd
     obtain ⟨y,hy,dy⟩:=g3.get hd
     have hlt:=(ao.mp hy).1
     refine ⟨A,vs2,i,i.toNat,y,rfl,rfl,g2,by omega,by omega,zlP hi0 hlt,hy,?_⟩
     exact post.ok p3 (.put (aW hk2) ⟨_,g2⟩) (c3.put hk2 (g3.erase _)) (dy.ext (.put (aW hk2) ⟨_,g2⟩))
    ·exact ak p3
   ·exact ak p3
  | _=>exact ak p
end
end DL
namespace DL
open PySem L2 PyProof.Rows
abbrev DK:=Sum Int (List Nat)
def zlh:D->Option DK
 | .int i=>some (.inl i)
 | .str cs=>some (.inr cs)
 | _=>none
def zjh (k:DK):D->Bool
 | .map [j] _=>decide (j=k)
 | _=>false
def mKs:List D->List DK
 | .map [k] _ :: r=>k :: mKs r
 | _=>[]
def mDs:List D->List D
 | .map _ [d] :: r=>d :: mDs r
 | _=>[]
def z4f (p:DK × D):D:=.map [p.1] [p.2]
theorem zdb:∀ ps:List (DK × D),mKs (ps.map z4f)=ps.map (·.1)
 | []=>rfl
 | p :: r=>by show p.1 :: mKs (r.map z4f)=_;rw [zdb r];rfl
theorem zek:∀ ps:List (DK × D),mDs (ps.map z4f)=ps.map (·.2)
 | []=>rfl
 | p :: r=>by show p.2 :: mDs (r.map z4f)=_;rw [zek r];rfl
theorem zjw:∀ {a b:DK},kD a=kD b->a=b
 | .inl i,.inl j,h=>by cases h;rfl
 | .inr x,.inr y,h=>by
  have h:(⟨x.toArray⟩:Str)=⟨y.toArray⟩:=lY h
  have h:x.toArray=y.toArray:=congrArg Str.cps h
  have:x=y:=by simpa using h
  rw [this]
 | .inl _,.inr _,h=>by cases h
 | .inr _,.inl _,h=>by cases h
def emD (tk tv:DE):Em:=fun σ O acc=>(tk σ O).bnd fun x O1=>match zlh x with
 | some k=>(tv σ O1).bnd fun d O2=>if acc.length < 1000/\acc.any (zjh k)=false then .ok (acc ++ [.map [k] [d]]) O2 else .bad
 | none=>.bad
def zbF (ke ve:aK):zbh where
 ex:=fun gens scope pos=>.DictComp ke ve gens scope pos
 emit:=fun acc env=>do
  let kv <- eval ke env
  let vv <- holding [kv] (eval ve env)
  match acc with
  | .ref d=>do
   standAt { ke.pos with endLine:=ve.pos.endLine,endCol:=ve.pos.endCol }
   holding [kv,vv] (dictSet d kv vv)
  | _=>unsupported "internal:dictcomp"
 new:=newDict
 ho:=fun _ _ _=>.dK []
 G:=fun K _ _ A hid H μ acc=>∃ (ps:List (DK × D)) (vs:List V),acc=ps.map z4f/\H A=some (.dK ((ps.map fun p=>kD p.1).zip vs))/\ps.length=vs.length/\l8 K H (A :: hid) μ (ps.map (·.2)) vs
theorem zft (ke ve:aK):z6T (zbF ke ve) where
 cl:=fun _ _ _=>rfl
 turn:=fun gens scope pos k it acc env tg iter ifs hk hn=>by
  show compTurn (.DictComp ke ve gens scope pos) k it acc env=_
  unfold compTurn z6I
  rcases hn with hn|⟨tg',iter',ifs',hn⟩
  ·simp only [hk,hn]
   rfl
  ·simp only [hk,hn,bne_self_eq_false,cH,if_false,bind_assoc,pure_bind]
   first|rfl|congr 1
 keep:=fun ⟨ps,vs,e,hA,hl,dA⟩ nA x=>⟨ps,vs,e,x.keep _ _ hA nA,hl,dA.ext x⟩
 new:=fun h=>bn (h _ rfl fun H h a hb e=>by
  refine ⟨bW _,beq_eq_false_iff_ne.mpr (bo (aX hb)),[],.nil,?_⟩
  exact ⟨_,#[],0,e,⟨rfl,rfl,rfl⟩,rfl,fun _ he=>by simp at he,Pairs.nil,hV⟩)
 g0:=⟨[],[],rfl,z18,rfl,.nil⟩
 q1:=fun _ _ _ _ _ _ _=>rfl
 u1:=fun _ _ _ _ _ _ _ _=>rfl
 d1:=fun _ _ _ _ _ _ _ _ _=>rfl
 u2:=fun _ _ _ _ _ _ _ _=>rfl
 d2:=fun _ _ _ _ _ _ _ _ _=>rfl
theorem zi2 (hA:H A=some (.dK kvs)):∀ P2,ml H P2->ml (upd H A o) P2:=by
 rintro P2 ⟨ps,h1,h2,h3⟩
 have n1:P2 ≠ A:=by rintro rfl;rw [hA] at h1;cases h1
 refine ⟨ps,by rw [z0Y n1];exact h1,h2,fun pos cv e=>?_⟩
 obtain ⟨c,φ,rfl,hc,hf⟩:=h3 pos cv e
 have n2:c ≠ A:=by rintro rfl;rw [hA] at hc;cases hc
 exact ⟨c,φ,rfl,by rw [z0Y n2];exact hc,hf⟩
theorem zaE:∀ (ps:List (DK × D)) (vs:List V),(ps.map z4f).any (zjh k)=false->za4 ((ps.map fun p=>kD p.1).zip vs) (kD k)=none
 | [],_,_=>rfl
 | _ :: _,[],_=>rfl
 | p :: r,v :: vs,h=>by
  rw [bM,gk,Bool.or_eq_false_iff] at h
  obtain ⟨h1,h2⟩:=h
  have n:¬ p.1=k:=fun e=>by
   have:decide (p.1=k)=false:=h1
   rw [decide_eq_true e] at this;cases this
  show za4 ((kD p.1,v) :: (r.map fun p=>kD p.1).zip vs) (kD k)=none
  rw [z6a (p:=(kD p.1,v)) (fun e=>n (zjw e))]
  exact zaE r vs h2
theorem zlD {K:aj} {H:Hp} {hid μ:List af} {x:D} {k:DK} {v:V} (e:zlh x=some k) (h:Dat K H hid μ x v):v=kV (kD k):=by
 cases x with
 | int i=>cases e;unfold Dat at h;exact h
 | str cs=>cases e;unfold Dat at h;exact h
 | _=>cases e
section
variable {X:Cx} {A:af} {hid:List af} {ke ve:aK} {gens:List bJ} {tk tv:DE}
theorem zei {Z:L2.St->Hp->List af->Prop} {k:Nat} {e:aK} (hx:X.xe=fun _ _=>False) (hek:PD X Ex0 ke tk) (hev:PD X Ex0 ve tv) (hk:gens[k]?=none):z50 X Z (zbF ke ve) A hid e gens (emD tk tv) k []:=by
 intro pins s σv H μ σ O acc Q E _ B q
 unfold z6I
 rw [hk]
 show ar _ _ (do
  let kv <- eval ke X.env
  let vv <- holding [kv] (eval ve X.env)
  (do
   standAt { ke.pos with endLine:=ve.pos.endLine,endCol:=ve.pos.endCol }
   holding [kv,vv] (dictSet A kv vv))) _ _ s
 obtain ⟨ps,vs,rfl,hA,hl,dA⟩:=B.grown
 unfold z4h emD at q
 cases htk:tk σ O with
 | exc c O1=>rw [htk] at q;exact q.elim
 | bad=>rw [htk] at q;exact q.elim
 | ok x O1=>
  rw [htk] at q
  have q1:z4k X (zbF ke ve) A hid pins σv H μ (z12 []) (match zlh x with
   | some k=>(tv σ O1).bnd fun d O2=>if (ps.map z4f).length < 1000/\(ps.map z4f).any (zjh k)=false then .ok (ps.map z4f ++ [.map [k] [d]]) O2 else .bad
   | none=>.bad) Q:=q
  cases hko:zlh x with
  | none=>rw [hko] at q1;exact q1.elim
  | some kk=>
   rw [hko] at q1
   dsimp only at q1
   refine aa (z2i hx (hek.out pins s σv H (fun v H1=>∃ μ1,Ext H μ H1 μ1/\l7 X.K H1 (A :: hid) μ1 O1/\Dat X.K H1 (A :: hid) μ1 x v) B.inv ⟨A :: hid,μ,σ,O,B.env,B.cells,by rw [htk];exact fun v H' μ' x c r=>⟨μ',x,c,r⟩⟩)
    fun u s1 ⟨v,H1,I1,ru,μ1,x1,c1,r1⟩=>?_)
   cases htv:tv σ O1 with
   | exc c O2=>rw [htv] at q1;exact q1.elim
   | bad=>rw [htv] at q1;exact q1.elim
   | ok d O2=>
    rw [htv] at q1
    have q2:z4k X (zbF ke ve) A hid pins σv H μ (z12 []) (if (ps.map z4f).length < 1000/\(ps.map z4f).any (zjh kk)=false then .ok (ps.map z4f ++ [.map [kk] [d]]) O2 else .bad) Q:=q1
    by_cases hc:(ps.map z4f).length < 1000/\(ps.map z4f).any (zjh kk)=false
    ·rw [if_pos hc] at q2
     refine aa (bL (z2i hx (hev.out pins s1 σv H1 (fun v H2=>∃ μ2,Ext H1 μ1 H2 μ2/\l7 X.K H2 (A :: hid) μ2 O2/\Dat X.K H2 (A :: hid) μ2 d v) I1 ⟨A :: hid,μ1,σ,O1,B.env.ext x1,c1,by rw [htv];exact fun v H' μ' x c r=>⟨μ',x,c,r⟩⟩)
      fun u2 s2 ⟨v2,H2,I2,ru2,μ2,x2,c2,r2⟩=>?_))
     refine aa (eQ (bL ?_))
     have nA:A ∉ μ:=fun m=>B.cells.nh A m (by simp)
     have x12:=x1.trans x2
     have hA2:=x12.keep A _ hA nA
     have dA2:=dA.ext x12
     have ek:=zlD hko r1
     subst ek
     obtain ⟨z,hd,ws,rel,dd⟩:=zjG I2.hok hA2
     have hlen:((ps.map fun p=>kD p.1).zip vs).length=ps.length:=by rw [jn,az,<- hl,Nat.min_self]
     have hlp:ps.length < 1000:=by have:=hc.1;rwa [az] at this
     have hz:ws.length <= sizeLine:=by rw [<- rel.length];exact z
     refine wpAny_dictSet_pairs (hsz:=hz) (zeK ru) dd fun h' dd' sb=>?_
     have he:∃ q,h'.get? A=some q:=let ⟨q,_,_,hq,_⟩:=dd';⟨q,hq⟩
     have hl':(zc0 ((ps.map fun p=>kD p.1).zip vs) (kD kk) v2).length <= sizeLine:=bb (z6D _ _ _) (by rw [hlen];exact bb hlp (by decide))
     have I3:=ze8 (t':=s2.toks + 1) (ob:=.dK (zc0 ((ps.map fun p=>kD p.1).zip vs) (kD kk) v2)) I2 (by rw [hA2];exact dR) sb he (zga hl' hd (rel.put _ ru2) dd')
     rw [zeT _ (zaE ps vs hc.2)] at I3
     refine q2 _ σv _ μ2 I3 (x12.ea.trans (.putX (zi2 hA2))) (c2.putX (zi2 hA2)) ⟨ps ++ [(kk,d)],vs ++ [v2],by rw [cW];rfl,?_,by simp [hl],?_⟩ rfl fun _ _=>rfl
     ·rw [z18,cW,List.zip_append (by rw [az];exact hl)];rfl
     ·rw [cW]
      exact (dA2.append (.cons r2 .nil)).mv (Ea.putX (A:=A) (zi2 hA2)).mv
    ·rw [if_neg hc] at q2;exact q2.elim
end
theorem zav {K:aj} {H:Hp} {hid μ:List af} {O:Ow} {L:af} {ps:List (DK × D)} {vs:List V} (c:l7 K H (L :: hid) μ O) (n1:L ∉ hid) (h:H L=some (.dK ((ps.map fun p=>kD p.1).zip vs))) (hl:ps.length=vs.length) (q:l8 K H (L :: hid) μ (ps.map (·.2)) vs):
  Dat K H hid μ (.map (mKs (ps.map z4f)) (mDs (ps.map z4f))) (.ref L):=by
 rw [zdb,zek]
 unfold Dat
 exact ⟨L,vs,rfl,.inl (by rw [bK];exact h),n1,fun m=>c.nh L m (by simp),by rw [az];exact hl,q.mv .unhide⟩
def z98 (ext:Nat) (it0:DI) (g:Tg) (ts:List DT) (cs:List Cl) (tk tv:DE):DE:=fun σ O=>(z48 ext it0 g ts cs (emD tk tv) σ O).bnd fun acc O1=>.ok (.map (mKs acc) (mDs acc)) O1
section
variable {X:Cx} {Ex:Nat->Hp->Prop}
theorem zmR {ke ve tg iter:aK} {ifs:List aK} {gs:List bJ} {scope:b9} {pos:Pos} {ext:List Str} {g:Tg} {ts:List DT} {cs:List Cl} {tk tv:DE}
  (blk:∀ cells C s H fp,PG (cxB X (X.N ++ ext) scope cells C s H fp) tg (g.rd X.K)/\bi (fun e t=>PDT (cxB X (X.N ++ ext) scope cells C s H fp) Ex0 e t) ifs ts/\ms (cxB X (X.N ++ ext) scope cells C s H fp) gs cs/\PD (cxB X (X.N ++ ext) scope cells C s H fp) Ex0 ke tk/\PD (cxB X (X.N ++ ext) scope cells C s H fp) Ex0 ve tv) {Z:af->Hp->L2.St->Hp->List af->Prop} (cells Cn s H fp):
  PG (cxB X (X.N ++ ext) scope cells Cn s H fp) tg (g.rd X.K)/\bi (fun e t=>PDT (cxB X (X.N ++ ext) scope cells Cn s H fp) Ex0 e t) ifs ts/\ms (cxB X (X.N ++ ext) scope cells Cn s H fp) gs cs/\∀ A hid k,(⟨tg,iter,ifs,0⟩ :: gs:List bJ)[k]?=none->z50 (cxB X (X.N ++ ext) scope cells Cn s H fp) (Z A H) (zbF ke ve) A hid ((zbF ke ve).ex (⟨tg,iter,ifs,0⟩ :: gs) scope pos) (⟨tg,iter,ifs,0⟩ :: gs) (emD tk tv) k []:=
 let ⟨h1,h2,h3,h4,h5⟩:=blk cells Cn s H fp
 ⟨h1,h2,h3,fun _ _ _ hk=>zei rfl h4 h5 hk⟩
theorem zfQ (ext:List Str) (hcalm:X.calm=true) (hi:PDI X Ex tg iter it0) (hb:BOk X.env.scope scope (X.N ++ ext) (z12 (⟨it0,g,ts⟩ :: cs)))
  (blk:∀ cells C s H fp,PG (cxB X (X.N ++ ext) scope cells C s H fp) tg (g.rd X.K)/\bi (fun e t=>PDT (cxB X (X.N ++ ext) scope cells C s H fp) Ex0 e t) ifs ts/\ms (cxB X (X.N ++ ext) scope cells C s H fp) gs cs/\PD (cxB X (X.N ++ ext) scope cells C s H fp) Ex0 ke tk/\PD (cxB X (X.N ++ ext) scope cells C s H fp) Ex0 ve tv)
  (hs:∀ x,cb iter X.env x=pure x:=by intro _;rfl):PD X Ex (.DictComp ke ve (⟨tg,iter,ifs,0⟩ :: gs) scope pos) (z98 ext.length it0 g ts cs tk tv):=by
 refine ⟨?_⟩
 rintro pins s σv H Q I ⟨hid,μ,σ,O,e1,c1,q⟩
 show ar _ _ (comprehension (.DictComp ke ve (⟨tg,iter,ifs,0⟩ :: gs) scope pos) scope X.env _ newDict false (eval iter X.env)) _ _ s
 unfold z98 at q
 refine z61 (zft ke ve) (use:=none) hcalm hi hb (fun cells Cn s H fp _ _ _=>zmR blk cells Cn s H fp) hs I e1 c1 ?_
 cases hr:z48 ext.length it0 g ts cs (emD tk tv) σ O with
 | bad=>rw [hr] at q;exact q
 | exc c' O'=>rw [hr] at q;exact q
 | ok acc O'=>
  rw [hr] at q
  rintro L H' μ' nL x c ⟨ps,vs,rfl,hA,hl,dA⟩ s' C I' ns nC l1 y1 ce pn
  obtain ⟨m,hn⟩:=ns
  have n1:L ∉ hid:=fun m=>c1.ht L m nL
  exact ⟨m,hn,fun h' hs'=>⟨.ref L,H',Inv.bare I' hs' nC l1 y1 ce pn,rfl,post.ok q x c.unhide (zav c n1 hA hl dA)⟩⟩
end
def za7:Ow->List D->R D:=fun O xs=>match xs with
 | [x]=>match lsV O x with
  | some ds=>match zcC ds with
   | some ss=>if ss.Nodup/\ss.length < 64 then .ok (.lst ((z3K ss).map .str)) O else .bad
   | none=>.bad
  | none=>.bad
 | _=>.bad
theorem zhU {ss:List (List Nat)} {os:List Str} (hp:os.Perm (ss.map toS)) (hn:ss.Nodup) (hs:sortedS os=true):os=(z3K ss).map toS:=by
 have hn':(ss.map toS).Nodup:=by
  rw [List.nodup_iff_pairwise_ne] at hn ⊢
  rw [List.pairwise_map]
  refine hn.imp fun h e=>h ?_
  have e:(toS _).cps=(toS _).cps:=congrArg Str.cps e
  simpa using e
 have h1:(os.map (·.cps.toList)).Pairwise (· < ·):=by
  cases os with
  | nil=>exact f7
  | cons p l=>exact z6H p l hs (hp.nodup_iff.mpr hn')
 have h2:os.map (·.cps.toList)=z3K ss:=z68 h1 (z55 ss) fun x=>by
  rw [z3G,aO]
  constructor
  ·rintro ⟨o,ho,rfl⟩
   obtain ⟨cs,hcs,rfl⟩:=aO.mp (hp.mem_iff.mp ho)
   exact hcs
  ·intro hx
   exact ⟨toS x,hp.mem_iff.mpr (aO.mpr ⟨x,hx,rfl⟩),rfl⟩
 rw [<- h2,bK]
 refine (jw os).symm.trans (dI fun o _=>?_)
 obtain ⟨c⟩:=o
 rfl
section
variable {X:Cx} {Ex:Nat->Hp->Prop} {H:Hp} {hid μ:List af}
def zki (K:aj):List V->Hp->VK->Prop:=fun xs H Q=>∃ p ss,xs=[.ref p]/\SqL K H p (ss.map fun cs=>V.str ⟨cs.toArray⟩)/\ss.Nodup/\ss.length < 64/\∀ l,H l=none->Q (.ref l) (upd H l (.lst ((z3K ss).map fun cs=>V.str ⟨cs.toArray⟩)))
theorem zdC:mj X (.builtin "sorted") (zki X.K):=by
 intro pins s σ H xs us Q I r h
 obtain ⟨p,ss,rfl,sq,ho,hl,q⟩:=h
 obtain ⟨u,rfl,ru⟩:=z4R r
 cases ru
 obtain ⟨its,rv,pl,hz⟩:=I.list sq
 have hm:(ss.map fun cs=>V.str ⟨cs.toArray⟩)=(ss.map toS).map V.str:=by rw [bK];rfl
 have hS:eB its (ss.map toS):=z5s (by rw [<- hm];exact rv)
 have hlen:its.length=ss.length:=by have:=rv.length;simpa using this.symm
 refine sorted_strs pl.isList hS (by rw [hlen];exact hl) fun out os a1 a2 a3=>?_
 have e:=zhU a2 ho a3
 subst e
 obtain ⟨e,he⟩:=sortedAll_at s.heap its out
 have hn:H (s.heap.objs.size + 1)=none:=I.hok.fresh (dQ _)
 refine ⟨.ref _,_,I.laid (t':=s.toks) (o:=.lst ((z3K ss).map fun cs=>V.str ⟨cs.toArray⟩)) (fun _ _ z=>sortedAll_old z) (dQ _) ?_,rfl,q _ hn⟩
 have hv:=z6r a1
 rw [bK] at hv
 refine ⟨?_,out.toList,e,hv,by rw [he]⟩
 have h1:(z3K ss).length=ss.length:=by have:=a2.length_eq;simpa using this
 rw [az,h1]
 exact bb (eI hl) (by decide)
theorem zht:z4P X Ex (zki X.K) za7:=by
 intro H hid μ O xs vs Q c d q
 unfold za7 at q
 split at q
 ·rename_i x
  obtain ⟨v,rfl,dx⟩:=z3S d
  split at q
  ·rename_i ds e
   obtain ⟨p,ws,rfl,sq,dd⟩:=z3c c dx e
   split at q
   ·rename_i ss es
    obtain ⟨⟨h1,h2⟩,q⟩:=post.ite q
    have ev:=z9Q dd es
    subst ev
    exact ⟨p,ss,rfl,sq,h1,h2,fun l hl=>post.ok q (.laid hl) (c.laid hl) (Dat.newL c hl (z4H _))⟩
   ·exact ak q
  ·exact ak q
 ·exact ak q
end
def zfy (y z:List Nat) (to:DE):DE:=fun σ O=>(to σ O).bnd fun x O1=>match x with
 | .str i=>if i.length <= 1000 then .ok (.str (Txt.replace ⟨i.toArray⟩ ⟨y.toArray⟩ ⟨z.toArray⟩).cps.toList) O1 else .bad
 | _=>.bad
section
variable {X:Cx} {Ex:Nat->Hp->Prop} {o:aK} {to:DE} {apos cpos p1 p2:Pos}
theorem zh7 (y z:List Nat) (hy:ys=⟨y.toArray⟩) (hz:zs=⟨z.toArray⟩) (hyz:(ys == zs)=false) (hzl:z.length <= 14) (ho:PD X Ex o to) (hbase:attributeBase o "replace" X.env (eval o X.env)=eval o X.env:=by rfl)
  (hline:(apos.endLine == cpos.line)=true:=by rfl):PD X Ex (.Call (.Attribute o "replace" apos) [.Constant (.str ys) j1 p1,.Constant (.str zs) j2 p2] [] cpos) (zfy y z to):=by
 refine ⟨?_⟩
 rintro pins s σv H Q I ⟨hid,μ,σ,O,e1,c1,q⟩
 refine jp hbase rfl hline rfl (thn (ho.out pins s σv H (fun v H1=>∃ i:List Nat,v=.str ⟨i.toArray⟩/\i.length <= 1000/\Q (.str (Txt.replace ⟨i.toArray⟩ ⟨y.toArray⟩ ⟨z.toArray⟩)) H1) I (rd.go e1 c1 q fun d O1 v H1 μ1 e2 x cl r p=>?_)) fun v s1 ⟨x,H1,I1,r1,i,ex,hl,q1⟩=>?_)
 ·cases d with
  | str i=>
   unfold Dat at r
   obtain ⟨h1,q⟩:=post.ite p
   exact ⟨i,r,h1,post.here q cl (by unfold Dat;rw [z8r])⟩
  | _=>exact ak p
 ·subst ex
  obtain ⟨t,rfl⟩:=r1
  refine ⟨"str", "str.replace",js,PySem.F.slot_str_replace,PySem.F.type_str_replace,jR _ _ _,(fun a e=>by cases e),?_⟩
  refine jq rfl (gf ?_)
  show ar _ _ (spliced ((false,eval (.Constant (.str ys) j1 p1) X.env) :: (false,eval (.Constant (.str zs) j2 p2) X.env) :: [])) _ _ s1
  refine eU (il (eU (il (f6 ?_))))
  have hi:(⟨i.toArray⟩:Str).length <= 1048576:=bb (show i.toArray.size <= 1000 by simpa using hl) (by decide)
  subst hy hz
  refine d0 (n:=1) (Nat.le_add_left _ _) (SC.replaceW (cM I1.tk) (Nat.succ_ne_zero _) (aX (ci _)) hyz hi (show z.toArray.size <= 14 by simpa using hzl) fun t' k htk=>⟨.str _,H1,I1.tok k htk,⟨_,rfl⟩,q1⟩)
end
section
variable {X:Cx} {Ex:Nat->Hp->Prop}
theorem z6x (_:Nx ext) (hcalm:X.calm=true) (hb:BOk X.env.scope scope (X.N ++ ext) (z12 (⟨it0,g,ts⟩ :: cs))) (hi:PDI X Ex tg iter it0)
  (blk:∀ cells C s H fp,PG (cxB X (X.N ++ ext) scope cells C s H fp) tg (g.rd X.K)/\bi (fun e t=>PDT (cxB X (X.N ++ ext) scope cells C s H fp) Ex0 e t) ifs ts/\ms (cxB X (X.N ++ ext) scope cells C s H fp) gs cs/\PD (cxB X (X.N ++ ext) scope cells C s H fp) Ex0 ke tk/\PD (cxB X (X.N ++ ext) scope cells C s H fp) Ex0 ve tv)
  (hk:ext.length=k:=by rfl) (hs:∀ x,cb iter X.env x=pure x:=by intro _;rfl):PD X Ex (.DictComp ke ve (⟨tg,iter,ifs,0⟩ :: gs) scope pos) (z98 k it0 g ts cs tk tv):=hk ▸ zfQ ext hcalm hi hb blk hs
end
end DL
namespace DL
open PySem L2
open PyProof.Rows (AllBare)
structure zlm (Cl:Nat->ae) (P:aJ) (w:aR) (K:aj) (mg:Str->Option ae) (base:aP) (x:Str) (k n:Nat) (Pt:af) (F:List D->Ow->R D):Prop where
 ex:∃ f fd ps,mg x=some (.ref f)/\cC K (.ref f)=true/\Binds K fd ps []/\mq P w K mg base (CXr P w Cl) k f fd ps (zgo K (Xk Cl) n Pt F)
structure zn9 (K:aj) (mg:Str->Option ae) (x:Str) (st:cu) (c:af):Prop where
 ex:∃ f fd,mg x=some (.ref f)/\L2.Fun K x x st f fd/\fd.code=.ref c
structure Lam where
 params:dX
 body:aK
 scope:b9
 tE:DE
def zb2 (X:Cx) (L:Lam) (c:af) (ct:ae):Obj:={ cls:=.type "function",data:=.func (c8 "<lambda>" (X.env.qual ++ "<lambda>") L.params L.body L.scope (z1l X.env.cells L.scope.names []) ((X.mg "__name__").getD .none) (.ref c) ct) }
def mm (X:Cx) (L:Lam) (H:Hp) (a:af):Prop:=∃ c φ ct,H a=some (.ext fun h=>h.get? a=some (zb2 X L c ct))/\H c=some (.ext φ)/\∀ h:aP,φ h->∃ q,h.CodeRec (.ref c) q
structure zfZ (Cl:Nat->ae) (X:Cx) (k:Nat) (L:Lam):Prop where
 ls:z4A X.env.scope L.scope
 df:defaultsOf L.params X.env=([],[])
 bl:∀ (name qual:Str) (cl:List (Str × af)) (pm cd ct:ae),bindArgs (c8 name qual L.params L.body L.scope cl pm cd ct) ⟨[],[]⟩=pure []
 E:∀ (q:Str) (lam:af) (cd:ae) (cl:List (Str × af)) (A:ba) (outer:List Env) (s:ai) (H:Hp) (E:XK),me k (A.deeper (z9N q L.scope s.heap.objs.size lam cd cl))->PD (cxL (CXr X.prog X.w Cl) X.prog X.w X.K X.mg X.base X.N (z9N q L.scope s.heap.objs.size lam cd cl) A outer s H E) (Xk Cl E) L.body L.tE
def zlM (Cl:Nat->ae) (Ca:Nat->Nat) (P:aJ) (w:aR) (K:aj) (mg:Str->Option ae) (base:aP) (x:Str) (n j:Nat) (tR:DS):Prop:=∃ f,mg x=some (.ref f)/\cC K (.ref f)=true/\
 ∀ (k:Nat) (Y:Cx) (pins:List (af × Obj)) (σ1:St) (H:Hp) (s:ai) (lam:af) (hid μ:List af) (r:R D) (Q:VK) (Ex:Nat->Hp->Prop),Y.prog=P->Y.w=w->Y.K=K->Y.mg=mg->Y.base=base->L2.Inv Y pins σ1 H s->me (k + 1) Y.A->
  (∀ s2:ai,Un (frs Y.stack) [] H H s.heap s2.heap->HOk P w H s2.heap->gO lam s2.heap)->Thk Cl P w K mg base (frs Y.stack) H s.heap lam k hid μ r->z1q Ex K H hid μ (z9K Ca n j tR r) Q->ar (ay P w) Y.A (call (.ref f) [.ref lam]) (EP Y pins σ1 Q) Y.xe s
theorem zlX {Cl:Nat->ae} {Ca:Nat->Nat} {P:aJ} {w:aR} {K:aj} {mg:Str->Option ae} {base:aP} {i j:Nat} {T:af} {x nf n y xT:Str} {st:cu} {N:List Str} {z2C:List cu} {tR:DS} {p0 p1 p2 p3 p4 p5 p6 p7 p8 pq pc pos:Pos} {kc:_}
  (h:z1n K mg x st)
  (hbd:z1O st=.Assign [.Name y pq] (.Constant .none kc pc) p0 :: .Try [.Expr (.Call (.Name nf p1) [] [] p2) p3] [.ExceptHandler (some (.Name xT p4)) (some n) [.Assign [.Name y p5] (.Name n p6) p7] p8] [] [] pos :: z2C)
  (S:z13 N [nf] (z0V st)) (hN:N.Nodup) (hk0:N[0]?=some nf) (hi:N[i]?=some n) (hj:N[j]?=some y) (hij:i ≠ j) (hj0:j ≠ 0) (hn:(z0V st).names.lookup n=some .local) (hy:(z0V st).names.lookup y=some .local) (hvf:Vis (z0V st) nf)
  (hb:∀ (kV doc pm:ae) (an:Option af) (cdv ct:ae) (us:List ae),us.length=1->bindArgs (bA x x (z2I st) (z1O st) (z0V st) .none kV doc pm an cdv ct) ⟨us,[]⟩=pure ([nf].zip us))
  (hgT:(z0V st).names.lookup xT=some .globalImplicit) (hmT:mg xT=some (.ref T)) (hcls:∀ c,Cl c=.ref (Ca c)/\XcK K (Ca c)/\dq K (.ref (Ca c)) (.ref T)=some true)
  (hrest:∀ (k:Nat) (A:ba) (outer:List Env) (f:af) (cdv:ae) (s:ai) (H:Hp),me k (A.deeper (bf x (z0V st) s.heap.objs.size f cdv))->z5F (cxX Cl P w K mg base N x (z0V st) f cdv A outer s H E0) (Xk Cl E0) z2C tR)
  (Z:zjC nf n y xT p0 p1 p2 p3 p5 p6 p7 pq pc kc:=by exact {}):zlM Cl Ca P w K mg base x N.length j tR:=by
 obtain ⟨f,fd,hm,F⟩:=h
 refine ⟨f,hm,F.kp,fun k Y pins σ1 H s lam hid μ r Q Ex e1 e2 e3 e4 e5 I hr hlam th q=>?_⟩
 subst e1;subst e2;subst e3;subst e4;subst e5
 exact zb6 (Y:=Y) (k:=k) (fs:=frs Y.stack) (h0:=s.heap) (hid:=hid) (μ:=μ) (r:=r) I F hr hbd S hN hk0 hi hj hij hj0 hn hy hvf hb hgT hmT hcls (fun f cdv s H hh=>hrest _ _ _ f cdv s H hh) hlam th (fun _ un=>un) q Z
section
variable {X:Cx} {pins:List (af × Obj)} {σ:St} {H H':Hp} {s s0:ai}
theorem Inv.adopt (I0:L2.Inv X pins σ H0 s0) (I:L2.Inv X pins σ H s) (hge:s0.heap.objs.size <= a) (hn:H a=none) (new:mi X.prog X.w (upd H a o) s.heap a o):L2.Inv X pins σ (upd H a o) s:=by
 have nb:∀ {b:af} {u:Obj},X.s₀.heap.get? b=some u->b ≠ a:=fun e z=>absurd (aN (aF e) (bb I0.sz hge)) (by rw [z];exact bE _)
 refine ⟨I.ok,I.os,I.bare,⟨I.base.keep,I.base.slot,fun b u e n hx=>by rw [z0Y (nb e)];exact I.base.free b u e n hx,I.base.there,fun b xs e=>?_,fun b u v e=>?_,fun b ps e=>?_⟩,I.loc,I.cell,?_,fun x c e=>?_,fun p hp=>?_,fun b u e=>?_,I.len,I.tk⟩
 ·have:=I.base.tups b xs e
  rw [z0Y (z0Z this hn)];exact this
 ·have:=I.base.frzs b u v e
  rw [z0Y (z0Z this hn)];exact this
 ·obtain ⟨more,this⟩:=I.base.tbls b ps e
  exact ⟨more,by rw [z0Y (z0Z this hn)];exact this⟩
 ·rw [z0Y (aX (aN I0.lt hge))];exact I.free
 ·obtain ⟨v,z⟩:=I0.cell x c e
  rw [z0Y (aX (aN z.lt hge))];exact I.freeC x c e
 ·obtain ⟨h1,h2,h3⟩:=I.pin p hp
  have hl:=aF (I0.pin p hp).1
  exact ⟨h1,by rw [z0Y (aX (aN hl hge))];exact h2,h3⟩
 ·by_cases hb:b=a
  ·subst hb
   rw [z18] at e;cases e;exact new
  ·rw [z0Y hb] at e
   exact (I.hok b u e).stay (fun _ _ _ z=>z) (fun b2 z=>by rw [z0Y (z0Z z hn)];exact z) fun b2 xs z=>by rw [z0Y (z0Z z hn)];exact z
theorem mm.ext (h:mm X L H a) (x:Ext H [] H' []):mm X L H' a:=by
 obtain ⟨c,φ,ct,h1,h2,h3⟩:=h
 exact ⟨c,φ,ct,x.keep _ _ h1 (by simp),x.keep _ _ h2 (by simp),h3⟩
theorem mm.put (h:mm X L H a) (hl:H l=some (.lst vs)):mm X L (upd H l o) a:=by
 obtain ⟨c,φ,ct,h1,h2,h3⟩:=h
 have n:∀ {b:af} {φ:aP->Prop},H b=some (.ext φ)->b ≠ l:=fun e z=>by rw [z,hl] at e;cases e
 exact ⟨c,φ,ct,by rw [z0Y (n h1)];exact h1,by rw [z0Y (n h2)];exact h2,h3⟩
theorem z7m (Lk:z78 X.mg X.base c Pt) (hcode:X.env.code=.ref c) (ls:z4A X.env.scope L.scope) (df:defaultsOf L.params X.env=([],[])):PE X (.Lambda L.params L.body L.scope pos) (fun _ H Q=>ml H Pt/\∀ a H',H a=none->Ext H [] H' []->mm X L H' a->Q (.ref a) H'):=by
 intro pins s σ H Q I ⟨ti,q⟩
 have hfree:∀ y ∈ L.scope.names,y.2=.free->∃ c,X.env.cells.lookup y.1=some c:=fun y hy hf=>I.ok.has y.1 (ls.frees y hy hf)
 refine zg6 I Lk hcode ti (z3N hfree) df fun lam cd ctv h' tk H' I1 ext cells hlN hge hget hrec=>?_
 obtain ⟨cc,φ,rfl,hcc,hφ⟩:=hrec
 have new:mi X.prog X.w (upd H' lam (.ext fun h=>h.get? lam=some (zb2 X L cc ctv))) h' lam (.ext fun h=>h.get? lam=some (zb2 X L cc ctv)):=⟨hget,⟨_,hget⟩,fun h1 h2 z k=>k _ z⟩
 exact ⟨.ref lam,_,Inv.adopt (s0:=s) I I1 hge hlN new,rfl,q lam _ (I.hok.fresh hge) ((ext []).trans (.laid hlN)) ⟨cc,φ,ctv,z18,by rw [z0Y (z0Z hcc hlN)];exact hcc,hφ⟩⟩
end
structure Bld (X:Cx) (H0:Hp) (l:af) (ls:List Lam) (as:List af) (H:Hp):Prop where
 nl:H0 l=none
 ea:Ea l H0 [] H []
 at_:H l=some (.lst (as.map V.ref))
 lam:bi (fun L a=>mm X L H a) ls as
 nd:as.Nodup
theorem Paired.imp' {α β:Type} {p q:α->β->Prop} (h:∀ a b,p a b->q a b):∀ {l:List α} {m:List β},bi p l m->bi q l m
 | _,_,.nil=>.nil
 | _,_,.cons x r=>.cons (h _ _ x) (Paired.imp' h r)
theorem Paired.snoc' {α β:Type} {p:α->β->Prop} {x:α} {y:β} (h:p x y):∀ {l:List α} {m:List β},bi p l m->bi p (l ++ [x]) (m ++ [y])
 | _,_,.nil=>.cons h .nil
 | _,_,.cons z r=>.cons z (Paired.snoc' h r)
theorem Paired.right' {α β:Type} {p:α->β->Prop} {y:β}:∀ {l:List α} {m:List β},bi p l m->y ∈ m->∃ x,p x y
 | _,_,.cons z r,h=>by
  rcases av.mp h with rfl|h
  ·exact ⟨_,z⟩
  ·exact Paired.right' r h
theorem Bld.more {X:Cx} {H0 H H':Hp} {l a:af} {ls:List Lam} {as:List af} {L:Lam} (b:Bld X H0 l ls as H) (n:H a=none) (x:Ext H [] H' []) (k:mm X L H' a):Bld X H0 l (ls ++ [L]) (as ++ [a]) (upd H' l (.lst (as.map V.ref ++ [.ref a]))):=by
 have hl:H' l=some (.lst (as.map V.ref)):=x.keep _ _ b.at_ (by simp)
 refine ⟨b.nl,(b.ea.trans x.ea).trans (.put ⟨_,hl⟩),by rw [z18];simp,Paired.snoc' (p:=fun L c=>mm X L (upd H' l (.lst (as.map V.ref ++ [.ref a]))) c) (k.put hl) (Paired.imp' (p:=fun L c=>mm X L H c) (fun _ _ z=>(mm.ext z x).put hl) b.lam),?_⟩
 rw [dG]
 refine ⟨b.nd,by simp,fun y hy z hz=>?_⟩
 have:z=a:=by simpa using hz
 subst this
 rintro rfl
 obtain ⟨L',c,φ,ct,h1,_⟩:=Paired.right' b.lam hy
 rw [n] at h1;cases h1
theorem Bld.ext (b:Bld X H0 l ls as H) (μ:List af):Ext H0 μ H μ:=
 ⟨⟨[],by simp⟩,fun c o h _ ht=>b.ea.kept c o h (by simp) (z0Z h b.nl) ht,fun _ m=>.inl m,b.ea.there,b.ea.tab⟩
theorem Bld.cells (b:Bld X H0 l ls as H) (c:l7 K H0 hid μ O):l7 K H hid μ O:=by
 refine ⟨c.len,c.nd,c.nh,fun a m=>b.ea.there a (c.ht a m),fun k a e=>?_⟩
 obtain ⟨ds,vs,h1,h2,h3⟩:=c.at_ k a e
 exact ⟨ds,vs,h1,b.ea.kept a _ h2 (by simp) (z0Z h2 b.nl) (by intro ps z;cases z),h3.ext (b.ext μ)⟩
def z5x (f:R D->R D):List DE->Sg->Ow->List D->R (List D)
 | [],_,O,acc=>.ok acc O
 | t :: ts,σ,O,acc=>(f (t σ O)).bnd fun v O1=>z5x f ts σ O1 (acc ++ [v])
def z3b (f:R D->R D) (ts:List DE):DE:=fun σ O=>(noX (z5x f ts σ O [])).bnd fun acc O1=>.ok (.lst acc) O1
def teL (f:R D->R D) (n ic ix:Nat) (al:List (af × Lam)):DE:=fun σ O=>match σ[ix]? with
 | some (some (.adr a))=>match al.lookup a with
  | some L=>f (L.tE ((σ.take n).set ic none) O)
  | none=>.bad
 | _=>.bad
theorem z7n (hn:σ.length=n) (nd:(al.map (·.1)).Nodup) (hs:al.length <= 1000):∀ (bl:List (af × Lam)) (i:Nat) (O:Ow) (acc:List D),al.drop i=bl->acc.length=i->
  z1p (.val (al.map fun p=>.adr p.1)) (z4B ⟨it0,.one n,[]⟩ [] (teL f n ic n al) (clr (σ ++ aq 1 none) (z12 [⟨it0,.one n,[]⟩]))) bl.length i O acc=z5x f (bl.map fun p=>p.2.tE) (σ.set ic none) O acc
 | [],i,O,acc,hd,hi=>by
  have e:(Src.val (al.map fun p=>D.adr p.1)).get O i=none:=by
   show (al.map fun p=>D.adr p.1)[i]?=none
   have:=congrArg k9 hd
   simp at this
   simp;omega
  show z1p _ _ 0 i O acc=_
  unfold z1p
  rw [e];rfl
 | (a,L) :: bl,i,O,acc,hd,hi=>by
  have e0:al[i]?=some (a,L):=by
   have:(al.drop i)[0]?=some (a,L):=by rw [hd];rfl
   simpa using this
  have e:(Src.val (al.map fun p=>D.adr p.1)).get O i=some (.adr a):=by
   show (al.map fun p=>D.adr p.1)[i]?=_
   rw [bc,e0];rfl
  have hlk:al.lookup a=some L:=by
   have m:=aW e0
   clear e e0 hd hi hs
   induction al with
   | nil=>cases m
   | cons p r ih=>
    obtain ⟨n1,n2⟩:=bO.mp nd
    rcases av.mp m with rfl|m
    ·simp [cL]
    ·have:(a == p.1)=false:=by
      have:a ≠ p.1:=fun z=>n1 (aO.mpr ⟨(a,L),m,z⟩)
      simpa using this
     rw [cL,this]
     exact ih n2 m
  have hil:i < al.length:=(ao.mp e0).1
  have hσ:clr (clr (σ ++ aq 1 none) [n]) [n]=σ ++ [none]:=by
   show ((σ ++ [none]).set n none).set n none=_
   rw [bD]
   subst hn
   simp
  have step:z4B ⟨it0,.one n,[]⟩ [] (teL f n ic n al) (clr (σ ++ aq 1 none) (z12 [⟨it0,.one n,[]⟩])) (.adr a) O acc=(f (L.tE (σ.set ic none) O)).bnd fun v O1=>.ok (acc ++ [v]) O1:=by
   have e1:(σ ++ [none]).set n (some (D.adr a))=σ ++ [some (.adr a)]:=by subst hn;simp
   have hput:(Tg.one n).put (.adr a) (clr (clr (σ ++ aq 1 none) (z12 [⟨it0,.one n,[]⟩])) (z12 [⟨it0,.one n,[]⟩]))=some (σ ++ [some (.adr a)]):=by
    show some ((clr (clr (σ ++ aq 1 none) [n]) [n]).set n (some (D.adr a)))=_
    rw [hσ,e1]
   unfold z4B
   simp only [hput]
   show (z3a [] (teL f n ic n al) (σ ++ [some (.adr a)]) O acc)=_
   unfold z3a
   have e2:teL f n ic n al (σ ++ [some (.adr a)]) O=f (L.tE (σ.set ic none) O):=by
    unfold teL
    have:(σ ++ [some (D.adr a)])[n]?=some (some (.adr a)):=by subst hn;simp
    rw [this]
    simp only [hlk]
    have:(σ ++ [some (D.adr a)]).take n=σ:=by subst hn;simp
    rw [this]
   rw [e2]
   cases f (L.tE (σ.set ic none) O) with
   | ok v O1=>show (if acc.length < 100000 then _ else _)=_;rw [if_pos (by omega)];rfl
   | exc c O1=>rfl
   | bad=>rfl
  show z1p _ _ (bl.length + 1) i O acc=_
  unfold z1p
  rw [e]
  show (z4B _ _ _ _ (.adr a) O acc).bnd _=_
  rw [step]
  show _=(f (L.tE (σ.set ic none) O)).bnd _
  cases f (L.tE (σ.set ic none) O) with
  | ok v O1=>exact z7n hn nd hs bl (i + 1) O1 (acc ++ [v]) (by
    have:=congrArg (List.drop 1) hd
    simpa [lE,kE] using this) (by simp [hi])
  | exc c O1=>rfl
  | bad=>rfl
theorem l9.take (e:l9 K H hid μ σ σv) (n:Nat):l9 K H hid μ (σ.take n) (σv.take n):=
 ⟨by simp [e.len],fun i d h=>by
  rw [fO] at h
  split at h
  ·rename_i hi
   obtain ⟨v,h1,h2⟩:=e.at_ i d h
   exact ⟨v,by rw [fO,if_pos hi];exact h1,h2⟩
  ·cases h⟩
theorem l9.drop (e:l9 K H hid μ σ σv) (i:Nat):l9 K H hid μ (σ.set i none) σv:=
 ⟨by simp [e.len],fun j d h=>by
  by_cases hj:i=j
  ·subst hj
   by_cases hl:i < σ.length
   ·rw [aT hl] at h;cases h
   ·rw [aQ.mpr (by simp;omega)] at h;cases h
  ·rw [aY hj] at h
   exact e.at_ j d h⟩
section
variable {X:Cx} {Cl:Nat->ae}
theorem zdU
  (I0:L2.Inv X pins σ0 H0 s0) (hfp:∀ b ∈ fp,z8u X pins H0 b) (un0:Un (frs X.stack) fp H0 H s0.heap h) (R:zfZ Cl X k L) (lam:mm X L H a) (ag:∀ i,i < X.N.length->σv[i]?=σ0[i]?) (ev:l9 X.K H hid μ σ σv) (cl:l7 X.K H hid μ O) (hl:X.N.length <= σv.length):
  Thk Cl X.prog X.w X.K X.mg X.base (frs X.stack) H h a (k + 1) hid μ (L.tE ((σ.take X.N.length).set ic none) O):=by
 intro A outer s2 Q E hr e0 un qq
 obtain ⟨cc,φ,ct,h1,h2,h3⟩:=lam
 have hget:s2.heap.get? a=some (zb2 X L cc ct):=(e0.hok a _ h1).1
 obtain ⟨qn,hqn⟩:=h3 _ (e0.hok cc _ h2).1
 have hfree:∀ y ∈ L.scope.names,y.2=.free->∃ c,X.env.cells.lookup y.1=some c:=fun y hy hf=>I0.ok.has y.1 (R.ls.frees y hy hf)
 have hcl:∀ x c,(z1l X.env.cells L.scope.names []).lookup x=some c->X.env.cells.lookup x=some c:=fun x c e=>by
  rcases z3q _ _ (be e) with m|⟨m,z⟩
  ·cases m
  ·obtain ⟨c',hc'⟩:=hfree (x,.free) m rfl
   have hc2:X.env.cells.lookup x=some c':=hc'
   rw [hc2] at z ⊢;rw [z];rfl
 have hasF:∀ x,L.scope.names.lookup x=some .free->∃ c,(z1l X.env.cells L.scope.names []).lookup x=some c:=fun x e=>by
  have m:=z3x (cells:=X.env.cells) L.scope.names [] (be e)
  exact ⟨_,z1C (z2F _ _ R.ls.nd (by simp) (by intro p hp;cases hp)) m⟩
 have hfv:∀ x,L.scope.names.lookup x=some .free->X.env.scope.names.lookup x=some .cell \/ X.env.scope.names.lookup x=some .free:=fun x e=>R.ls.frees (x,.free) (be e) rfl
 have hvis:∀ x,Vis L.scope x->L.scope.names.lookup x=some .free:=fun x hx=>by
  rcases hx with z|z|z
  ·exact absurd rfl (R.ls.loc _ (be z))
  ·exact absurd rfl (R.ls.cell _ (be z))
  ·exact z
 -- the cells of the frame are as they were
 have kp:∀ x c v,X.env.cells.lookup x=some c->s0.heap.IsCell c v->s2.heap.IsCell c v/\H c=none:=fun x c v e z=>by
  have nf:c ∉ fp:=fun m=>(hfp c m).2.2.2.2.1 x c e rfl
  obtain ⟨o,ho,hd⟩:=z
  obtain ⟨sl,e1⟩:=un0.any ho (I0.freeC x c e) nf
  have n1:=un0.free c o ho (I0.freeC x c e) nf
  obtain ⟨sl2,e2⟩:=un.any e1 n1 (by simp)
  exact ⟨⟨_,e2,hd⟩,n1⟩
 refine zjd (k:=k) (t:=L.tE) (N:=X.N) (σ:=σv.take X.N.length) (σd:=(σ.take X.N.length).set ic none) (cl:=z1l X.env.cells L.scope.names []) (cd:=.ref cc) hr e0 hget hqn R.ls.co R.ls.gen R.ls.kind R.ls.cell (R.bl _ _ _ _ _ _) hvis (fun x c e=>?_) (fun x y c e1 e2=>I0.ok.inj x y c (hcl x c e1) (hcl y c e2)) hasF (fun i x v e1 e2 e3=>?_) (by simp;omega) (R.E _ _ _ _ _ _ _ _ _) ((ev.take _).drop ic) cl qq
 ·obtain ⟨v,z⟩:=I0.cell x c (hcl x c e)
  obtain ⟨z1,z2⟩:=kp x c v (hcl x c e) z
  exact ⟨⟨v,z1⟩,z2⟩
 ·have hi:i < X.N.length:=(ao.mp e1).1
  rw [fO,if_pos hi,ag i hi] at e2
  obtain ⟨m,hn,hlk⟩:=I0.loc
  obtain ⟨u,r,l⟩:=hlk i x v e1 e2 (.inr (hfv x e3))
  obtain ⟨c,hc⟩:=hasF x e3
  refine ⟨u,c,r,hc,?_⟩
  rcases l with ⟨z,_⟩|⟨_,c',g1,g2⟩
  ·have z':X.env.scope.names.lookup x=some .local:=z
   rcases hfv x e3 with q|q <;> (rw [z'] at q;cases q)
  ·have:=hcl x c hc
   rw [g1] at this;cases this
   exact (kp x _ _ g1 g2).1
end
theorem mm.mono (h:mm X L H a) (k:∀ b φ,H b=some (.ext φ)->H' b=some (.ext φ)):mm X L H' a:=by
 obtain ⟨c,φ,ct,h1,h2,h3⟩:=h
 exact ⟨c,φ,ct,k _ _ h1,k _ _ h2,h3⟩
theorem l7.lsts (c:l7 K H hid μ O):∀ a ∈ μ,∃ vs,H a=some (.lst vs):=fun a m=>by
 obtain ⟨k,e⟩:=jT m
 obtain ⟨_,vs,_,h2,_⟩:=c.at_ k a e
 exact ⟨vs,h2⟩
theorem Paired.zip' {α β:Type} {p:α->β->Prop} {x:α} {y:β}:∀ {l:List α} {m:List β},bi p l m->(y,x) ∈ m.zip l->p x y/\x ∈ l
 | _,_,.cons z r,h=>by
  rcases av.mp h with e|h
  ·cases e;exact ⟨z,by simp⟩
  ·obtain ⟨h1,h2⟩:=Paired.zip' r h
   exact ⟨h1,au _ h2⟩
theorem Paired.len' {α β:Type} {p:α->β->Prop}:∀ {l:List α} {m:List β},bi p l m->l.length=m.length
 | _,_,.nil=>rfl
 | _,_,.cons z r=>by simp [Paired.len' r]
theorem zcn {β:Type} {a:Nat} {b:β}:∀ {l:List (Nat × β)},l.lookup a=some b->(a,b) ∈ l
 | (k,v) :: r,h=>by
  rw [cL] at h
  split at h
  ·rename_i e
   cases h
   rw [show a=k from by simpa using e];simp
  ·exact au _ (zcn h)
def ziU (X:Cx) (Pt:af) (L:Lam):TE:=fun _ H Q=>ml H Pt/\∀ a H',H a=none->Ext H [] H' []->mm X L H' a->Q (.ref a) H'
def ze0 (Cl:Nat->ae) (f:R D->R D) (ic k:Nat) (Ex:Nat->Hp->Prop) (X:Cx):TE:=fun σv H Q=>∃ l as ls,σv[ic]?=some (some (.ref l))/\H l=some (.lst (as.map V.ref))/\bi (fun L a=>mm X L H a) ls as/\as.Nodup/\as.length <= 1000/\(∀ L ∈ ls,zfZ Cl X k L)/\
 ∃ hid μ σ O,l9 X.K H hid μ σ σv/\l7 X.K H hid μ O/\l ∉ hid/\l ∉ μ/\z1q Ex X.K H hid μ (z3b f (ls.map Lam.tE) (σ.set ic none) O) Q
section
variable {X:Cx} {Ex:Nat->Hp->Prop} {Cl:Nat->ae} {Ca:Nat->Nat}
theorem zaz {k ic n j:Nat} {tR:DS} {xr xc xs:Str} {scope:b9} {pr pv pcall pt pi pos:Pos} (rc:zlM Cl Ca X.prog X.w X.K X.mg X.base xr n j tR) (hr:me (k + 2) X.A) (hcalm:X.calm=true) (hb:BOk X.env.scope scope (X.N ++ [xc]) [X.N.length]) (hic:X.N[ic]?=some xs) (hvs:Vis X.env.scope xs)
  (hN:(X.N ++ [xc]).Nodup) (hgl:(relabel scope X.env).names.lookup xr=some .globalImplicit) (hvc:(relabel scope X.env).names.lookup xc=some .local)
  (hs:∀ x,cb (.Name xs pi) X.env x=pure x:=by intro _;rfl) (hdb:(xr == ("__debug__":Str))=false:=by decide) (hd1:(xc == ("__debug__":Str))=false:=by decide) (hd2:(xc == ("__classdict__":Str))=false:=by decide) (hd3:(xs == ("__debug__":Str))=false:=by decide) (hd4:(xs == ("__classdict__":Str))=false:=by decide):
  PE X (.ListComp (.Call (.Name xr pr) [.Name xc pv] [] pcall) [⟨.Name xc pt,.Name xs pi,[],0⟩] scope pos) (ze0 Cl (z9K Ca n j tR) ic k Ex X):=by
 rintro pins s σv H Q I ⟨l,as,ls,hl,hH,hp,nd,hsz,hR,hid,μ,σ,O,e1,c1,n1,n2,q⟩
 have hlen:=Paired.len' hp
 have hm1:(as.zip ls).map (·.1)=as:=by rw [List.map_fst_zip];omega
 have hm2:(as.zip ls).map (·.2)=ls:=by rw [List.map_snd_zip];omega
 have hσl:σ.length=X.N.length:=e1.len.trans I.len
 have dats:∀ as:List af,l8 X.K H hid μ (as.map D.adr) (as.map V.ref):=fun as=>by
  induction as with
  | nil=>exact .nil
  | cons a r ih=>exact .cons (by unfold Dat;rfl) ih
 have e1':l9 X.K H hid μ (σ.set ic (some (.lst (as.map D.adr)))) σv:=by
  have:=e1.set (d:=.lst (as.map D.adr)) (v:=.ref l) (by unfold Dat;exact ⟨l,_,rfl,.inl ⟨.inl hH,n1,n2⟩,dats as⟩) ic
  rwa [show σv.set ic (some (.ref l))=σv from by
   have hi:=(ao.mp hl).1
   have he:=(ao.mp hl).2
   rw [<- he];simp] at this
 rw [eval_ListComp]
 refine z61 (Ex:=Ex) (z8t _) (em:=emL (teL (z9K Ca n j tR) X.N.length ic X.N.length (as.zip ls))) (it0:=dIt (z0U ic)) (g:=.one X.N.length) (ts:=[]) (cs:=[]) (ext:=[xc]) (gs:=[]) (σ:=σ.set ic (some (.lst (as.map D.adr)))) (O:=O) (use:=none) hcalm (zck (zfS hic hvs hd3 hd4)) hb (fun cells Cn s0 H0 fp I0 hfp hx=>?_) hs I e1' c1 (zbe (o:=false) (Q:=Q) c1 ?_ fun L H' hQ s' C I' ns nC l1 y1 ce pn=>?_)
 ·obtain ⟨μx,hx⟩:=hx
  refine ⟨zgj (i:=X.N.length) hN (by show (X.N ++ [xc])[X.N.length]?=some xc;simp) (.inl hvc) (.inr hvc),.nil,.nil,fun A hid' kk hk=>zaB rfl ?_ hk⟩
  rintro pins6 s6 σ6 H6 Q6 I6 ⟨μ6,σ6d,O6,⟨za,zn,μ0,o0,zea,zμ⟩,e6,c6,q6⟩
  unfold teL at q6
  split at q6
  ·rename_i a ha
   split at q6
   ·rename_i L hL
    obtain ⟨v,hv,dv⟩:=e6.at_ _ _ ha
    unfold Dat at dv
    subst dv
    obtain ⟨lam,mem⟩:=Paired.zip' hp (zcn hL)
    have lam6:mm X L H6 a:=(lam.mono (H':=H0) fun b φ e=>hx.keep b _ e fun m=>by
     obtain ⟨vs,z⟩:=c1.lsts b m
     rw [z] at e;cases e).mono fun b φ e=>zea.kept b _ (by rw [z0Y (z0Z e zn)];exact e) (fun m=>by
      obtain ⟨vs,z⟩:=zμ b m
      rw [z] at e;cases e) (z0Z e zn) (by intro ps z;cases z)
    obtain ⟨f,hm,hkp,RC⟩:=rc
    refine dW (z58 I6 hgl hm ?_ hdb)
    refine io (h₀:=X.base) I6.ok.mod.kin hkp ?_ (by rfl) (by rfl)
    show ar _ _ (spliced ((false,eval (.Name xc pv) (cxB X (X.N ++ [xc]) scope cells Cn s0 H0 fp).env) :: backTo pcall (aD [] (cxB X (X.N ++ [xc]) scope cells Cn s0 H0 fp).env))) _ _ s6
    refine eU (thn (z5D (X:=cxB X (X.N ++ [xc]) scope cells Cn s0 H0 fp) (i:=X.N.length) (pos:=pv) (by show (X.N ++ [xc])[X.N.length]?=some xc;simp) (.inl hvc) hd1 hd2 pins6 s6 σ6 H6 (fun v H7=>v=.ref a/\H7=H6) I6 ⟨_,hv,rfl,rfl⟩) fun u s7 ⟨v,H7,I7,rv,hv,hH7⟩=>?_)
    subst hv;subst hH7;cases rv
    refine f6 ⟨I7.kIn,?_⟩
    have l6:σ6.length=X.N.length + 1:=by rw [I6.len];show (X.N ++ [xc]).length=_;simp
    refine RC (k + 1) (cxB X (X.N ++ [xc]) scope cells Cn s0 H0 fp) pins6 σ6 H7 s7 a (A :: hid') μ6 _ Q6 Ex0 rfl rfl rfl rfl rfl I7 hr (fun s2 _ hok=>?_) (zdU (k:=k) (ic:=ic) I0 hfp I7.base (hR L mem) lam6 (fun i hi=>?_) e6 c6 (by omega)) q6
    ·obtain ⟨c,φ,ct,h1,h2,h3⟩:=lam6
     exact ⟨_,_,_,_,(hok a _ h1).1⟩
    ·rw [za i (fun m=>absurd hi (by rw [show i=X.N.length from by simpa [z12,Tg.slots] using m];exact bE _)),aL (by rw [I.len];exact hi)]
   ·exact ak q6
  ·exact ak q6
 ·rw [z5f]
  have hw:=z7n (f:=z9K Ca n j tR) (ic:=ic) (al:=as.zip ls) (it0:=dIt (z0U ic)) (σ:=σ.set ic (some (.lst (as.map D.adr)))) (n:=X.N.length) (by simp [hσl]) (by rw [hm1];exact nd) (by rw [jn];omega) (as.zip ls) 0 O [] rfl rfl
  have hsrc:dIt (z0U ic) (σ.set ic (some (.lst (as.map D.adr)))) O=.ok (.val (as.map D.adr)) O:=by
   have hi:ic < σ.length:=by rw [hσl];exact (ao.mp hic).1
   unfold dIt z0U
   rw [aT hi]
   rfl
  have hz:(as.zip ls).map (fun p=>D.adr p.1)=as.map D.adr:=by
   rw [<- hm1,bK];rw [hm1];rfl
  have hz2:(as.zip ls).map (fun p=>p.2.tE)=ls.map Lam.tE:=by
   rw [<- hm2,bK];rw [hm2];rfl
  rw [hz,hz2,bD] at hw
  have hzl:(as.zip ls).length=as.length:=by rw [jn];omega
  unfold z3M
  rw [hsrc]
  show z1q Ex X.K H hid μ (z8L false (noX (z1p (.val (as.map D.adr)) _ ((as.map D.adr).length) 0 O []))) Q
  rw [az,<- hzl]
  show z1q Ex X.K H hid μ (z8L false (noX (z1p (.val (as.map D.adr)) (z4B ⟨dIt (z0U ic),.one X.N.length,[]⟩ [] (teL (z9K Ca n j tR) X.N.length ic X.N.length (as.zip ls)) (clr (σ.set ic (some (.lst (as.map D.adr))) ++ aq 1 none) (z12 [⟨dIt (z0U ic),.one X.N.length,[]⟩]))) (as.zip ls).length 0 O []))) Q
  rw [hw]
  exact q
 ·obtain ⟨m,hn⟩:=ns
  exact ⟨m,hn,fun h' hs'=>⟨.ref L,H',Inv.bare I' hs' nC l1 y1 ce pn,rfl,hQ⟩⟩
def zcI (Pt iT ic:Nat) (f:R D->R D) (ts:List DE) (tb:DE):DS:=fun σ O=>match σ[iT]? with
 | some (some (.tab p))=>if p=Pt then z1v (dOp (fPy eqF) (z3b f ts) tb) (σ.set ic none) O else .bad
 | _=>.bad
theorem l9.set0 (e:l9 K H hid μ σ σv) (i:Nat) (x:Option V):l9 K H hid μ (σ.set i none) (σv.set i x):=
 ⟨by simp [e.len],fun j d h=>by
  by_cases hj:i=j
  ·subst hj
   by_cases hl:i < σ.length
   ·rw [aT hl] at h;cases h
   ·rw [aQ.mpr (by simp;omega)] at h;cases h
  ·rw [aY hj] at h ⊢
   exact e.at_ j d h⟩
theorem zbE
  (h1:PS X S1 (zl7 (zlx (zad (ziU X Pt ⟨p1,b1,s1,t1⟩) ziF)) (za3 ic))) (h2:PS X S2 (zcM (tBM X.K "list" z6F (ziT ic) (zad (ziU X Pt ⟨p2,b2,s2,t2⟩) ziF)))) (h3:PS X S3 (zcM (tBM X.K "list" z6F (ziT ic) (zad (ziU X Pt ⟨p3,b3,s3,t3⟩) ziF))))
  (h4:PS X S4 (zmy (tOp (rPy X.K eqF) (ze0 Cl f ic k Ex X) (rd Ex X.K tb)))) (R1:zfZ Cl X k ⟨p1,b1,s1,t1⟩) (R2:zfZ Cl X k ⟨p2,b2,s2,t2⟩) (R3:zfZ Cl X k ⟨p3,b3,s3,t3⟩) (hic:ic < X.N.length):z5F X Ex [S1,S2,S3,S4] (zcI Pt iT ic f [t1,t2,t3] tb):=by
 refine ⟨?_⟩
 rintro pins s σv H E I ⟨hid,μ,σ,O,e1,c1,q⟩
 obtain ⟨ti,q⟩:ml H Pt/\md Ex X.K H hid μ (z1v (dOp (fPy eqF) (z3b f [t1,t2,t3]) tb) (σ.set ic none) O) E:=by
  unfold zcI at q
  split at q
  ·rename_i p hp
   by_cases hpp:p=Pt
   ·rw [if_pos hpp] at q
    obtain ⟨v,_,d⟩:=e1.at_ iT _ hp
    unfold Dat at d
    rw [hpp] at d
    exact ⟨d.2,q⟩
   ·rw [if_neg hpp] at q;exact ak q
  ·exact ak q
 have hi:ic < σv.length:=by rw [I.len];exact hic
 refine (z2N h1 (z2N h2 (z2N h3 (zce h4)))) pins s σv H E I ⟨ti,fun a1 H1 n1 x1 l1=>⟨by show 1 <= sizeLine;decide,fun l nl=>?_⟩⟩
 have b1:Bld X H l [⟨p1,b1,s1,t1⟩] [a1] (upd H1 l (.lst [.ref a1])):=⟨x1.none nl,x1.ea.trans (Ext.laid nl).ea,z18,.cons (mm.ext l1 (.laid nl)) .nil,by simp⟩
 have hget:(σv.set ic (some (V.ref l)))[ic]?=some (some (.ref l)):=aT hi
 refine ⟨.ref l,hget,.inl ⟨rfl,_,.of b1.at_⟩,b1.ea.tab _ ti,fun a2 H2 n2 x2 l2=>⟨l,_,.ref a2,rfl,rfl,x2.keep _ _ b1.at_ (by simp),by show 1 < sizeLine;decide,?_⟩⟩
 have b2:=b1.more n2 x2 l2
 refine ⟨.ref l,hget,.inl ⟨rfl,_,.of b2.at_⟩,b2.ea.tab _ ti,fun a3 H3 n3 x3 l3=>⟨l,_,.ref a3,rfl,rfl,x3.keep _ _ b2.at_ (by simp),by show 2 < sizeLine;decide,?_⟩⟩
 have b3:=b2.more n3 x3 l3
 have ev:=(e1.ext (b3.ext μ)).set0 ic (some (.ref l))
 obtain ⟨nh,nm⟩:=c1.not_in b3.nl
 have q2:z1q Ex X.K H hid μ ((z3b f [t1,t2,t3] (σ.set ic none) O).bnd fun x O1=>(tb (σ.set ic none) O1).bnd fun y O2=>fPy eqF O2 x y) E.rt:=by
  have q:md Ex X.K H hid μ (((z3b f [t1,t2,t3] (σ.set ic none) O).bnd fun x O1=>(tb (σ.set ic none) O1).bnd fun y O2=>fPy eqF O2 x y).bnS fun d O1=>.rt d O1) E:=q
  generalize ((z3b f [t1,t2,t3] (σ.set ic none) O).bnd fun x O1=>(tb (σ.set ic none) O1).bnd fun y O2=>fPy eqF O2 x y)=r at q ⊢
  cases r with
  | ok d O1=>exact q
  | exc c O1=>exact q
  | bad=>exact q
 refine ⟨l,_,_,hget,b3.at_,b3.lam,b3.nd,by show 3 <= 1000;decide,fun L m=>?_,hid,μ,σ.set ic none,O,ev,b3.cells c1,nh,nm,?_⟩
 ·simp only [gq,cG,av,aM,or_false] at m
  rcases m with rfl|rfl|rfl
  ·exact R1
  ·exact R2
  ·exact R3
 ·rw [bD]
  exact post.bnd (post.ext q2 (b3.ext μ)) fun x O1 v H4 μ4 x4 c4 d4 p4=>rd.go (ev.ext x4) c4 p4 fun y O2 w H5 μ5 e5 x5 c5 d5 p5=>z5y H5 hid μ5 O2 x y v w E.rt c5 (d4.ext x5) d5 p5
end
end DL
namespace DL
open PySem L2 PySem.Spec PyProof.Rows
open Sem (wp)
theorem zb3 (its:List ae):∀ (k:Nat) (acc:List ae),(aq k its.toArray).foldl (· ++ ·) acc.toArray=(acc ++ (aq k its).flatten).toArray
 | 0,acc=>by simp
 | k + 1,acc=>by
  rw [cx,fH,show acc.toArray ++ its.toArray=(acc ++ its).toArray from by simp,zb3 its k (acc ++ its),cx]
  simp
theorem z9e (its:List ae) (k:Nat):(aq k its.toArray).foldl (· ++ ·) #[]=((aq k its).flatten).toArray:=by
 have:=zb3 its k []
 simpa using this
theorem z2r {α:Type} (l:List α):∀ k:Nat,(aq k l).flatten.length=k * l.length
 | 0=>by simp
 | k + 1=>by rw [cx,fh,aE,z2r l k,Nat.succ_mul,kE]
theorem ma.flat (r:ma vs us):∀ k:Nat,ma (aq k vs).flatten (aq k us).flatten
 | 0=>.nil
 | k + 1=>by rw [cx,cx,fh,fh];exact r.append (ma.flat r k)
theorem l8.flat {K:aj} {H:Hp} {hid μ:List af} {ds:List D} {vs:List V} (r:l8 K H hid μ ds vs):∀ k:Nat,l8 K H hid μ (aq k ds).flatten (aq k vs).flatten
 | 0=>.nil
 | k + 1=>by rw [cx,cx,fh,fh];exact r.append (l8.flat r k)
theorem zfA (l:af) (items:Array ae) (n:Nat) (u:Tok) (dd:Option af) (sl):
  Meets (cA.«tuple.__mul__» ⟨[.ref l,.int 1 u],[]⟩) (fun _ R s=>s.heap.get? l=some { cls:=.type "tuple",dict:=dd,data:=.seq items n,slots:=sl }/\R (.ok (.ret (.ref l))) s):=
 .of_wp fun prog w A R s h=>by obtain ⟨hp,g,d,tk,os⟩:=s;obtain ⟨hl,h⟩:=h;wp_walk;exact ⟨_,rfl,h⟩
theorem zfI (l:af) (items:List ae) (n:Nat) (x:Int) (u:Tok) (dd:Option af) (sl) (h0:items ≠ []) (h1:items.length <= 1000) (hx:2 <= x) (hx2:x <= 64):
  Meets (cA.«tuple.__mul__» ⟨[.ref l,.int x u],[]⟩) (fun _ R s=>s.heap.get? l=some { cls:=.type "tuple",dict:=dd,data:=.seq items.toArray n,slots:=sl }/\R (.ok (.ret (cP s.heap.objs.size))) { s with heap:=s.heap.push { cls:=.type "tuple",data:=.seq ((aq x.toNat items).flatten).toArray } }):=
 .of_wp fun prog w A R s h=>by
  obtain ⟨hp,g,d,tk,os⟩:=s;obtain ⟨hl,h⟩:=h
  have hz:items.toArray ≠ #[]:=by intro e;exact h0 (by simpa using e)
  have hb:(items.toArray.size:Int) * x <= 64000:=by
   rw [aA]
   calc (items.length:Int) * x <= 1000 * x:=Int.mul_le_mul_of_nonneg_right (by omega) (by omega)
    _ <= 64000:=by omega
  have c0:¬ (decide (x < -2 ^ 63) || decide (x ≥ 2 ^ 63))=true:=by simp;omega
  have c1:¬ ((items.toArray.size:Int) * x > (2 ^ 63 - 1) / 8):=by
   have:((2 ^ 63 - 1) / 8:Int)=1152921504606846975:=by decide
   omega
  have c2:fB ((items.toArray.size:Int) * x)=false:=by
   unfold fB
   have:sizeLine=16777216:=eF
   rw [this]
   exact decide_eq_false (by omega)
  have c3:=z9e items x.toNat
  have e1:(items.toArray.isEmpty || x == 1)=false:=by
   have:(x == 1)=false:=by simp;omega
   rw [this];simpa using h0
  have e2:(decide (x <= 0) || items.toArray.isEmpty)=false:=by
   have:decide (x <= 0)=false:=decide_eq_false (by omega)
   rw [this];simpa using h0
  wp_walk
  rw [if_neg c0]
  wp_walk
  rw [if_neg (by rw [e1];decide)]
  rw [if_neg (by rw [e2];decide)]
  rw [if_neg c1]
  dsimp only
  rw [if_neg (show ¬ fB ((items.toArray.size:Int) * x)=true by rw [c2];decide),c3]
  have hs:((aq x.toNat items).flatten).toArray.size <= sizeLine:=by
   have:sizeLine=16777216:=eF
   rw [aA,z2r]
   have:x.toNat <= 64:=by omega
   calc x.toNat * items.length <= 64 * 1000:=ib this h1
    _ <= _:=by omega
  exact aa (m:=bS _) (bn (am ⟨_,rfl,h⟩) hs)
theorem z9t (a:Int) (t:Tok) (l:af) (items:Array ae) (n:Nat) (dd:Option af) (sl):
  Meets (cA.«int.__rmul__» ⟨[.int a t,.ref l],[]⟩) (fun _ R s=>s.heap.get? l=some { cls:=.type "list",dict:=dd,data:=.seq items n,slots:=sl }/\R (.ok (.ret jV)) s):=
 .of_wp fun prog w A R s h=>by obtain ⟨hp,g,d,tk,os⟩:=s;obtain ⟨hl,h⟩:=h;wp_walk;exact ⟨_,rfl,h⟩
theorem zeq (l:af) (items:List ae) (n:Nat) (x:Int) (u:Tok) (dd:Option af) (sl) (h0:items ≠ []) (h1:items.length <= 1000) (hx:1 <= x) (hx2:x <= 64):
  Meets (cA.«list.__mul__» ⟨[.ref l,.int x u],[]⟩) (fun _ R s=>s.heap.get? l=some { cls:=.type "list",dict:=dd,data:=.seq items.toArray n,slots:=sl }/\R (.ok (.ret (cP s.heap.objs.size))) { s with heap:=s.heap.push { cls:=.type "list",data:=.seq ((aq x.toNat items).flatten).toArray } }):=
 .of_wp fun prog w A R s h=>by
  obtain ⟨hp,g,d,tk,os⟩:=s;obtain ⟨hl,h⟩:=h
  have hxn:x.toNat <= 64:=by omega
  have hb:items.toArray.size * x.toNat <= 64000:=by
   rw [aA]
   calc items.length * x.toNat <= 1000 * 64:=ib h1 hxn
    _ <= 64000:=by omega
  have hc0:¬(!Builtin.List.listFitsIndex x)=true:=by
   unfold Builtin.List.listFitsIndex
   simp;omega
  have hc1:¬items.toArray.size * x.toNat > (2 ^ 63 - 1) / 8:=by
   have:((2 ^ 63 - 1) / 8:Nat)=1152921504606846975:=by decide
   omega
  have hc2:¬cY (items.toArray.size * x.toNat)=true:=by
   unfold cY
   have h2:sizeLine=16777216:=eF
   rw [h2]
   simpa using (by omega:items.toArray.size * x.toNat <= 16777216)
  have c3:=z9e items x.toNat
  have e1:items.toArray.isEmpty=false:=by simpa using h0
  have hs:((aq x.toNat items).flatten).toArray.size <= sizeLine:=by
   have:sizeLine=16777216:=eF
   rw [aA,z2r]
   calc x.toNat * items.length <= 64 * 1000:=ib hxn h1
    _ <= _:=by omega
  wp_walk
  rw [if_neg hc1]
  dsimp only
  rw [if_neg hc2,e1,if_neg (by decide),c3]
  exact aa (m:=newObj _ _) (bn (am ⟨_,rfl,h⟩) hs)
section
variable {X:Cx} {Ex:Nat->Hp->Prop}
def zj7 (K:aj):R2:=fun x y H Q=>∃ a xs i,x=.ref a/\y=.int i/\xs ≠ []/\xs.length <= 1000/\i <= 64/\
 ((SqT K H a xs/\i=1/\Q (.ref a) H) \/ (SqT K H a xs/\2 <= i/\∀ p,H p=none->Q (.ref p) (upd H p (.tup (aq i.toNat xs).flatten))) \/ (SqL K H a xs/\1 <= i/\∀ p,H p=none->Q (.ref p) (upd H p (.lst (aq i.toNat xs).flatten))))
theorem zil:OpR X (cU .Mult) (zj7 X.K):=by
 intro pins s σ H x y v u Q I rx ry h
 obtain ⟨a,xs,i,rfl,rfl,hx,hz,hi,h⟩:=h
 cases rx
 obtain ⟨t,rfl⟩:=ry
 have hne:∀ {its:List ae},ma xs its->its ≠ []/\its.length <= 1000:=fun {its} r=>by
  have hlen:=r.length
  refine ⟨fun e=>hx ?_,by omega⟩
  subst e
  exact de.mp (by simpa using hlen)
 have hsz:i.toNat * xs.length <= sizeLine:=by
  have:sizeLine=16777216:=eF
  have h16:i.toNat <= 64:=by omega
  calc i.toNat * xs.length <= 64 * 1000:=ib h16 hz
   _ <= _:=by omega
 rcases h with ⟨sq,rfl,q⟩|⟨sq,h2,q⟩|⟨sq,h2,q⟩
 ·obtain ⟨its,r,⟨⟨cls,dd,data,sl⟩,ho,hc,n,hd⟩,_⟩:=I.tuple sq
  simp only at hc hd
  subst hc hd
  exact fJ (T := "tuple") (U := "int") (by decide) ⟨_,ho,rfl⟩ (fun s'=>fT s' 1 t) z3Q gC du z5H gh.lookup
   (eV du (fT s 1 t) gi (fX _ _) (z5z 1 t a its.toArray n dd sl)
    ⟨ho,rfl,⟨_,ho,rfl⟩,eV fc ⟨_,ho,rfl⟩ jf (ja _ _) (zfA a its.toArray n t dd sl) ⟨ho,.ref a,H,I,rfl,q⟩⟩)
 ·obtain ⟨its,r,⟨⟨cls,dd,data,sl⟩,ho,hc,n,hd⟩,_⟩:=I.tuple sq
  simp only at hc hd
  subst hc hd
  obtain ⟨n1,n2⟩:=hne r
  refine fJ (T := "tuple") (U := "int") (by decide) ⟨_,ho,rfl⟩ (fun s'=>fT s' i t) z3Q gC du z5H gh.lookup
   (eV du (fT s i t) gi (fX _ _) (z5z i t a its.toArray n dd sl)
    ⟨ho,rfl,⟨_,ho,rfl⟩,eV fc ⟨_,ho,rfl⟩ jf (ja _ _) (zfI a its n i t dd sl n1 n2 h2 hi) ⟨ho,?_⟩⟩)
  exact ⟨.ref s.heap.objs.size,_,I.laid (t':=s.toks) (o:=.tup (aq i.toNat xs).flatten) (fun b ob q=>ah _ q) (aB _) ⟨by rw [z2r];exact hsz,_,ma.flat r _,mw.new _ _⟩,rfl,q _ (I.hok.fresh (aB _))⟩
 ·obtain ⟨its,r,pl,_⟩:=I.list sq
  obtain ⟨⟨cls,dd,data,sl⟩,ho,hc,n,hd⟩:=pl.isList
  simp only at hc hd
  subst hc hd
  obtain ⟨n1,n2⟩:=hne r
  refine fJ (T := "list") (U := "int") (by decide) ⟨_,ho,rfl⟩ (fun s'=>fT s' i t) PySem.noFill_list_mul gC du PySem.repeat_list gh.lookup
   (eV du (fT s i t) gi (fX _ _) (z9t i t a its.toArray n dd sl)
    ⟨ho,rfl,⟨_,ho,rfl⟩,eV PySem.F.slot_list_mul ⟨_,ho,rfl⟩ PySem.F.entry_list_mul (PySem.F.args_list_mul_2 _ _) (zeq a its n i t dd sl n1 n2 h2 hi) ⟨ho,?_⟩⟩)
  exact ⟨.ref s.heap.objs.size,_,I.laid (t':=s.toks) (o:=.lst (aq i.toNat xs).flatten) (fun b ob q=>ah _ q) (aB _) ⟨by rw [z2r];exact hsz,_,_,ma.flat r _,aC _ rfl⟩,rfl,q _ (I.hok.fresh (aB _))⟩
def z8S (o:Bool):Ow->D->D->R D:=fun O x y=>match y with
 | .int i=>if i <= 64 then match x with
  | .tup ds=>if ds ≠ []/\ds.length <= 1000/\1 <= i then .ok (.tup (aq i.toNat ds).flatten) O else .bad
  | .lst ds=>if ds ≠ []/\ds.length <= 1000/\1 <= i then (if o=true then .ok (.own O.length) (O ++ [(aq i.toNat ds).flatten]) else .ok (.lst (aq i.toNat ds).flatten) O) else .bad
  | _=>.bad
  else .bad
 | _=>.bad
theorem zfH (o:Bool):OpD X Ex (zj7 X.K) (z8S o):=by
 intro H hid μ O x y v w Q c dx dy q
 unfold z8S at q
 split at q
 ·rename_i i
  obtain ⟨hi,q⟩:=post.ite q
  unfold Dat at dy;subst dy
  have nn:∀ {ds:List D} {vs:List V},l8 X.K H hid μ ds vs->ds ≠ []->vs ≠ []:=fun {ds vs} d h e=>h (by have:=d.length;rw [e] at this;simpa using this)
  cases x with
  | tup ds=>
   obtain ⟨⟨h1,h2,h3⟩,q⟩:=post.ite q
   have dx0:=dx
   unfold Dat at dx
   obtain ⟨a,vs,rfl,l,dd⟩:=dx
   refine ⟨a,vs,i,rfl,rfl,nn dd h1,by rw [<- dd.length];exact h2,hi,?_⟩
   by_cases e:i=1
   ·subst e
    refine .inl ⟨l.sq,rfl,post.here q c ?_⟩
    have:(aq (1:Int).toNat ds).flatten=ds:=by simp
    rw [this];exact dx0
   ·exact .inr (.inl ⟨l.sq,by omega,fun p hp=>post.ok q (.laid hp) (c.laid hp) (Dat.newT c hp (dd.flat _))⟩)
  | lst ds=>
   obtain ⟨⟨h1,h2,h3⟩,q⟩:=post.ite q
   unfold Dat at dx
   obtain ⟨a,vs,rfl,l,dd⟩:=dx
   refine ⟨a,vs,i,rfl,rfl,nn dd h1,by rw [<- dd.length];exact h2,hi,.inr (.inr ⟨l.sq,h3,fun p hp=>?_⟩)⟩
   cases o with
   | false=>exact post.ok (show z1q Ex X.K H hid μ (.ok (.lst (aq i.toNat ds).flatten) O) Q from q) (.laid hp) (c.laid hp) (Dat.newL c hp (dd.flat _))
   | true=>
    have q:z1q Ex X.K H hid μ (.ok (.own O.length) (O ++ [(aq i.toNat ds).flatten])) Q:=q
    exact post.ok q (.cell hp) (c.cell hp (dd.flat _)) (z2f c.len)
  | _=>exact ak q
 ·exact ak q
end
end DL
namespace DL
open PySem L2 PySem.Spec PyProof.Rows
open Sem (wp)
open AutoSeq1 (wpAny_loadPart')
end DL
namespace DL
open PySem L2 PySem.Spec PyProof.Rows
section
end
theorem zbv (n:Nat):cw ((n:Int) - 1) (-1) (-1)=n:=by
 unfold cw
 rw [if_neg (by decide)]
 by_cases h:(n:Int) - 1 > -1
 ·rw [if_pos h]
  have e:(-(-1:Int))=1:=by decide
  rw [e,Int.ediv_one];omega
 ·rw [if_neg h];omega
theorem z5X {P:aJ} {w:aR} {A:ba} {E:ae->ai->Prop} {s:ai} {sl:af} {vs:ae} {n:Nat} {Q:Int × Int × Nat->ai->Prop} (hs:s.heap.IsSliceOf sl .none .none vs) (ps:fj vs (some (-1)))
  (h:Q ((n:Int) - 1,-1,n) s):ar (ay P w) A (ei (.ref sl) (pure (n:Int))) Q E s:=by
 obtain ⟨ob,hob,hcb,hdb⟩:=id hs
 unfold ei iO
 refine aa (aa (bd hob hdb (x:=.none) rfl (aa (bd hob hdb (x:=.none) rfl (aa (bd hob hdb (x:=vs) rfl (am ?_)))))))
 refine aa (HT.slicePart_ ps ?_)
 show ar _ _ (if ((-1:Int) == 0)=true then _ else _) _ _ s
 rw [if_neg (by decide)]
 refine aa (g9 (aa (g9 (aa (am ?_)))))
 show ar _ _ (pure ((n:Int) - 1,(-1:Int),cw ((n:Int) - 1) (-1) (-1))) _ _ s
 rw [zbv]
 exact am h
theorem zeh (its:List ae):((aU its.length).filterMap fun (m:Nat)=>its.toArray[(((its.length:Int) - 1) + (m:Int) * (-1)).toNat]?).toArray=its.reverse.toArray:=by
 congr 1
 have e:∀ l:List Nat,(∀ k ∈ l,k < its.length)->l.filterMap (fun (m:Nat)=>its.toArray[(((its.length:Int) - 1) + (m:Int) * (-1)).toNat]?)=l.map fun k=>its.reverse.getD k .none:=by
  intro l
  induction l with
  | nil=>intro _;rfl
  | cons k l ih=>
   intro h
   have hk:k < its.length:=h k (by simp)
   have e0:(((its.length:Int) - 1) + (k:Int) * (-1)).toNat=its.length - 1 - k:=by omega
   have e1:its.toArray[(((its.length:Int) - 1) + (k:Int) * (-1)).toNat]?=some (its.reverse.getD k .none):=by
    rw [e0,gz,aS,List.getElem?_reverse hk,aw (by omega)]
    rfl
   rw [cT,bM,e1,ih fun j hj=>h j (by simp [hj])]
 rw [e _ fun k hk=>bv.mp hk]
 refine List.ext_getElem (by simp) fun i h1 h2=>?_
 rw [eL,kK,aS,aw h2]
 rfl
theorem z9x {P:aJ} {w:aR} {A:ba} {E:ae->ai->Prop} {s:ai} {t sl:af} {its:List ae} {vs:ae} {Q:ae->ai->Prop} (ht:IsTup s.heap t its.toArray) (hs:s.heap.IsSliceOf sl .none .none vs) (ps:fj vs (some (-1)))
  (h:Q (.ref s.heap.objs.size) { s with heap:=s.heap.push { cls:=.type "tuple",data:=.seq its.reverse.toArray } }) (hsz:its.length <= sizeLine):ar (ay P w) A (getItem (.ref t) (.ref sl)) Q E s:=by
 have hok:sizeOk (.seq its.reverse.toArray):=by
  show its.reverse.toArray.size <= sizeLine
  rw [aA,km];exact hsz
 obtain ⟨ob,hob,hcb,hdb⟩:=id hs
 have hTs:s.TypeIs (.ref sl) "slice":=⟨ob,hob,hcb⟩
 unfold getItem
 try with_reducible refine bL ?_
 first|refine aa (am ?_)|skip
 refine aa (iI ht.typeIs (by decide) (aa (bB (name := "__getitem__") ht.typeIs bu (bF bu ht.typeIs gX ?_ (iq _ _)))))
 show ar _ _ (fx (.ref t) >>= _) _ _ s
 refine aa (j0 ht (aa (fL hTs ?_)))
 rw [if_pos (by decide)]
 have hn:its.toArray.size=its.length:=aA
 refine aa (z5X (n:=its.toArray.size) hs ps ?_)
 have hno:¬ ((((its.toArray.size:Int) - 1) == 0 && (-1:Int) == 1 && its.toArray.size == its.toArray.size)=true):=by
  intro q
  rw [bh,bh] at q
  exact absurd q.1.2 (by decide)
 show ar _ _ (if ((((its.toArray.size:Int) - 1) == 0 && (-1:Int) == 1 && its.toArray.size == its.toArray.size))=true then _ else _) _ _ s
 rw [if_neg hno,hn,zeh]
 first
  | exact aa (m:=bS _) (bn (am ⟨_,rfl,am h⟩) hok)
  | exact aa (m:=bS _) (bn (aa (am (am ⟨_,rfl,am h⟩))) hok)
  | exact aa (aa (m:=bS _) (bn (am (am ⟨_,rfl,am h⟩)) hok))
  | exact aa (aa (m:=bS _) (bn (am ⟨_,rfl,am h⟩) hok))
section
variable {X:Cx} {Ex:Nat->Hp->Prop} {pos p2:Pos} {e st:aK} {te:DE} {ts:DO}
def zlS (K:aj) (te:TE) (ts:TO):TE:=fun σ H Q=>te σ H fun x H1=>ts σ H1 fun o H2=>o=some (-1)/\∃ a xs,x=.ref a/\SqT K H2 a xs/\∀ p,H2 p=none->Q (.ref p) (upd H2 p (.tup xs.reverse))
theorem zhN {te:TE} {ts:TO} (he:PE X e te) (hs:PO X (some st) ts):PE X (.Subscript e (.Slice none none (some st) p2) pos) (zlS X.K te ts):=by
 intro pins s σ H Q I h
 refine jQ (thn (he pins s σ H _ I h) fun v s1 ⟨x,H1,I1,r1,q1⟩=>?_)
 refine wpAny_Slice ?_
 rw [j4]
 refine am (am (thn (hs pins s1 σ H1 _ I1 q1) fun vs s3 ⟨o,H3,I3,ps,q3⟩=>?_))
 obtain ⟨rfl,a,xs,rfl,sq,q⟩:=q3
 cases r1
 have I4:Inv X pins σ H3 { s3 with heap:=s3.heap.push { cls:=.type "slice",data:=.fields #[.none,.none,vs] } }:=I3.kept (t':=s3.toks) fun b ob q=>ah _ q
 obtain ⟨its,r,ht,hz⟩:=I4.tuple sq
 have hlen:=r.length
 show ar (ay X.prog X.w) X.A (subscriptTail e (.Slice none none (some st) p2) (.ref a) (.ref s3.heap.objs.size)) (EP X pins σ Q) X.xe { s3 with heap:=s3.heap.push { cls:=.type "slice",data:=.fields #[.none,.none,vs] } }
 refine tail_any (ops:=[.ref a,.ref s3.heap.objs.size]) ht.typeIs bu.lookup ?_ (by with_unfolding_all rfl)
 refine z9x ht (kw ..) ps ?_ (by omega)
 refine ⟨.ref _,_,I4.laid (t':=s3.toks) (o:=.tup xs.reverse) (fun b ob q=>ah _ q) (aB _) ?_,rfl,q _ (I4.hok.fresh (aB _))⟩
 exact ⟨by rw [km];exact hz,_,zeJ r,mw.new _ _⟩
def zeC (te:DE) (ts:DO):DE:=fun σ O=>(te σ O).bnd fun x O1=>(ts σ O1).bnd fun o O2=>if o=some (-1) then match x with
 | .tup ds=>.ok (.tup ds.reverse) O2
 | _=>.bad else .bad
theorem zgY (he:PD X Ex e te) (hs:PDO X Ex (some st) ts):PD X Ex (.Subscript e (.Slice none none (some st) p2) pos) (zeC te ts):=
 z22 (zhN he.out hs.out) fun hid μ σ O σv H Q e1 c1 q=>rd.go e1 c1 q fun d O1 v H1 μ1 e2 x cl r p=>rdO.go e2 cl p fun l O2 H2 μ2 e3 x3 c3 p3=>by
  have r':=r.ext x3
  obtain ⟨hl,p3⟩:=post.ite p3
  cases d with
  | tup ds=>
   unfold Dat at r'
   obtain ⟨pa,vs,rfl,la,q1⟩:=r'
   exact ⟨hl,pa,vs,rfl,la.sq,fun l' hl'=>post.ok p3 (.laid hl') (c3.laid hl') (Dat.newT c3 hl' q1.rev)⟩
  | _=>exact ak p3
end
end DL
namespace DL
open PySem L2
section
variable {X:Cx} {Ex:Nat->Hp->Prop} {Cl:Nat->ae}
def z6C (Pt iT ic:Nat) (f:R D->R D) (ts:List DE) (tb:DE) (ta u:DS):DS:=fun σ O=>match σ[iT]? with
 | some (some (.tab p))=>if p=Pt then z1e (sIf (z1W (dOp (fPy neF) (z3b f ts) tb)) ta z2j) u (σ.set ic none) O else .bad
 | _=>.bad
theorem md.seq (q:md Ex K H hid μ (z1e t u σ O) E):md Ex K H hid μ (t σ O) { E with nx:=fun σv H'=>rds Ex K u E σv H' }:=by
 unfold z1e at q
 cases ht:t σ O with
 | nx σ' O'=>
  rw [ht] at q
  exact fun σv' H' μ' e2 a b=>⟨hid,μ',σ',O',a,b,q.ext e2⟩
 | rt d O'=>rw [ht] at q;exact q
 | bk σ' O'=>rw [ht] at q;exact q
 | ct σ' O'=>rw [ht] at q;exact q
 | exc c O'=>rw [ht] at q;exact q
 | bad=>rw [ht] at q;exact q
theorem zas {Pt iT ic k:Nat} {f:R D->R D} {t1 t2 t3 tb:DE} {p1 p2 p3:dX} {b1 b2 b3 c:aK} {s1 s2 s3:b9} {S1 S2 S3:cu} {a z2C:List cu} {ta u:DS} {pos:Pos}
  (h1:PS X S1 (zl7 (zlx (zad (ziU X Pt ⟨p1,b1,s1,t1⟩) ziF)) (za3 ic))) (h2:PS X S2 (zcM (tBM X.K "list" z6F (ziT ic) (zad (ziU X Pt ⟨p2,b2,s2,t2⟩) ziF)))) (h3:PS X S3 (zcM (tBM X.K "list" z6F (ziT ic) (zad (ziU X Pt ⟨p3,b3,s3,t3⟩) ziF))))
  (h4:PT X c (zio (tOp (rPy X.K neF) (ze0 Cl f ic k Ex X) (rd Ex X.K tb)))) (ha:z5F X Ex a ta) (hrest:z5F X Ex z2C u) (R1:zfZ Cl X k ⟨p1,b1,s1,t1⟩) (R2:zfZ Cl X k ⟨p2,b2,s2,t2⟩) (R3:zfZ Cl X k ⟨p3,b3,s3,t3⟩) (hic:ic < X.N.length):
  z5F X Ex (S1 :: S2 :: S3 :: .If c a [] pos :: z2C) (z6C Pt iT ic f [t1,t2,t3] tb ta u):=by
 refine ⟨?_⟩
 rintro pins s σv H E I ⟨hid,μ,σ,O,e1,c1,q⟩
 obtain ⟨ti,q⟩:ml H Pt/\md Ex X.K H hid μ (z1e (sIf (z1W (dOp (fPy neF) (z3b f [t1,t2,t3]) tb)) ta z2j) u (σ.set ic none) O) E:=by
  unfold z6C at q
  split at q
  ·rename_i p hp
   by_cases hpp:p=Pt
   ·rw [if_pos hpp] at q
    obtain ⟨v,_,d⟩:=e1.at_ iT _ hp
    unfold Dat at d
    rw [hpp] at d
    exact ⟨d.2,q⟩
   ·rw [if_neg hpp] at q;exact ak q
  ·exact ak q
 have q:=md.seq q
 have hi:ic < σv.length:=by rw [I.len];exact hic
 refine (z2N h1 (z2N h2 (z2N h3 (z2N (zjX h4 ha.out (zbi (Ex:=Ex)).out) hrest.out)))) pins s σv H E I ⟨ti,fun a1 H1 n1 x1 l1=>⟨by show 1 <= sizeLine;decide,fun l nl=>?_⟩⟩
 have b1:Bld X H l [⟨p1,b1,s1,t1⟩] [a1] (upd H1 l (.lst [.ref a1])):=⟨x1.none nl,x1.ea.trans (Ext.laid nl).ea,z18,.cons (mm.ext l1 (.laid nl)) .nil,by simp⟩
 have hget:(σv.set ic (some (V.ref l)))[ic]?=some (some (.ref l)):=aT hi
 refine ⟨.ref l,hget,.inl ⟨rfl,_,.of b1.at_⟩,b1.ea.tab _ ti,fun a2 H2 n2 x2 l2=>⟨l,_,.ref a2,rfl,rfl,x2.keep _ _ b1.at_ (by simp),by show 1 < sizeLine;decide,?_⟩⟩
 have b2:=b1.more n2 x2 l2
 refine ⟨.ref l,hget,.inl ⟨rfl,_,.of b2.at_⟩,b2.ea.tab _ ti,fun a3 H3 n3 x3 l3=>⟨l,_,.ref a3,rfl,rfl,x3.keep _ _ b2.at_ (by simp),by show 2 < sizeLine;decide,?_⟩⟩
 have b3:=b2.more n3 x3 l3
 have ev:=(e1.ext (b3.ext μ)).set0 ic (some (.ref l))
 obtain ⟨nh,nm⟩:=c1.not_in b3.nl
 refine ⟨l,_,_,hget,b3.at_,b3.lam,b3.nd,by show 3 <= 1000;decide,fun L m=>?_,hid,μ,σ.set ic none,O,ev,b3.cells c1,nh,nm,?_⟩
 ·simp only [gq,cG,av,aM,or_false] at m
  rcases m with rfl|rfl|rfl
  ·exact R1
  ·exact R2
  ·exact R3
 ·rw [bD]
  have q2:md Ex X.K H hid μ ((z3b f [t1,t2,t3] (σ.set ic none) O).bnS fun x O1=>(tb (σ.set ic none) O1).bnS fun y O2=>(fPy neF O2 x y).bnS fun z O3=>(match z with|.bl k=>R.ok k O3|_=>R.bad).bnS fun b O4=>if b=true then ta (σ.set ic none) O4 else z2j (σ.set ic none) O4) { E with nx:=fun σv H'=>rds Ex X.K u E σv H' }:=by
   have e:sIf (z1W (dOp (fPy neF) (z3b f [t1,t2,t3]) tb)) ta z2j (σ.set ic none) O=((z3b f [t1,t2,t3] (σ.set ic none) O).bnS fun x O1=>(tb (σ.set ic none) O1).bnS fun y O2=>(fPy neF O2 x y).bnS fun z O3=>(match z with|.bl k=>R.ok k O3|_=>R.bad).bnS fun b O4=>if b=true then ta (σ.set ic none) O4 else z2j (σ.set ic none) O4):=by
    unfold sIf z1W dOp
    cases z3b f [t1,t2,t3] (σ.set ic none) O with
    | ok x O1=>
     show (((tb (σ.set ic none) O1).bnd fun y O2=>fPy neF O2 x y).bnd _).bnS _=(tb (σ.set ic none) O1).bnS _
     cases tb (σ.set ic none) O1 with
     | ok y O2=>
      show ((fPy neF O2 x y).bnd _).bnS _=(fPy neF O2 x y).bnS _
      cases fPy neF O2 x y with
      | ok z O3=>cases z <;> rfl
      | exc c O3=>rfl
      | bad=>rfl
     | exc c O2=>rfl
     | bad=>rfl
    | exc c O1=>rfl
    | bad=>rfl
   rw [<- e];exact q
  refine md.bnS (md.ext q2 (b3.ext μ)) fun x O1 v H4 μ4 x4 c4 d4 p4=>rd.goS (ev.ext x4) c4 p4 fun y O2 w H5 μ5 e5 x5 c5 d5 p5=>z5y H5 hid μ5 O2 x y v w _ c5 (d4.ext x5) d5 (md.bnS p5 fun z O3 vz H6 μ6 x6 c6 d6 p6=>?_)
  cases z with
  | bl k=>
   unfold Dat at d6
   refine ⟨k,d6,?_⟩
   cases k with
   | true=>rw [if_pos rfl];exact ⟨hid,μ6,σ.set ic none,O3,e5.ext x6,c6,p6⟩
   | false=>rw [if_neg bH];exact ⟨hid,μ6,σ.set ic none,O3,e5.ext x6,c6,p6⟩
  | _=>exact ak p6
end
end DL
namespace DL
open PySem L2 PySem.Spec PyProof.Rows
def zja:List ae->List Int->Bool
 | [],[]=>true
 | .int i _ :: vs,k :: ks=>i == k && zja vs ks
 | _,_=>false
def zn2 (o:Obj) (ks:List Int):Bool:=(match o.cls with|.type n=>n == "tuple"|_=>false) && o.dict.isNone && (match o.data with|.seq its _=>zja its.toList ks && decide (its.size <= 1000)|_=>false)
structure zn8 (K:aj) (mg:Str->Option ae) (x:Str) (ks:List Int):Prop where
 ex:∃ e o,mg x=some (.ref e)/\K.lookup e=some o/\zn2 o ks=true
end DL
namespace DL
open PySem L2
def zld:List Str->Bool
 | []=>true
 | x :: l=>!(l.contains x) && zld l
theorem z2v:∀ {l:List Str},zld l=true->l.Nodup
 | [],_=>hV
 | x :: l,h=>by
  unfold zld at h
  rw [bh,iK] at h
  refine bO.mpr ⟨fun m=>?_,z2v h.2⟩
  rw [bV.mpr m] at h
  exact Bool.noConfusion h.1
def zlJ:Option cD->Bool
 | some .local=>true
 | some .cell=>true
 | _=>false
theorem ziK (h:zlJ o=true):o=some .local \/ o=some .cell:=by
 unfold zlJ at h
 split at h
 ·exact .inl rfl
 ·exact .inr rfl
 ·cases h
def kNf:cD->Bool
 | .free=>false
 | _=>true
def fnB (N P:List Str) (sc:b9):Bool:=zld N && (N.take P.length == P) && P.all (fun x=>zlJ (sc.names.lookup x)) && sc.names.all (fun y=>kNf y.2)
theorem fnS (h1:sc.kind=.function) (h2:sc.isCoroutine=false) (h3:sc.isGenerator=false) (h:fnB N P sc=true):z13 N P sc:=by
 unfold fnB at h
 simp only [bh] at h
 obtain ⟨⟨⟨a,b⟩,c⟩,d⟩:=h
 refine ⟨h1,h2,h3,z2v a,eq_of_beq b,fun x hx=>ziK (aG.mp c x hx),fun y hy e=>?_⟩
 have:=aG.mp d y hy
 rw [e] at this
 cases this
end DL
namespace DL
open PySem
def pl:Nat->D->Bool
 | n,.non=>true
 | n,.int _=>true
 | n,.str cs=>cs.all (· < 1114112)
 | n + 1,.lst ds=>ds.all (pl n)
 | n + 1,.tup ds=>ds.all (pl n)
 | _,_=>false
theorem z3A {α β:Type} {f:α->Option β}:∀ {l:List α},(∀ x ∈ l,∃ y,f x=some y)->∃ m,z1Q f l=some m
 | [],_=>⟨[],rfl⟩
 | x :: l,h=>by
  obtain ⟨y,hy⟩:=h x aH
  obtain ⟨m,hm⟩:=z3A (l:=l) fun z hz=>h z (au _ hz)
  exact ⟨y :: m,by unfold z1Q;rw [hy,hm]⟩
theorem z5o (O:Ow):∀ (n:Nat) (d:D),pl n d=true->∃ p,z2u O n d=some p:=by
 intro n
 induction n with
 | zero=>
  intro d h
  cases d with
  | non=>exact ⟨_,rfl⟩
  | int i=>exact ⟨_,rfl⟩
  | str cs=>
   refine ⟨.str ⟨cs.toArray⟩,?_⟩
   show zc2 cs=_
   unfold zc2;rw [if_pos (by simpa [pl] using h)]
  | _=>simp [pl] at h
 | succ n ih=>
  intro d h
  cases d with
  | non=>exact ⟨_,rfl⟩
  | int i=>exact ⟨_,rfl⟩
  | str cs=>
   refine ⟨.str ⟨cs.toArray⟩,?_⟩
   show zc2 cs=_
   unfold zc2;rw [if_pos (by simpa [pl] using h)]
  | lst ds=>
   have h:ds.all (pl n)=true:=h
   obtain ⟨m,hm⟩:=z3A (f:=z2u O n) (l:=ds) fun x hx=>ih x (aG.mp h x hx)
   exact ⟨.list m,by show (z1Q (z2u O n) ds).map da=_;rw [hm];rfl⟩
  | tup ds=>
   have h:ds.all (pl n)=true:=h
   obtain ⟨m,hm⟩:=z3A (f:=z2u O n) (l:=ds) fun x hx=>ih x (aG.mp h x hx)
   exact ⟨.tuple m,by show (z1Q (z2u O n) ds).map fN=_;rw [hm];rfl⟩
  | _=>simp [pl] at h
theorem z7z {f:D->Option db} (R:∀ x y p q,f x=some p->f y=some q->pl 0 x=pl 0 x->True) {P:D->Prop} (hf:∀ x y p q,P x->P y->f x=some p->f y=some q->(aZ p q=true ↔ x=y)):
  ∀ (xs ys:List D) (ps qs:List db),(∀ x ∈ xs,P x)->(∀ y ∈ ys,P y)->z1Q f xs=some ps->z1Q f ys=some qs->(er ps qs=true ↔ xs=ys)
 | [],[],ps,qs,_,_,e1,e2=>by cases e1;cases e2;simp [er]
 | [],y :: ys,ps,qs,_,_,e1,e2=>by
  cases e1
  unfold z1Q at e2
  split at e2
  ·cases e2;simp [er]
  ·cases e2
 | x :: xs,[],ps,qs,_,_,e1,e2=>by
  cases e2
  unfold z1Q at e1
  split at e1
  ·cases e1;simp [er]
  ·cases e1
 | x :: xs,y :: ys,ps,qs,h1,h2,e1,e2=>by
  unfold z1Q at e1 e2
  split at e1
  ·rename_i p ps' a1 a2
   cases e1
   split at e2
   ·rename_i q qs' b1 b2
    cases e2
    have r1:=hf x y p q (h1 x aH) (h2 y aH) a1 b1
    have r2:=z7z R hf xs ys ps' qs' (fun z hz=>h1 z (au _ hz)) (fun z hz=>h2 z (au _ hz)) a2 b2
    show (aZ p q && er ps' qs')=true ↔ _
    rw [bh,r1,r2,List.cons.injEq]
   ·cases e2
  ·cases e1
theorem z1M (h:zc2 cs=some p):p=.str ⟨cs.toArray⟩:=by
 unfold zc2 at h
 split at h
 ·cases h;rfl
 ·cases h
theorem zcw (a b:List Nat):aZ (.str ⟨a.toArray⟩) (.str ⟨b.toArray⟩)=true ↔ D.str a=D.str b:=by
 show ((⟨a.toArray⟩:Str) == ⟨b.toArray⟩)=true ↔ _
 rw [beq_iff_eq]
 constructor
 ·intro h
  have h:a.toArray=b.toArray:=by injection h
  rw [show a=b by simpa using congrArg kr h]
 ·intro h
  injection h with h
  rw [h]
theorem zfX (O:Ow):∀ (n:Nat) (x y:D) (p q:db),pl n x=true->pl n y=true->z2u O n x=some p->z2u O n y=some q->(aZ p q=true ↔ x=y):=by
 intro n
 induction n with
 | zero=>
  intro x y p q hx hy e1 e2
  cases x with
  | non=>cases e1;cases y with
   | non=>cases e2;simp [aZ]
   | int j=>cases e2;simp [aZ]
   | str b=>have:=z1M e2;subst this;simp [aZ]
   | _=>simp [pl] at hy
  | int i=>cases e1;cases y with
   | non=>cases e2;simp [aZ]
   | int j=>cases e2;simp [aZ]
   | str b=>have:=z1M e2;subst this;simp [aZ]
   | _=>simp [pl] at hy
  | str a=>have:=z1M e1;subst this;cases y with
   | non=>cases e2;simp [aZ]
   | int j=>cases e2;simp [aZ]
   | str b=>have:=z1M e2;subst this;exact zcw a b
   | _=>simp [pl] at hy
  | _=>simp [pl] at hx
 | succ n ih=>
  have big:∀ xs ys ps qs,(xs.all (pl n))=true->(ys.all (pl n))=true->z1Q (z2u O n) xs=some ps->z1Q (z2u O n) ys=some qs->(er ps qs=true ↔ xs=ys):=fun xs ys ps qs h1 h2 e1 e2=>
   z7z (fun _ _ _ _ _ _ _=>trivial) (P:=fun d=>pl n d=true) (fun x y p q a b c d=>ih x y p q a b c d) xs ys ps qs (aG.mp h1) (aG.mp h2) e1 e2
  have shL:∀ {ds:List D} {p},z2u O (n + 1) (.lst ds)=some p->∃ ps,z1Q (z2u O n) ds=some ps/\p=.list ps:=fun {ds p} e=>by
   have e:(z1Q (z2u O n) ds).map da=some p:=e
   cases h:z1Q (z2u O n) ds with
   | none=>rw [h] at e;cases e
   | some ps=>rw [h] at e;cases e;exact ⟨ps,rfl,rfl⟩
  have shT:∀ {ds:List D} {p},z2u O (n + 1) (.tup ds)=some p->∃ ps,z1Q (z2u O n) ds=some ps/\p=.tuple ps:=fun {ds p} e=>by
   have e:(z1Q (z2u O n) ds).map fN=some p:=e
   cases h:z1Q (z2u O n) ds with
   | none=>rw [h] at e;cases e
   | some ps=>rw [h] at e;cases e;exact ⟨ps,rfl,rfl⟩
  intro x y p q hx hy e1 e2
  cases x with
  | non=>cases e1;cases y with
   | non=>cases e2;simp [aZ]
   | int j=>cases e2;simp [aZ]
   | str b=>have:=z1M e2;subst this;simp [aZ]
   | lst ys=>obtain ⟨_,_,rfl⟩:=shL e2;simp [aZ]
   | tup ys=>obtain ⟨_,_,rfl⟩:=shT e2;simp [aZ]
   | _=>simp [pl] at hy
  | int i=>cases e1;cases y with
   | non=>cases e2;simp [aZ]
   | int j=>cases e2;simp [aZ]
   | str b=>have:=z1M e2;subst this;simp [aZ]
   | lst ys=>obtain ⟨_,_,rfl⟩:=shL e2;simp [aZ]
   | tup ys=>obtain ⟨_,_,rfl⟩:=shT e2;simp [aZ]
   | _=>simp [pl] at hy
  | str a=>have:=z1M e1;subst this;cases y with
   | non=>cases e2;simp [aZ]
   | int j=>cases e2;simp [aZ]
   | str b=>have:=z1M e2;subst this;exact zcw a b
   | lst ys=>obtain ⟨_,_,rfl⟩:=shL e2;simp [aZ]
   | tup ys=>obtain ⟨_,_,rfl⟩:=shT e2;simp [aZ]
   | _=>simp [pl] at hy
  | lst xs=>obtain ⟨ps,h1,rfl⟩:=shL e1;cases y with
   | non=>cases e2;simp [aZ]
   | int j=>cases e2;simp [aZ]
   | str b=>have:=z1M e2;subst this;simp [aZ]
   | lst ys=>
    obtain ⟨qs,h2,rfl⟩:=shL e2
    show er ps qs=true ↔ _
    rw [big xs ys ps qs hx hy h1 h2,D.lst.injEq]
   | tup ys=>obtain ⟨_,_,rfl⟩:=shT e2;simp [aZ]
   | _=>simp [pl] at hy
  | tup xs=>obtain ⟨ps,h1,rfl⟩:=shT e1;cases y with
   | non=>cases e2;simp [aZ]
   | int j=>cases e2;simp [aZ]
   | str b=>have:=z1M e2;subst this;simp [aZ]
   | lst ys=>obtain ⟨_,_,rfl⟩:=shL e2;simp [aZ]
   | tup ys=>
    obtain ⟨qs,h2,rfl⟩:=shT e2
    show er ps qs=true ↔ _
    rw [big xs ys ps qs hx hy h1 h2,D.tup.injEq]
   | _=>simp [pl] at hy
  | _=>simp [pl] at hx
theorem zhv (O:Ow) (hx:pl 8 x=true) (hy:pl 8 y=true) (hb:b=true ↔ x=y):fPy eqF O x y=.ok (.bl b) O/\fPy neF O x y=.ok (.bl !b) O:=by
 obtain ⟨p,hp⟩:=z5o O 8 x hx
 obtain ⟨q,hq⟩:=z5o O 8 y hy
 have h:=zfX O 8 x y p q hx hy hp hq
 have:aZ p q=b:=cV.mpr (h.trans hb.symm)
 unfold fPy py
 rw [hp,hq]
 subst this
 exact ⟨rfl,rfl⟩
theorem zaH (hx:pl n x=true) (hp:z2u O n x=some p):∀ (l:List D) (ps:List db),(l.all (pl n))=true->z1Q (z2u O n) l=some ps->((ps.any fun y=>aZ y p)=true ↔ x ∈ l)
 | [],ps,_,e=>by cases e;simp
 | y :: l,ps,h,e=>by
  unfold z1Q at e
  split at e
  ·rename_i q qs a1 a2
   cases e
   rw [j8,bh] at h
   rw [gk,gN,zfX O n y x q p h.1 hx a1 hp,zaH hx hp l qs h.2 a2,av]
   exact ⟨fun z=>z.imp Eq.symm id,fun z=>z.imp Eq.symm id⟩
  ·cases e
theorem zee (O:Ow):∀ (n:Nat) (d:D) (p:db),pl n d=true->z2u O n d=some p->z2u O (n + 1) d=some p:=by
 intro n
 induction n with
 | zero=>intro d p h e;cases d <;> first|exact e|(simp [pl] at h)
 | succ n ih=>
  have go:∀ (ds:List D) ps,(ds.all (pl n))=true->z1Q (z2u O n) ds=some ps->z1Q (z2u O (n + 1)) ds=some ps:=by
   intro ds
   induction ds with
   | nil=>intro ps _ e;exact e
   | cons x ds ihd=>
    intro ps h e
    rw [j8,bh] at h
    unfold z1Q at e ⊢
    split at e
    ·rename_i q qs a1 a2
     rw [ih x q h.1 a1,ihd qs h.2 a2];exact e
    ·cases e
  intro d p h e
  cases d with
  | lst ds=>
   have e:(z1Q (z2u O n) ds).map da=some p:=e
   show (z1Q (z2u O (n + 1)) ds).map da=some p
   cases hm:z1Q (z2u O n) ds with
   | none=>rw [hm] at e;cases e
   | some ps=>rw [hm] at e;rw [go ds ps h hm];exact e
  | tup ds=>
   have e:(z1Q (z2u O n) ds).map fN=some p:=e
   show (z1Q (z2u O (n + 1)) ds).map fN=some p
   cases hm:z1Q (z2u O n) ds with
   | none=>rw [hm] at e;cases e
   | some ps=>rw [hm] at e;rw [go ds ps h hm];exact e
  | non=>exact e
  | int i=>exact e
  | str cs=>exact e
  | _=>simp [pl] at h
theorem zh5 (O:Ow) {x y:D} {l:List D} (hx:pl 7 x=true) (hl:l.all (pl 7)=true) (hy:lsV O y=some l \/ y=.tup l) {b:Bool} (hb:b=true ↔ x ∈ l):fIn O x y=.ok (.bl b) O/\zbY O x y=.ok (.bl !b) O:=by
 obtain ⟨p,hp⟩:=z5o O 7 x hx
 obtain ⟨ps,hps⟩:=z3A (f:=z2u O 7) (l:=l) fun z hz=>z5o O 7 z (aG.mp hl z hz)
 have h:=zaH hx hp l ps hl hps
 have e:(ps.any fun z=>aZ z p)=b:=cV.mpr (h.trans hb.symm)
 have h8:py O x=some p:=zee O 7 x p hx hp
 rcases hy with hy|rfl
 ·have hq:py O y=some (.list ps):=by
   cases y with
   | lst ds=>cases hy;show (z1Q (z2u O 7) l).map da=_;rw [hps];rfl
   | own k=>
    have hy:O[k]?=some l:=hy
    show (match O[k]? with|some ds=>(z1Q (z2u O 7) ds).map da|none=>none)=_
    rw [hy];dsimp only;rw [hps];rfl
   | _=>cases hy
  have a1:fPy inF O x y=.ok (.bl b) O:=by unfold fPy;rw [h8,hq];subst e;rfl
  have a2:fPy ziS O x y=.ok (.bl !b) O:=by unfold fPy;rw [h8,hq];subst e;rfl
  cases y with
  | lst ds=>exact ⟨a1,a2⟩
  | own k=>exact ⟨a1,a2⟩
  | _=>cases hy
 ·have hq:py O (.tup l)=some (.tuple ps):=by show (z1Q (z2u O 7) l).map fN=_;rw [hps];rfl
  have a1:fPy inF O x (.tup l)=.ok (.bl b) O:=by unfold fPy;rw [h8,hq];subst e;rfl
  have a2:fPy ziS O x (.tup l)=.ok (.bl !b) O:=by unfold fPy;rw [h8,hq];subst e;rfl
  exact ⟨a1,a2⟩
theorem z6e (h1:t σ O=.ok (.bl a) O) (h2:a=true->u σ O=.ok (.bl b) O):zdx t u σ O=.ok (.bl (a && b)) O:=by
 show ((t σ O).bnd _)=_
 rw [h1]
 cases a with
 | true=>exact h2 rfl
 | false=>rfl
theorem z65 (h1:t σ O=.ok a O) (h2:a=true->u σ O=.ok b O):z4s t u σ O=.ok (a && b) O:=by
 show ((t σ O).bnd _)=_
 rw [h1]
 cases a with
 | true=>exact h2 rfl
 | false=>rfl
theorem za8 (h1:t σ O=.ok a O) (h2:a=false->u σ O=.ok b O):zbD t u σ O=.ok (a || b) O:=by
 show ((t σ O).bnd _)=_
 rw [h1]
 cases a with
 | false=>exact h2 rfl
 | true=>rfl
theorem z7s (O:Ow) (hx:x.all (pl 7)=true) (hy:y.all (pl 7)=true) (hb:b=true ↔ x=y):fPy eqF O (.lst x) (.lst y)=.ok (.bl b) O/\fPy neF O (.lst x) (.lst y)=.ok (.bl !b) O:=
 zhv O (x:=.lst x) (y:=.lst y) hx hy (hb.trans (by rw [D.lst.injEq]))
theorem zan (n:Nat) (l:List Nat):(l.map fun (p:Nat)=>D.int (p:Int)).all (pl n)=true:=aG.mpr fun d hd=>by
 obtain ⟨p,_,rfl⟩:=aO.mp hd
 cases n <;> rfl
section
variable {σ:Sg} {O O1 O2:Ow} {t u:DE} {d a:DS} {x y:D} {r:RS} {i:Nat} {c:DT} {tA:DA} {ds:List D}
theorem z1z (h:t σ O=.ok x O1) (h2:d (σ.set i (some x)) O1=r):z1e (z24 i t) d σ O=r:=by rw [z1D (z5c h)];exact h2
theorem z3n (h:a σ O=.nx σ' O1) (h2:d σ' O1=r):z1e a d σ O=r:=by rw [z1D h];exact h2
theorem zcb (h:t σ O=.ok x O1) (h2:d σ O1=r):z1e (z35 t) d σ O=r:=by rw [z1D (z8c h)];exact h2
theorem z3f (h:c σ O=.ok false O1) (h2:d σ O1=r):z1e (sIf c a' z2j) d σ O=r:=by rw [z1D (σ':=σ) (O1:=O1) (by rw [z2b h];rfl)];exact h2
theorem z9q (h:c σ O=.ok true O1) (h2:a' σ O1=.rt x O2):z1e (sIf c a' e) d σ O=.rt x O2:=z5j (by rw [z2b h,if_pos rfl];exact h2)
theorem z1N (h:d σ O=.rt x O1):fin (d σ O)=.ok x O1:=by rw [h];rfl
theorem z9a (h:t σ O=.ok x O1):fin (z1v t σ O)=.ok x O1:=by rw [z1h h];rfl
theorem z1f (h1:t σ O=.ok x O1) (h2:u σ O1=.ok y O2) (h3:f O2 x y=z):dOp f t u σ O=z:=by rw [z1g h1 h2];exact h3
theorem z1t (h1:tA σ O=.ok ds O1) (h2:f O1 ds=z):z17 f tA σ O=z:=by rw [z2c h1];exact h2
theorem z1d (h1:tA σ O=.ok ds O1) (h2:F ds O1=z) (h3:ds.length=n:=by rfl):dFn n F tA σ O=z:=by rw [z6y h1 h3];exact h2
end
end DL
set_option maxHeartbeats 400000
namespace K60
open PySem L2 DL
def top (i:Nat):cu:=PySem.Challenge.pw_leastterms_k60_shared_forms_known.main.body.getD i (.Pass ⟨0,0,0,0⟩)
def z14:List (Int × Int):=[(2,1),(4,2),(8,3),(16,4)]
def Ca:Nat->Nat:=fun c=>match c with
 | _=>37
def Cl:Nat->ae:=fun c=>.ref (Ca c)
def z0L:Nat->Option Bool:=fun C=>match C with
 | 37=>some true
 | _=>none
def z0P:Nat->Option Bool:=fun C=>match C with
 | 37=>some false
 | _=>none
def z0O:Nat->Option Bool:=fun C=>match C with
 | 37=>some false
 | _=>none
def z0N:Nat->Option Bool:=fun C=>match C with
 | 37=>some false
 | _=>none
def z0K:Nat->Option Bool:=fun C=>match C with
 | 37=>some false
 | _=>none
def z0I:Nat->Option Bool:=fun C=>match C with
 | 37=>some false
 | _=>none
def z0Q:Nat->Option Bool:=fun C=>match C with
 | 37=>some false
 | _=>none
def z0M:Nat->Option Bool:=fun C=>match C with
 | 37=>some false
 | _=>none
def z0J:Nat->Option Bool:=fun C=>match C with
 | 37=>some false
 | _=>none
def z0R:Nat->Option Bool:=fun C=>match C with
 | 37=>some true
 | _=>none
structure Txt (K:aj) (mg:Str->Option ae):Prop where
 d_is_whole:z1n K mg "is_whole" (top 12)
 d_is_whole_within:z1n K mg "is_whole_within" (top 13)
 d_is_rising:z1n K mg "is_rising" (top 14)
 d_is_answer:z1n K mg "is_answer" (top 17)
 d_is_function:z1n K mg "is_function" (top 18)
 d_switches_of:z1n K mg "switches_of" (top 19)
 d_points_with:z1n K mg "points_with" (top 20)
 d_has_term_signs:z1n K mg "has_term_signs" (top 23)
 d_has_rising_terms:z1n K mg "has_rising_terms" (top 24)
 d_bits_of:z1n K mg "bits_of" (top 26)
 d_points_of:z1n K mg "points_of" (top 27)
 d_holds_no_nought:z1n K mg "holds_no_nought" (top 31)
 d_least_covers:z1n K mg "least_covers" (top 36)
 d_are_together:z1n K mg "are_together" (top 39)
 d_need_together:z1n K mg "need_together" (top 40)
 d_things_of:z1n K mg "things_of" (top 41)
 d_numbers_good_for:z1n K mg "numbers_good_for" (top 42)
 d_held_by:z1n K mg "held_by" (top 43)
 d_is_shared:z1n K mg "is_shared" (top 44)
 d_broad_terms:z1n K mg "broad_terms" (top 46)
 d_held_things:z1n K mg "held_things" (top 47)
 d_least_shared:z1n K mg "least_shared" (top 48)
 d__law_cell_at:z1n K mg "_law_cell_at" (top 50)
 d__law_state:z1n K mg "_law_state" (top 51)
 d__law_take:z1n K mg "_law_take" (top 52)
 d__law_function:z1n K mg "_law_function" (top 53)
 d__law_together:z1n K mg "_law_together" (top 54)
 d__law_switches:z1n K mg "_law_switches" (top 55)
 d__law_holds:z1n K mg "_law_holds" (top 56)
 d__law_good:z1n K mg "_law_good" (top 57)
 d__law_good_for:z1n K mg "_law_good_for" (top 58)
 d__law_terms:z1n K mg "_law_terms" (top 59)
 d__law_lies_in:z1n K mg "_law_lies_in" (top 60)
 d__law_broad:z1n K mg "_law_broad" (top 61)
 d__law_is_term:z1n K mg "_law_is_term" (top 62)
 d__law_are_terms:z1n K mg "_law_are_terms" (top 63)
 d__law_ones:z1n K mg "_law_ones" (top 64)
 d__law_things:z1n K mg "_law_things" (top 65)
 d__law_holds_thing:z1n K mg "_law_holds_thing" (top 66)
 d__law_is_shared:z1n K mg "_law_is_shared" (top 67)
 d__law_some_shared:z1n K mg "_law_some_shared" (top 68)
 d__law_bent_form:z1n K mg "_law_bent_form" (top 69)
 d__law_same:z1n K mg "_law_same" (top 70)
 d__law_bad_functions:z1n K mg "_law_bad_functions" (top 71)
 d__law_refused:z1n K mg "_law_refused" (top 72)
 d_law:z1n K mg "law" (top 73)
 b_ValueError:mg "ValueError" = none
 b_all:mg "all" = none
 b_any:mg "any" = none
 b_bool:mg "bool" = none
 b_enumerate:mg "enumerate" = none
 b_int:mg "int" = none
 b_isinstance:mg "isinstance" = none
 b_len:mg "len" = none
 b_list:mg "list" = none
 b_max:mg "max" = none
 b_min:mg "min" = none
 b_range:mg "range" = none
 b_set:mg "set" = none
 b_sorted:mg "sorted" = none
 b_str:mg "str" = none
 b_tuple:mg "tuple" = none
 b_zip:mg "zip" = none
 c_SIGNS:zlo mg "SIGNS" [45,48,49]
 z0k:zhF K mg "SWITCHES_BY_POINTS" z14
 i_MOST_SWITCHES_TOGETHER:zm8 mg "MOST_SWITCHES_TOGETHER" 3
 z03:mg "NoFunction" = some (.ref 37)
 z07:mg "NoTerm" = some (.ref 49)
 z06:mg "NoPoint" = some (.ref 61)
 z05:mg "NoNumber" = some (.ref 73)
 z02:mg "NoForm" = some (.ref 85)
 z00:mg "NoChange" = some (.ref 97)
 z08:mg "NoText" = some (.ref 109)
 z04:mg "NoLine" = some (.ref 121)
 z01:mg "NoDeed" = some (.ref 133)
 z09:mg "TermError" = some (.ref 24)
 z0z:aI K (.type "NoneType") (.ref 37)=some false
 z0D:aI K (.type "NoneType") (.ref 49)=some false
 z0C:aI K (.type "NoneType") (.ref 61)=some false
 z0B:aI K (.type "NoneType") (.ref 73)=some false
 z0y:aI K (.type "NoneType") (.ref 85)=some false
 z0w:aI K (.type "NoneType") (.ref 97)=some false
 z0E:aI K (.type "NoneType") (.ref 109)=some false
 z0A:aI K (.type "NoneType") (.ref 121)=some false
 z0x:aI K (.type "NoneType") (.ref 133)=some false
 z0F:aI K (.type "NoneType") (.type "ValueError")=some false
 z0v:dq K (.ref 37) (.ref 24)=some true
 z0d:aI K (.ref 37) (.ref 37)=some true
 z0h:aI K (.ref 37) (.ref 49)=some false
 z0g:aI K (.ref 37) (.ref 61)=some false
 z0f:aI K (.ref 37) (.ref 73)=some false
 z0c:aI K (.ref 37) (.ref 85)=some false
 z0a:aI K (.ref 37) (.ref 97)=some false
 z0i:aI K (.ref 37) (.ref 109)=some false
 z0e:aI K (.ref 37) (.ref 121)=some false
 z0b:aI K (.ref 37) (.ref 133)=some false
 z0j:aI K (.ref 37) (.type "ValueError")=some true
 z0H:XcK K 37
structure z2Z (mg:Str->Option ae) (base:aP):Prop where
 z0G:zlG mg base "NoFunction" 37
theorem z0o {K:aj} {mg:Str->Option ae} (T:Txt K mg):∀ C b,z0L C=some b->aI K (.ref C) (.ref 37)=some b:=by
 intro C b h
 unfold z0L at h
 split at h <;> first|(cases h;first|exact T.z0d)|cases h
theorem z0s {K:aj} {mg:Str->Option ae} (T:Txt K mg):∀ C b,z0P C=some b->aI K (.ref C) (.ref 49)=some b:=by
 intro C b h
 unfold z0P at h
 split at h <;> first|(cases h;first|exact T.z0h)|cases h
theorem z0r {K:aj} {mg:Str->Option ae} (T:Txt K mg):∀ C b,z0O C=some b->aI K (.ref C) (.ref 61)=some b:=by
 intro C b h
 unfold z0O at h
 split at h <;> first|(cases h;first|exact T.z0g)|cases h
theorem z0q {K:aj} {mg:Str->Option ae} (T:Txt K mg):∀ C b,z0N C=some b->aI K (.ref C) (.ref 73)=some b:=by
 intro C b h
 unfold z0N at h
 split at h <;> first|(cases h;first|exact T.z0f)|cases h
theorem z0n {K:aj} {mg:Str->Option ae} (T:Txt K mg):∀ C b,z0K C=some b->aI K (.ref C) (.ref 85)=some b:=by
 intro C b h
 unfold z0K at h
 split at h <;> first|(cases h;first|exact T.z0c)|cases h
theorem z0l {K:aj} {mg:Str->Option ae} (T:Txt K mg):∀ C b,z0I C=some b->aI K (.ref C) (.ref 97)=some b:=by
 intro C b h
 unfold z0I at h
 split at h <;> first|(cases h;first|exact T.z0a)|cases h
theorem z0t {K:aj} {mg:Str->Option ae} (T:Txt K mg):∀ C b,z0Q C=some b->aI K (.ref C) (.ref 109)=some b:=by
 intro C b h
 unfold z0Q at h
 split at h <;> first|(cases h;first|exact T.z0i)|cases h
theorem z0p {K:aj} {mg:Str->Option ae} (T:Txt K mg):∀ C b,z0M C=some b->aI K (.ref C) (.ref 121)=some b:=by
 intro C b h
 unfold z0M at h
 split at h <;> first|(cases h;first|exact T.z0e)|cases h
theorem z0m {K:aj} {mg:Str->Option ae} (T:Txt K mg):∀ C b,z0J C=some b->aI K (.ref C) (.ref 133)=some b:=by
 intro C b h
 unfold z0J at h
 split at h <;> first|(cases h;first|exact T.z0b)|cases h
theorem z0u {K:aj} {mg:Str->Option ae} (T:Txt K mg):∀ C b,z0R C=some b->aI K (.ref C) (.type "ValueError")=some b:=by
 intro C b h
 unfold z0R at h
 split at h <;> first|(cases h;first|exact T.z0j)|cases h
theorem zmz {K:aj} {mg:Str->Option ae} (T:Txt K mg):∀ c,Cl c=.ref (Ca c)/\XcK K (Ca c)/\dq K (.ref (Ca c)) (.ref 24)=some true:=by
 intro c
 refine ⟨rfl,?_⟩
 unfold Ca
 exact ⟨T.z0H,T.z0v⟩
section
variable {P:aJ} {w:aR} {K:aj} {mg:Str->Option ae} {base:aP}
set_option hygiene false in
local macro_rules|`(tactic| walk_at "v")=>`(tactic| first|exact .inl rfl|exact .inr (.inl rfl)|exact .inr (.inr rfl))
set_option hygiene false in
local macro_rules|`(tactic| walk_at "l")=>`(tactic| first|exact .inl rfl|exact .inr rfl)
set_option hygiene false in
local macro_rules|`(tactic| walk_at "le")=>`(tactic| first|decide|exact aB _)
set_option hygiene false in
local macro_rules|`(tactic| walk_at "fx")=>`(tactic| first|refine zdR h (zbn rfl zgr) hr (by walk_at "le") rfl ?_<;>walk_at "a"|refine zdR h (zbn rfl zgV) hr (by walk_at "le") rfl ?_<;>walk_at "a"|refine zhn h hr (by walk_at "le") rfl ?_<;>walk_at "a")
set_option hygiene false in
local macro_rules|`(tactic| walk_at "f")=>`(tactic| first|((with_reducible show PD _ _ _ (dFn _ z5w _));have h:=@z9R P w K mg base T B;walk_at "fx")|((with_reducible show PD _ _ _ (dFn _ z3C _));have h:=@z8Y P w K mg base T B;walk_at "fx")|((with_reducible show PD _ _ _ (dFn _ z23 _));have h:=@z76 P w K mg base T B;walk_at "fx")|((with_reducible show PD _ _ _ (dFn _ z2t _));have h:=@z73 P w K mg base T B;walk_at "fx")|((with_reducible show PD _ _ _ (dFn _ z1H _));have h:=@z5b P w K mg base T B;walk_at "fx")|((with_reducible show PD _ _ _ (dFn _ z6n _));have h:=@zbQ P w K mg base T B;walk_at "fx")|((with_reducible show PD _ _ _ (dFn _ z3h _));have h:=@z6k P w K mg base T B;walk_at "fx")|((with_reducible show PD _ _ _ (dFn _ z28 _));have h:=@z6w P w K mg base T B;walk_at "fx")|((with_reducible show PD _ _ _ (dFn _ z11 _));have h:=@z9F P w K mg base T B;walk_at "fx")|((with_reducible show PD _ _ _ (dFn _ z1j _));have h:=@z5N P w K mg base T B;walk_at "fx")|((with_reducible show PD _ _ _ (dFn _ z2h _));have h:=@z8h P w K mg base T B;walk_at "fx")|((with_reducible show PD _ _ _ (dFn _ z3d _));have h:=@z8f P w K mg base T B;walk_at "fx")|((with_reducible show PD _ _ _ (dFn _ z1J _));have h:=@z6E P w K mg base T B;walk_at "fx")|((with_reducible show PD _ _ _ (dFn _ z1L _));have h:=@z6t P w K mg base T B;walk_at "fx")|((with_reducible show PD _ _ _ (dFn _ z2Y _));have h:=@z9D P w K mg base T B;walk_at "fx")|((with_reducible show PD _ _ _ (dFn _ z30 _));have h:=@z8z P w K mg base T B;walk_at "fx")|((with_reducible show PD _ _ _ (dFn _ z2x _));have h:=@z4X P w K mg base T B;walk_at "fx")|((with_reducible show PD _ _ _ (dFn _ z1k _));have h:=@z4r P w K mg base T B;walk_at "fx")|((with_reducible show PD _ _ _ (dFn _ z2e _));have h:=@z8J P w K mg base T B;walk_at "fx")|((with_reducible show PD _ _ _ (dFn _ z2V _));have h:=@z9s P w K mg base T B;walk_at "fx")|((with_reducible show PD _ _ _ (dFn _ z2E _));have h:=@z86 P w K mg base T B;walk_at "fx")|((with_reducible show PD _ _ _ (dFn _ z1Y _));have h:=@z5K P w K mg base T B;walk_at "fx")|((with_reducible show PD _ _ _ (dFn _ z2R _));have h:=@z9l P w K mg base T B;walk_at "fx")|((with_reducible show PD _ _ _ (dFn _ z1m _));have h:=@z5u P w K mg base T B;walk_at "fx")|((with_reducible show PD _ _ _ (dFn _ z2n _));have h:=@z77 P w K mg base T B;walk_at "fx")|((with_reducible show PD _ _ _ (dFn _ z1x _));have h:=@z5k P w K mg base T B;walk_at "fx")|((with_reducible show PD _ _ _ (dFn _ z1o _));have h:=@z3Y P w K mg base T B;walk_at "fx")|((with_reducible show PD _ _ _ (dFn _ z32 _));have h:=@z9w P w K mg base T B;walk_at "fx")|((with_reducible show PD _ _ _ (dFn _ z21 _));have h:=@z4O P w K mg base T B;walk_at "fx")|((with_reducible show PD _ _ _ (dFn _ z1Z _));have h:=@z5Z P w K mg base T B;walk_at "fx")|((with_reducible show PD _ _ _ (dFn _ z1u _));have h:=@z5Y P w K mg base T B;walk_at "fx")|((with_reducible show PD _ _ _ (dFn _ z1A _));have h:=@z4q P w K mg base T B;walk_at "fx")|((with_reducible show PD _ _ _ (dFn _ z2K _));have h:=@z75 P w K mg base T B;walk_at "fx")|((with_reducible show PD _ _ _ (dFn _ z1V _));have h:=@z4o P w K mg base T B;walk_at "fx")|((with_reducible show PD _ _ _ (dFn _ z1E _));have h:=@z7I P w K mg base T B;walk_at "fx")|((with_reducible show PD _ _ _ (dFn _ z1c _));have h:=@z5e P w K mg base T B;walk_at "fx")|((with_reducible show PD _ _ _ (dFn _ z2B _));have h:=@z6z P w K mg base T B;walk_at "fx")|((with_reducible show PD _ _ _ (dFn _ z3s _));have h:=@zbJ P w K mg base T B;walk_at "fx")|((with_reducible show PD _ _ _ (dFn _ z1y _));have h:=@z4n P w K mg base T B;walk_at "fx")|((with_reducible show PD _ _ _ (dFn _ z20 _));have h:=@z5S P w K mg base T B;walk_at "fx")|((with_reducible show PD _ _ _ (dFn _ z1B _));have h:=@z9v P w K mg base T B;walk_at "fx")|((with_reducible show PD _ _ _ (dFn _ z26 _));have h:=@z7e P w K mg base T B;walk_at "fx")|((with_reducible show PD _ _ _ (dFn _ z3J _));have h:=@z7a P w K mg base T B;walk_at "fx")|((with_reducible show PD _ _ _ (dFn _ z2a _));have h:=@z6m P w K mg base T B;walk_at "fx")|((with_reducible show PD _ _ _ (dFn _ _ _));have h:=c_self;walk_at "fx"))
set_option hygiene false in
local macro_rules|`(tactic| walk_at "k")=>`(tactic| first|exact zke|exact zjx _ rfl|exact zjs|exact zlp)
set_option hygiene false in
local macro_rules|`(tactic| walk_at "n")=>`(tactic| first|exact zgG T.c_SIGNS|exact zhJ T.i_MOST_SWITCHES_TOGETHER)
set_option hygiene false in
local macro_rules|`(tactic| walk_at "o")=>`(tactic| first|((with_reducible show PD _ _ _ (dOp z4i _ _));refine zkU ?_ ?_<;>walk_at "e")|((with_reducible show PD _ _ _ (dOp fIx _ _));exact zlF (by walk_at "e") (by walk_at "e") (fun _ _=>rfl))|((with_reducible show PD _ _ _ (dOp z39 _ _));refine zid ?_ ?_<;>walk_at "e")|((with_reducible show PD _ _ _ (dOp (fI zfl) _ _));refine z5Q zkX zgE ?_ ?_<;>walk_at "e")|((with_reducible show PD _ _ _ (dOp (fI z8q) _ _));refine z5Q ziZ zis ?_ ?_<;>walk_at "e")|((with_reducible show PD _ _ _ (dOp (fI zbZ) _ _));refine z5Q zgU zhl ?_ ?_<;>walk_at "e")|((with_reducible show PD _ _ _ (dOp (fI z7D) _ _));refine z5Q zkE zgz ?_ ?_<;>walk_at "e")|((with_reducible show PD _ _ _ (dOp (fI zcK) _ _));refine z5Q zkb ziE ?_ ?_<;>walk_at "e")|((with_reducible show PD _ _ _ (dOp (fI ziR) _ _));refine z5Q zko ziB ?_ ?_<;>walk_at "e")|((with_reducible show PD _ _ _ (dOp (fI zle) _ _));refine z5Q zk8 zhV ?_ ?_<;>walk_at "e")|((with_reducible show PD _ _ _ (dOp (fI zln) _ _));refine z5Q zku zgP ?_ ?_<;>walk_at "e")|((with_reducible show PD _ _ _ (dOp (z8S _) _ _));refine z5Q zil (zfH _) ?_ ?_<;>walk_at "e")|((with_reducible show PD _ _ _ (dOp z94 _ _));refine z5Q zhD zf7 ?_ ?_<;>walk_at "e")|((with_reducible show PD _ _ _ (dOp fLt _ _));exact z4G zh4 zde (by walk_at "e") (by walk_at "e") (z3o _))|((with_reducible show PD _ _ _ (dOp fLe _ _));exact z4G zgF zcP (by walk_at "e") (by walk_at "e") (z3o _))|((with_reducible show PD _ _ _ (dOp fGe _ _));exact z4G zj5 zg2 (by walk_at "e") (by walk_at "e") (z3o _))|((with_reducible show PD _ _ _ (dOp (fPy eqF) _ _));exact z4G (z9X hr.units) z5y (by walk_at "e") (by walk_at "e") (z3o _))|((with_reducible show PD _ _ _ (dOp (fPy neF) _ _));exact z4G (zat hr.units) z5y (by walk_at "e") (by walk_at "e") (z3o _))|((with_reducible show PD _ _ _ (dOp fIn _ _));exact z4G (zfY hr.units) zfW (by walk_at "e") (by walk_at "e") rfl)|((with_reducible show PD _ _ _ (dOp zbY _ _));exact z4G (zds hr.units) zdQ (by walk_at "e") (by walk_at "e") rfl)|((with_reducible show PD _ _ _ (dOp zm7 _ _));exact z4G zkl zin (by walk_at "e") (by walk_at "e") (z3o _))|((with_reducible show PD _ _ _ (dOp zkK _ _));exact z4G zka ziI (by walk_at "e") (by walk_at "e") (z3o _))|((with_reducible show PD _ _ _ (z4N true z14 _));refine zej T.z0k rfl ?_<;>walk_at "e")|((with_reducible show PD _ _ _ (zcE fLe fLe _ _ _));refine zfb zgF zcP zgF zcP ?_ ?_ ?_<;>walk_at "e"))
set_option hygiene false in
local macro_rules|`(tactic| walk_at "c")=>`(tactic| first|((with_reducible show PD _ _ _ (z17 z38 _));refine z4e zer zkY rfl T.b_len zjI ?_<;>walk_at "a")|((with_reducible show PD _ _ _ (z17 z9L _));refine z4e (zco rfl) zky rfl T.b_all zji ?_<;>walk_at "a")|((with_reducible show PD _ _ _ (z17 zju _));refine z4e (zcy rfl) zkp rfl T.b_any zj4 ?_<;>walk_at "a")|((with_reducible show PD _ _ _ (z17 zbw _));refine z4e (zcq rfl) zh9 rfl T.b_max zkS ?_<;>walk_at "a")|((with_reducible show PD _ _ _ (z17 zbC _));refine z4e (zcS rfl) zh6 rfl T.b_min zkH ?_<;>walk_at "a")|((with_reducible show PD _ _ _ (z17 za7 _));refine z4e zdC zht rfl T.b_sorted z8E ?_<;>walk_at "a")|((with_reducible show PD _ _ _ (z17 z7K _));refine z4Y zcj zhB rfl T.b_int zgk ?_<;>walk_at "a")|((with_reducible show PD _ _ _ (z17 z3R _));refine z4Y z7S zfe rfl T.b_tuple z7N ?_<;>walk_at "a")|((with_reducible show PD _ _ _ (z17 zeS _));refine z4Y z92 zhY rfl T.b_str zgu ?_<;>walk_at "a")|((with_reducible show PD _ _ _ (z17 (zbG _) _));refine z4Y z8Z (zgN _) rfl T.b_list zak ?_<;>walk_at "a")|((with_reducible show PD _ _ _ (z5U "bool" _));exact z8P (by walk_at "e") (by decide) rfl T.b_isinstance z19 rfl T.b_bool ziP)|((with_reducible show PD _ _ _ (z5U "int" _));exact z8P (by walk_at "e") (by decide) rfl T.b_isinstance z19 rfl T.b_int zgk)|((with_reducible show PD _ _ _ (z5U "list" _));exact z8P (by walk_at "e") (by decide) rfl T.b_isinstance z19 rfl T.b_list zak)|((with_reducible show PD _ _ _ (z5U "str" _));exact z8P (by walk_at "e") (by decide) rfl T.b_isinstance z19 rfl T.b_str zgu)|((with_reducible show PD _ _ _ (z5U "tuple" _));exact z8P (by walk_at "e") (by decide) rfl T.b_isinstance z19 rfl T.b_tuple z7N)|((with_reducible show PD _ _ _ (zgI "tuple" "list" _));exact zhM (by walk_at "e") (by decide) (by decide) rfl T.b_isinstance z19 rfl T.b_tuple z7N rfl T.b_list zak)|((with_reducible show PD _ _ _ (z6P z0I _));exact z3H (f:=z0I) (by walk_at "e") rfl T.b_isinstance z19 rfl T.z00 T.z0w (z0l T))|((with_reducible show PD _ _ _ (z6P z0J _));exact z3H (f:=z0J) (by walk_at "e") rfl T.b_isinstance z19 rfl T.z01 T.z0x (z0m T))|((with_reducible show PD _ _ _ (z6P z0K _));exact z3H (f:=z0K) (by walk_at "e") rfl T.b_isinstance z19 rfl T.z02 T.z0y (z0n T))|((with_reducible show PD _ _ _ (z6P z0L _));exact z3H (f:=z0L) (by walk_at "e") rfl T.b_isinstance z19 rfl T.z03 T.z0z (z0o T))|((with_reducible show PD _ _ _ (z6P z0M _));exact z3H (f:=z0M) (by walk_at "e") rfl T.b_isinstance z19 rfl T.z04 T.z0A (z0p T))|((with_reducible show PD _ _ _ (z6P z0N _));exact z3H (f:=z0N) (by walk_at "e") rfl T.b_isinstance z19 rfl T.z05 T.z0B (z0q T))|((with_reducible show PD _ _ _ (z6P z0O _));exact z3H (f:=z0O) (by walk_at "e") rfl T.b_isinstance z19 rfl T.z06 T.z0C (z0r T))|((with_reducible show PD _ _ _ (z6P z0P _));exact z3H (f:=z0P) (by walk_at "e") rfl T.b_isinstance z19 rfl T.z07 T.z0D (z0s T))|((with_reducible show PD _ _ _ (z6P z0Q _));exact z3H (f:=z0Q) (by walk_at "e") rfl T.b_isinstance z19 rfl T.z08 T.z0E (z0t T))|((with_reducible show PD _ _ _ (z6P z0R _));exact zhp (x := "ValueError") (n := "ValueError") (f:=z0R) (by walk_at "e") rfl T.b_isinstance z19 rfl T.b_ValueError z80 T.z0F (z0u T))|((with_reducible show PD _ _ _ (z9S _ _));refine zhA _ rfl rfl T.b_sorted z8E rfl T.b_set zkx ?_<;>walk_at "a"))
set_option hygiene false in
local macro_rules|`(tactic| walk_at "pk")=>`(tactic| first|exact zgi|exact zg5|exact zcL)
set_option hygiene false in
local macro_rules|`(tactic| walk_at "pp")=>`(tactic| first|exact zff (by walk_at "pk") (by walk_at "pk") (by walk_at "pp")|exact ziM)
set_option hygiene false in
local macro_rules|`(tactic| walk_at "so")=>`(tactic| first|((with_reducible show PDO _ _ _ z3u);exact zeH)|refine zfo ?_<;>walk_at "e")
set_option hygiene false in
local macro_rules|`(tactic| walk_at "m")=>`(tactic| first|((with_reducible show PD _ _ _ (zbN _ _));exact ze5 (by walk_at "e") (by walk_at "a"))|((with_reducible show PD _ _ _ (zfv _ _));exact zdP (by walk_at "e") (by walk_at "a"))|((with_reducible show PD _ _ _ (zfy _ _ _));refine zh7 _ _ rfl rfl rfl (d9 rfl) ?_<;>walk_at "e")|((with_reducible show PD _ _ _ (z98 _ _ _ _ _ _ _));first|exact z6x x0 rfl (z3Z (by kernel_rfl)) (by walk_at "i") (fun _ _ _ _ _=>⟨by walk_at "g",by walk_at "fs",by walk_at "cs",by walk_at "e",by walk_at "e"⟩)|exact z6x x1 rfl (z3Z (by kernel_rfl)) (by walk_at "i") (fun _ _ _ _ _=>⟨by walk_at "g",by walk_at "fs",by walk_at "cs",by walk_at "e",by walk_at "e"⟩)|exact z6x x2 rfl (z3Z (by kernel_rfl)) (by walk_at "i") (fun _ _ _ _ _=>⟨by walk_at "g",by walk_at "fs",by walk_at "cs",by walk_at "e",by walk_at "e"⟩))|((with_reducible show PD _ _ _ (z8I _ _));exact zfL (by walk_at "e") (by walk_at "a"))|((with_reducible show PD _ _ _ (zbA _ _));exact zhR (by walk_at "e") (by walk_at "a"))|((with_reducible show PD _ _ _ (z8v _ _ _));exact zkW (by walk_at "e") (by walk_at "so") (by walk_at "so"))|((with_reducible show PD _ _ _ (zeC _ _));exact zgY (by walk_at "e") (by walk_at "so"))|((with_reducible show PD _ _ _ (zjF z14 _));exact ziA T.z0k rfl (by walk_at "e") (fun _ _=>rfl))|((with_reducible show PD _ _ _ (zkP _ _));exact zjE _ (by walk_at "pp") rfl rfl rfl (List.cons_ne_nil _ _) (d9 rfl) (d9 rfl) (zm1 hr) (by walk_at "e") (fun _ _=>rfl)))
set_option hygiene false in
local macro_rules|`(tactic| walk_at "e1")=>`(tactic| first|((with_reducible show PD _ _ _ (z0U _));refine zfS rfl ?_<;>walk_at "v")|((with_reducible show PD _ _ _ (dC _));first|walk_at "k"|walk_at "n")|((with_reducible show PD _ _ _ (dOp _ _ _));walk_at "o")|((with_reducible show PD _ _ _ (dFn _ _ _));walk_at "f")|((with_reducible show PD _ _ _ (z2J _));refine zl0 ?_<;>walk_at "a")|((with_reducible show PD _ _ _ (z3T _));refine zkn ?_<;>walk_at "a")|((with_reducible show PD _ _ _ (z1i _ _ _ _ _ _ _));first|exact z7M x0 _ rfl (z3Z (by kernel_rfl)) (by walk_at "i") (fun _ _ _ _ _=>⟨by walk_at "g",by walk_at "fs",by walk_at "cs",by walk_at "e"⟩)|exact z7M x1 _ rfl (z3Z (by kernel_rfl)) (by walk_at "i") (fun _ _ _ _ _=>⟨by walk_at "g",by walk_at "fs",by walk_at "cs",by walk_at "e"⟩)|exact z7M x2 _ rfl (z3Z (by kernel_rfl)) (by walk_at "i") (fun _ _ _ _ _=>⟨by walk_at "g",by walk_at "fs",by walk_at "cs",by walk_at "e"⟩))|((with_reducible show PD _ _ _ (z17 _ _));walk_at "c")|((with_reducible show PD _ _ _ (z4w _));refine zh8 ?_<;>walk_at "a")|((with_reducible show PD _ _ _ (zdx _ _));refine zjU ?_ ?_<;>walk_at "e")|((with_reducible show PD _ _ _ (dOr _ _));refine zlZ ?_ ?_<;>walk_at "e")|((with_reducible show PD _ _ _ (zlH _));refine zkG ?_<;>walk_at "e")|((with_reducible show PD _ _ _ (zfc _));refine zjH ?_<;>walk_at "e")|((with_reducible show PD _ _ _ zkB);exact zkh)|walk_at "c"|walk_at "m"|walk_at "o")
set_option hygiene false in
local macro_rules|`(tactic| walk_at "e")=>`(tactic| first|(show PD _ _ (.BoolOp _ [_] _) _;refine zjV ?_<;>walk_at "e1")|walk_at "e1")
set_option hygiene false in
local macro_rules|`(tactic| walk_at "a")=>`(tactic| first|((with_reducible show PDA _ _ _ z0X);exact zhy)|exact zeP (by walk_at "e") (by walk_at "a"))
set_option hygiene false in
local macro_rules|`(tactic| walk_at "t")=>`(tactic| first|((with_reducible show PDT _ _ _ (z1W (dOp fLt _ _)));exact z5h zh4 zde (by walk_at "e") (by walk_at "e") (z3o _))|((with_reducible show PDT _ _ _ (z1W (dOp fGe _ _)));exact z5h zj5 zg2 (by walk_at "e") (by walk_at "e") (z3o _))|((with_reducible show PDT _ _ _ (z1W (dOp (fPy eqF) _ _)));exact z5h (z9X hr.units) z5y (by walk_at "e") (by walk_at "e") (z3o _))|((with_reducible show PDT _ _ _ (z1W (dOp (fPy neF) _ _)));exact z5h (zat hr.units) z5y (by walk_at "e") (by walk_at "e") (z3o _))|((with_reducible show PDT _ _ _ (z1W (dOp fIn _ _)));exact z5h (zfY hr.units) zfW (by walk_at "e") (by walk_at "e") rfl)|((with_reducible show PDT _ _ _ (z1W (dOp zbY _ _)));exact z5h (zds hr.units) zdQ (by walk_at "e") (by walk_at "e") rfl)|((with_reducible show PDT _ _ _ (z1W (z4N true z14 _)));refine zbP T.z0k rfl ?_<;>walk_at "e")|(show PDT _ _ (.BoolOp _ _ _) _;refine PDW.pt ?_<;>walk_at "w")|((with_reducible show PDT _ _ _ (z2W _));refine ziy ?_<;>walk_at "t")|((with_reducible show PDT _ _ _ (z37 _));exact zhh (by walk_at "e") (fun _=>rfl)))
set_option hygiene false in
local macro_rules|`(tactic| walk_at "w")=>`(tactic| first|(show PDW _ _ (.BoolOp .And [_] _) _;refine zfm ?_<;>walk_at "t")|(show PDW _ _ (.BoolOp .Or [_] _) _;refine zgJ ?_<;>walk_at "t")|((with_reducible show PDW _ _ _ (z4s _ _));exact zgX (by walk_at "t") (by walk_at "w"))|((with_reducible show PDW _ _ _ (zbD _ _));exact zjB (by walk_at "t") (by walk_at "w")))
set_option hygiene false in
local macro_rules|`(tactic| walk_at "i")=>`(tactic| first|((with_reducible show PDI _ _ _ _ (z31 _));refine zbx rfl T.b_range ?_<;>walk_at "a")|((with_reducible show PDI _ _ _ _ (zcl _));refine zf5 rfl T.b_zip ?_<;>walk_at "a")|((with_reducible show PDI _ _ _ _ (z7l _));refine ze1 rfl T.b_enumerate ?_<;>walk_at "a")|refine zck ?_<;>walk_at "e")
set_option hygiene false in
local macro_rules|`(tactic| walk_at "g")=>`(tactic| first|(show PG _ (.Name _ _) _;refine zgj (z2v (by kernel_rfl)) rfl ?_ ?_<;>walk_at "l")|(show PG _ (.Tuple [_,_] _ _) _;refine zkz rfl (z2v (by kernel_rfl)) rfl rfl ?_ ?_ ?_ ?_<;>walk_at "l"))
set_option hygiene false in
local macro_rules|`(tactic| walk_at "fs")=>`(tactic| first|exact .nil|exact .cons (by walk_at "t") (by walk_at "fs"))
set_option hygiene false in
local macro_rules|`(tactic| walk_at "cs")=>`(tactic| first|exact .nil|(refine ms.cons ?_ (fun _=>rfl) ?_ ?_ ?_;(dsimp only;walk_at "i");(dsimp only;walk_at "g");(dsimp only;walk_at "fs");walk_at "cs"))
set_option hygiene false in
local macro_rules|`(tactic| walk_at "s")=>`(tactic| first|((with_reducible show PDS _ _ _ (z1v _));refine zhP ?_<;>walk_at "e")|((with_reducible show PDS _ _ _ (sIf _ _ _));exact zjA (by walk_at "t") (by walk_at "ss") (by walk_at "ss"))|(show PDS _ _ (.Assign [.Name _ _] (.ListComp _ _ _ _) _) _;first|exact z3V x0 _ rfl (z2v (by kernel_rfl)) rfl rfl (z3Z (by kernel_rfl)) (by walk_at "i") (fun _ _ _ _ _=>⟨by walk_at "g",by walk_at "fs",by walk_at "cs",by walk_at "e"⟩) rfl|exact z3V x1 _ rfl (z2v (by kernel_rfl)) rfl rfl (z3Z (by kernel_rfl)) (by walk_at "i") (fun _ _ _ _ _=>⟨by walk_at "g",by walk_at "fs",by walk_at "cs",by walk_at "e"⟩) rfl|exact z3V x2 _ rfl (z2v (by kernel_rfl)) rfl rfl (z3Z (by kernel_rfl)) (by walk_at "i") (fun _ _ _ _ _=>⟨by walk_at "g",by walk_at "fs",by walk_at "cs",by walk_at "e"⟩) rfl|exact zdj (z2v (by kernel_rfl)) rfl (by walk_at "l") (by walk_at "e"))|((with_reducible show PDS _ _ _ (z24 _ _));exact zdj (z2v (by kernel_rfl)) rfl (by walk_at "l") (by walk_at "e"))|((with_reducible show PDS _ _ _ (z7h _ _ _));exact zha ze3 rfl (by walk_at "i") (by walk_at "g") (by walk_at "ss"))|((with_reducible show PDS _ _ _ (z35 _));refine zfC ?_<;>walk_at "e")|((with_reducible show PDS _ _ _ (zcH _ _ _));refine zgx ?_ ?_ ?_<;>walk_at "e")|((with_reducible show PDS _ _ _ (zls _ _));exact ziL (by walk_at "e") (by walk_at "g"))|((with_reducible show PDS _ _ _ (zdY _ _ _));exact zcm _ ze3 (by walk_at "t") (by walk_at "ss"))|((with_reducible show PDS _ _ _ (zaR 0 _));refine zcz zgr rfl rfl B.z0G rfl rfl ?_<;>walk_at "a")|((with_reducible show PDS _ _ _ z2j);exact zeQ))
set_option hygiene false in
local macro_rules|`(tactic| walk_at "c4")=>`(tactic| first|exact zbE (zaU (z2v (by kernel_rfl)) rfl (by walk_at "l") (zb1 (z1P (z7m (L:=⟨_,_,_,_⟩) L rfl (zc3 (by kernel_rfl)) rfl) z3r))) (z6K (z91 cJ c9 dE z3y (z5D rfl (by walk_at "v")) (z1P (z7m (L:=⟨_,_,_,_⟩) L rfl (zc3 (by kernel_rfl)) rfl) z3r))) (z6K (z91 cJ c9 dE z3y (z5D rfl (by walk_at "v")) (z1P (z7m (L:=⟨_,_,_,_⟩) L rfl (zc3 (by kernel_rfl)) rfl) z3r))) (zgc (zch (z9X hr.units) (zaz (rc T) hr rfl (z3Z (by kernel_rfl)) rfl (by walk_at "v") (z2v (by kernel_rfl)) rfl rfl) (PD.out (by walk_at "e")) (z3o _))) ⟨zc3 (by kernel_rfl),rfl,fun _ _ _ _ _ _=>rfl,fun q lam cd cl A outer s H E hr=>by walk_at "e"⟩ ⟨zc3 (by kernel_rfl),rfl,fun _ _ _ _ _ _=>rfl,fun q lam cd cl A outer s H E hr=>by walk_at "e"⟩ ⟨zc3 (by kernel_rfl),rfl,fun _ _ _ _ _ _=>rfl,fun q lam cd cl A outer s H E hr=>by walk_at "e"⟩ (d9 rfl))
set_option hygiene false in
local macro_rules|`(tactic| walk_at "c4i")=>`(tactic| first|exact zas (zaU (z2v (by kernel_rfl)) rfl (by walk_at "l") (zb1 (z1P (z7m (L:=⟨_,_,_,_⟩) L rfl (zc3 (by kernel_rfl)) rfl) z3r))) (z6K (z91 cJ c9 dE z3y (z5D rfl (by walk_at "v")) (z1P (z7m (L:=⟨_,_,_,_⟩) L rfl (zc3 (by kernel_rfl)) rfl) z3r))) (z6K (z91 cJ c9 dE z3y (z5D rfl (by walk_at "v")) (z1P (z7m (L:=⟨_,_,_,_⟩) L rfl (zc3 (by kernel_rfl)) rfl) z3r))) (zcs (zat hr.units) (zaz (rc T) hr rfl (z3Z (by kernel_rfl)) rfl (by walk_at "v") (z2v (by kernel_rfl)) rfl rfl) (PD.out (by walk_at "e")) (z3o _)) (by walk_at "ss") (by walk_at "ss") ⟨zc3 (by kernel_rfl),rfl,fun _ _ _ _ _ _=>rfl,fun q lam cd cl A outer s H E hr=>by walk_at "e"⟩ ⟨zc3 (by kernel_rfl),rfl,fun _ _ _ _ _ _=>rfl,fun q lam cd cl A outer s H E hr=>by walk_at "e"⟩ ⟨zc3 (by kernel_rfl),rfl,fun _ _ _ _ _ _=>rfl,fun q lam cd cl A outer s H E hr=>by walk_at "e"⟩ (d9 rfl))
set_option hygiene false in
local macro_rules|`(tactic| walk_at "ss")=>`(tactic| first|((with_reducible show z5F _ _ _ (z6C _ _ _ _ _ _ _ _));walk_at "c4i")|((with_reducible show z5F _ _ _ (zcI _ _ _ _ _ _));walk_at "c4")|((with_reducible show z5F _ _ _ z2j);exact zbi)|((with_reducible show z5F _ _ _ ziV);exact z69)|((with_reducible show z5F _ _ _ (z1e _ _));exact z0W (by walk_at "s") (by walk_at "ss"))|refine z15 ?_<;>walk_at "s")
def z7B:DS:=
 (z1v (zdx (z5U "int" (z0U 0)) (zlH (z5U "bool" (z0U 0)))))
def z5w:List D->Ow->R D:=(z2P 1 z7B)
theorem zau:z13 ["thing"] ["thing"] (z0V (top 12)):=fnS rfl rfl rfl (by kernel_rfl)
theorem z9R (T:Txt K mg) (B:z2Z mg base):l0 Cl P w K mg base "is_whole" 1 1 z5w:=
 l0.self (fnX (k:=0) T.d_is_whole zau (fun _ _ _ _ _ _ us hl=>match us,hl with|[_],_=>rfl) fun f cdv A outer s H E hr=>
  ((z15 (by delta z7B;walk_at "s"))))
def z6U:DS:=
 (z1v (z17 z9L (z0T (z1i false 2 (zcl (z0T (z0U 0) (z0T (z8v (z0U 0) (z3k (dC (.int 1))) z3u) z0X))) (.two 1 2) [] [] (dOp zkK (z0U 1) (z0U 2))) z0X)))
def z3C:List D->Ow->R D:=(z2P 1 z6U)
theorem z8U:z13 ["things"] ["things"] (z0V (top 14)):=fnS rfl rfl rfl (by kernel_rfl)
theorem z8Y (T:Txt K mg) (B:z2Z mg base):l0 Cl P w K mg base "is_rising" 1 1 z3C:=
 l0.self (fnX (k:=0) T.d_is_rising z8U (fun _ _ _ _ _ _ us hl=>match us,hl with|[_],_=>rfl) fun f cdv A outer s H E hr=>
  (have x0:Nx ["one", "other"]:=⟨⟩;(z15 (by delta z6U;walk_at "s"))))
def z4K:DS:=
 (z1v (zjF z14 (z17 z38 (z0T (z0U 0) z0X))))
def z23:List D->Ow->R D:=(z2P 1 z4K)
theorem z7j:z13 ["function"] ["function"] (z0V (top 19)):=fnS rfl rfl rfl (by kernel_rfl)
theorem z76 (T:Txt K mg) (B:z2Z mg base):l0 Cl P w K mg base "switches_of" 1 1 z23:=
 l0.self (fnX (k:=0) T.d_switches_of z7j (fun _ _ _ _ _ _ us hl=>match us,hl with|[_],_=>rfl) fun f cdv A outer s H E hr=>
  ((z15 (by delta z4K;walk_at "s"))))
def z4I:DS:=
 (z1v (z1i false 2 (z7l (z0T (z0U 0) z0X)) (.two 2 3) [(z1W (dOp (fPy eqF) (z0U 3) (z0U 1)))] [] (z0U 2)))
def z2t:List D->Ow->R D:=(z2P 2 z4I)
theorem z72:z13 ["function", "answer"] ["function", "answer"] (z0V (top 20)):=fnS rfl rfl rfl (by kernel_rfl)
theorem z73 (T:Txt K mg) (B:z2Z mg base):l0 Cl P w K mg base "points_with" 1 2 z2t:=
 l0.self (fnX (k:=0) T.d_points_with z72 (fun _ _ _ _ _ _ us hl=>match us,hl with|[_,_],_=>rfl) fun f cdv A outer s H E hr=>
  (have x0:Nx ["point", "told"]:=⟨⟩;(z15 (by delta z4I;walk_at "s"))))
def z5T:DS:=
 (z1e (sIf (zbD (z2W (z37 (z5U "str" (z0U 1)))) (z1W (dOp (fPy neF) (z17 z38 (z0T (z0U 1) z0X)) (z0U 0)))) (z1v (dC (.bl false))) z2j) (z1v (z17 z9L (z0T (z1i false 1 (dIt (z0U 1)) (.one 2) [] [] (dOp fIn (z0U 2) (dC (.str [45,48,49])))) z0X))))
def z1H:List D->Ow->R D:=(z2P 2 z5T)
theorem z5v:z13 ["n", "thing"] ["n", "thing"] (z0V (top 23)):=fnS rfl rfl rfl (by kernel_rfl)
theorem z5b (T:Txt K mg) (B:z2Z mg base):l0 Cl P w K mg base "has_term_signs" 1 2 z1H:=
 l0.self (fnX (k:=0) T.d_has_term_signs z5v (fun _ _ _ _ _ _ us hl=>match us,hl with|[_,_],_=>rfl) fun f cdv A outer s H E hr=>
  (have x0:Nx ["sign"]:=⟨⟩;(z0W (by walk_at "s") (z15 (by walk_at "s")))))
def zd3:DS:=
 (z1e (sIf (z1W (dOp (fPy eqF) (z0U 0) (dC (.str [45])))) (z1v (z2J (z0T (dC (.int 0)) (z0T (dC (.int 1)) z0X)))) z2j) (z1v (z2J (z0T (z17 z7K (z0T (z0U 0) z0X)) z0X))))
def z6n:List D->Ow->R D:=(z2P 1 zd3)
theorem zbR:z13 ["sign"] ["sign"] (z0V (top 26)):=fnS rfl rfl rfl (by kernel_rfl)
theorem zbQ (T:Txt K mg) (B:z2Z mg base):l0 Cl P w K mg base "bits_of" 1 1 z6n:=
 l0.self (fnX (k:=0) T.d_bits_of zbR (fun _ _ _ _ _ _ us hl=>match us,hl with|[_],_=>rfl) fun f cdv A outer s H E hr=>
  ((z0W (by walk_at "s") (z15 (by walk_at "s")))))
def z71:DS:=
 ziV
def z3h:List D->Ow->R D:=(z2P 5 z71)
theorem z6b:z13 ["held", "wanted", "many", "found", "fewest"] ["held", "wanted"] (z0V (top 36)):=fnS rfl rfl rfl (by kernel_rfl)
theorem z6k (T:Txt K mg) (B:z2Z mg base):l0 Cl P w K mg base "least_covers" 1 2 z3h:=
 l0.self (fnX (k:=0) T.d_least_covers z6b (fun _ _ _ _ _ _ us hl=>match us,hl with|[_,_],_=>rfl) fun f cdv A outer s H E hr=>
  (z69))
def z70:DS:=
 (z1e (sIf (z1W (dOp fLt (z0U 1) (z17 z38 (z0T (z0U 0) z0X)))) (z1v (dOp fIx (z0U 0) (z0U 1))) z2j) (z1v (dC (.int 0))))
def z28:List D->Ow->R D:=(z2P 2 z70)
theorem z6V:z13 ["_law_script", "_law_k"] ["_law_script", "_law_k"] (z0V (top 50)):=fnS rfl rfl rfl (by kernel_rfl)
theorem z6w (T:Txt K mg) (B:z2Z mg base):l0 Cl P w K mg base "_law_cell_at" 1 2 z28:=
 l0.self (fnX (k:=0) T.d__law_cell_at z6V (fun _ _ _ _ _ _ us hl=>match us,hl with|[_,_],_=>rfl) fun f cdv A outer s H E hr=>
  ((z0W (by walk_at "s") (z15 (by walk_at "s")))))
def za6:DS:=
 (z1e (sIf (z37 (dOp fIx (z0U 0) (dC (.int 1)))) (z1e (z24 2 (dOp (fI z7D) (dOp fIx (z0U 0) (dC (.int 0))) (z0U 1))) (z1e (zcH (dOp (fI zbZ) (dOp fIx (z0U 0) (dC (.int 0))) (z0U 1)) (z0U 0) (dC (.int 0))) (z1v (z0U 2)))) z2j) (z1e (zcH (dOp (fI z7D) (dOp z4i (dOp (fI z8q) (dOp fIx (z0U 0) (dC (.int 0))) (dC (.int 48271))) (dC (.int 29))) (dC (.int 2147483647))) (z0U 0) (dC (.int 0))) (z1e (z24 3 (dOp (fI z7D) (dOp z4i (dOp z4i (dOp (fI z8q) (dOp fIx (z0U 0) (dC (.int 0))) (dOp fIx (z0U 0) (dC (.int 0)))) (dOp (fI z8q) (dC (.int 39373)) (dOp fIx (z0U 0) (dC (.int 0))))) (dC (.int 7))) (dC (.int 2147483629)))) (z1e (z24 3 (dOp (fI z7D) (dOp z4i (dOp (fI z8q) (z0U 3) (z0U 3)) (dOp (fI z8q) (dC (.int 16807)) (z0U 3))) (dC (.int 2147483587)))) (z1v (dOp (fI z7D) (dOp (fI zbZ) (z0U 3) (dC (.int 8))) (z0U 1)))))))
def z11:List D->Ow->R D:=(z2P 4 za6)
theorem z8Q:z13 ["_law_state_here", "_law_many", "_law_found", "_law_stirred"] ["_law_state_here", "_law_many"] (z0V (top 52)):=fnS rfl rfl rfl (by kernel_rfl)
theorem z9F (T:Txt K mg) (B:z2Z mg base):l0 Cl P w K mg base "_law_take" 1 2 z11:=
 l0.self (fnX (k:=0) T.d__law_take z8Q (fun _ _ _ _ _ _ us hl=>match us,hl with|[_,_],_=>rfl) fun f cdv A outer s H E hr=>
  ((z0W (by walk_at "s") (z0W (by walk_at "s") (z0W (by walk_at "s") (z0W (by walk_at "s") (z15 (by walk_at "s"))))))))
def z3U:DS:=
 (z1v (zkP [(2,1),(4,2),(8,3),(16,4)] (z17 z38 (z0T (z0U 0) z0X))))
def z1j:List D->Ow->R D:=(z2P 1 z3U)
theorem z5I:z13 ["_law_function_here"] ["_law_function_here"] (z0V (top 55)):=fnS rfl rfl rfl (by kernel_rfl)
theorem z5N (T:Txt K mg) (B:z2Z mg base):l0 Cl P w K mg base "_law_switches" 1 1 z1j:=
 l0.self (fnX (k:=0) T.d__law_switches z5I (fun _ _ _ _ _ _ us hl=>match us,hl with|[_],_=>rfl) fun f cdv A outer s H E hr=>
  ((z15 (by delta z3U;walk_at "s"))))
def z8X:DS:=
 (z1e (z24 2 (z17 z38 (z0T (z0U 0) z0X))) (z1e (z7h (z31 (z0T (z0U 2) z0X)) (.one 3) (sIf (z4s (z1W (dOp (fPy neF) (dOp fIx (z0U 0) (z0U 3)) (dC (.str [45])))) (z1W (dOp (fPy neF) (dOp fIx (z0U 0) (z0U 3)) (z17 zeS (z0T (dOp (fI zln) (dOp (fI zle) (z0U 1) (dOp (fI zfl) (dOp (fI zfl) (z0U 2) (dC (.int 1))) (z0U 3))) (dC (.int 1))) z0X))))) (z1v (dC (.bl false))) z2j)) (z1v (dC (.bl true)))))
def z2h:List D->Ow->R D:=(z2P 4 z8X)
theorem z7Q:z13 ["_law_term", "_law_point", "_law_n", "_law_k"] ["_law_term", "_law_point"] (z0V (top 56)):=fnS rfl rfl rfl (by kernel_rfl)
theorem z8h (T:Txt K mg) (B:z2Z mg base):l0 Cl P w K mg base "_law_holds" 1 2 z2h:=
 l0.self (fnX (k:=0) T.d__law_holds z7Q (fun _ _ _ _ _ _ us hl=>match us,hl with|[_,_],_=>rfl) fun f cdv A outer s H E hr=>
  ((z0W (by walk_at "s") (z0W (by walk_at "s") (z15 (by walk_at "s"))))))
def z46:DS:=
 (z1e (z24 1 (z2J (z0T (dC (.str [])) z0X))) (z1e (z7h (z31 (z0T (z0U 0) z0X)) (.one 2) (z1e (z24 3 (z4w z0X)) (z1e (z7h (dIt (z0U 1)) (.one 4) (z35 (zfv (z0U 3) (z0T (z2J (z0T (dOp z4i (z0U 4) (dC (.str [45]))) (z0T (dOp z4i (z0U 4) (dC (.str [48]))) (z0T (dOp z4i (z0U 4) (dC (.str [49]))) z0X)))) z0X)))) (z24 1 (z0U 3))))) (z1v (z0U 1))))
def z3d:List D->Ow->R D:=ziQ (z2P 5 z46)
theorem z7Z:z13 ["_law_n", "_law_found", "_law_turn", "_law_longer", "_law_term"] ["_law_n"] (z0V (top 59)):=fnS rfl rfl rfl (by kernel_rfl)
theorem z8f (T:Txt K mg) (B:z2Z mg base):l0 Cl P w K mg base "_law_terms" 1 1 z3d:=
 l0.frz (fnX (k:=0) T.d__law_terms z7Z (fun _ _ _ _ _ _ us hl=>match us,hl with|[_],_=>rfl) fun f cdv A outer s H E hr=>
  ((z0W (by walk_at "s") (z0W (by walk_at "s") (z15 (by walk_at "s"))))))
def z4m:DS:=
 (z1v (dOp (fPy eqF) (z1i false 1 (z31 (z0T (z17 z38 (z0T (z0U 0) z0X)) z0X)) (.one 2) [(z4s (z1W (dOp (fPy neF) (dOp fIx (z0U 1) (z0U 2)) (dC (.str [45])))) (z1W (dOp (fPy neF) (dOp fIx (z0U 1) (z0U 2)) (dOp fIx (z0U 0) (z0U 2)))))] [] (z0U 2)) (z2J z0X)))
def z1J:List D->Ow->R D:=(z2P 2 z4m)
theorem z6S:z13 ["_law_one", "_law_other"] ["_law_one", "_law_other"] (z0V (top 60)):=fnS rfl rfl rfl (by kernel_rfl)
theorem z6E (T:Txt K mg) (B:z2Z mg base):l0 Cl P w K mg base "_law_lies_in" 1 2 z1J:=
 l0.self (fnX (k:=0) T.d__law_lies_in z6S (fun _ _ _ _ _ _ us hl=>match us,hl with|[_,_],_=>rfl) fun f cdv A outer s H E hr=>
  (have x0:Nx ["_law_k"]:=⟨⟩;(z15 (by delta z4m;walk_at "s"))))
def z2y:DS:=
 (z1v (zdx (z5U "str" (z0U 1)) (zdx (dOp (fPy eqF) (z17 z38 (z0T (z0U 1) z0X)) (z0U 0)) (dOp (fPy eqF) (z1i false 1 (dIt (z0U 1)) (.one 2) [(z1W (dOp zbY (z0U 2) (dC (.str [48,49,45]))))] [] (z0U 2)) (z2J z0X)))))
def z1L:List D->Ow->R D:=(z2P 2 z2y)
theorem z6f:z13 ["_law_n", "_law_thing"] ["_law_n", "_law_thing"] (z0V (top 62)):=fnS rfl rfl rfl (by kernel_rfl)
theorem z6t (T:Txt K mg) (B:z2Z mg base):l0 Cl P w K mg base "_law_is_term" 1 2 z1L:=
 l0.self (fnX (k:=0) T.d__law_is_term z6f (fun _ _ _ _ _ _ us hl=>match us,hl with|[_,_],_=>rfl) fun f cdv A outer s H E hr=>
  (have x0:Nx ["_law_sign"]:=⟨⟩;(z15 (by delta z2y;walk_at "s"))))
def z3F:DS:=
 (z1v (z1i false 1 (z31 (z0T (z17 z38 (z0T (z0U 0) z0X)) z0X)) (.one 1) [(z1W (dOp (fPy eqF) (dOp fIx (z0U 0) (z0U 1)) (dC (.int 1))))] [] (z0U 1)))
def z2Y:List D->Ow->R D:=(z2P 1 z3F)
theorem z8B:z13 ["_law_function_here"] ["_law_function_here"] (z0V (top 64)):=fnS rfl rfl rfl (by kernel_rfl)
theorem z9D (T:Txt K mg) (B:z2Z mg base):l0 Cl P w K mg base "_law_ones" 1 1 z2Y:=
 l0.self (fnX (k:=0) T.d__law_ones z8B (fun _ _ _ _ _ _ us hl=>match us,hl with|[_],_=>rfl) fun f cdv A outer s H E hr=>
  (have x0:Nx ["_law_point"]:=⟨⟩;(z15 (by delta z3F;walk_at "s"))))
def zai (F:List D->Ow->R D):DS:=
 (z1e (sIf (z37 (zgI "tuple" "list" (z0U 1))) (z1e (sIf (zbD (z1W (dOp (fPy neF) (z5U "tuple" (z0U 0)) (z5U "tuple" (z0U 1)))) (z1W (dOp (fPy neF) (z5U "list" (z0U 0)) (z5U "list" (z0U 1))))) (z1v (dC (.bl false))) z2j) (z1e (sIf (z1W (dOp (fPy neF) (z17 z38 (z0T (z0U 0) z0X)) (z17 z38 (z0T (z0U 1) z0X)))) (z1v (dC (.bl false))) z2j) (z1v (z17 z9L (z0T (z1i false 2 (zcl (z0T (z0U 0) (z0T (z0U 1) z0X))) (.two 2 3) [] [] (dFn 2 F (z0T (z0U 2) (z0T (z0U 3) z0X)))) z0X))))) z2j) (z1v (zdx (dOp (fPy eqF) (z0U 0) (z0U 1)) (dOp (fPy eqF) (z5U "bool" (z0U 0)) (z5U "bool" (z0U 1))))))
def z44:Nat->List D->Ow->R D
 | 0=>fun _ _=>.bad
 | k + 1=>(z2P 2 (zai (z44 k)))
theorem z5E:z13 ["_law_found", "_law_due"] ["_law_found", "_law_due"] (z0V (top 70)):=fnS rfl rfl rfl (by kernel_rfl)
theorem z4F (T:Txt K mg) (B:z2Z mg base):∀ k,l0 Cl P w K mg base "_law_same" (1 + k) 2 (z44 k)
 | 0=>l0.bad (F:=z2P 2 ziV) (fnX T.d__law_same z5E (fun _ _ _ _ _ _ us hl=>match us,hl with|[_,_],_=>rfl) fun f cdv A outer s H E hr=>z69)
 | k + 1=>l0.self (fnX (k:=1 + k) T.d__law_same z5E (fun _ _ _ _ _ _ us hl=>match us,hl with|[_,_],_=>rfl) fun f cdv A outer s H E hr=>
  have c_self:=z4F T B k
  (have x0:Nx ["_law_one", "_law_other"]:=⟨⟩;(z0W (by walk_at "s") (z15 (by walk_at "s")))))
def z30:List D->Ow->R D:=z44 3
theorem z8z (T:Txt K mg) (B:z2Z mg base):l0 Cl P w K mg base "_law_same" 4 2 z30:=z4F T B 3
def z4j:DS:=
 (z1e (z24 3 (z2J (z0T (z6P z0L (z0U 1)) (z0T (z6P z0P (z0U 1)) (z0T (z6P z0O (z0U 1)) z0X))))) (z1e (z24 3 (dOp z4i (z0U 3) (z2J (z0T (z6P z0N (z0U 1)) (z0T (z6P z0Q (z0U 1)) (z0T (z6P z0M (z0U 1)) z0X)))))) (z1e (z24 3 (dOp z4i (z0U 3) (z2J (z0T (z6P z0J (z0U 1)) (z0T (z6P z0K (z0U 1)) (z0T (z6P z0I (z0U 1)) z0X)))))) (z1e (sIf (z2W (z37 (z6P z0R (z0U 1)))) (z1v (dC .non)) z2j) (z1v (z1i false 1 (z31 (z0T (dC (.int 9)) z0X)) (.one 4) [(z37 (dOp fIx (z0U 3) (z0U 4)))] [] (z0U 4)))))))
theorem z40:z13 ["_law_call", "_law_error", "e", "_law_marks"] ["_law_call"] (z0V (top 72)):=fnS rfl rfl rfl (by kernel_rfl)
theorem zmn {X:Cx} {Ex:Nat->Hp->Prop} {k iT:Nat} {c Pt:af} {tE:DE} {params:dX} {body:aK} {scope:b9} {pn pl pp:Pos} (T:Txt X.K X.mg) (hr:me (k + 2) X.A) (L:z78 X.mg X.base c Pt) (hcode:X.env.code=.ref c) (LS:z4A X.env.scope scope) (hdef:defaultsOf params X.env=([],[]))
  (hbl:∀ (name qual:Str) (cl:List (Str × af)) (pm cd ct:ae),bindArgs (c8 name qual params body scope cl pm cd ct) ⟨[],[]⟩=pure [])
  (hE:∀ (q:Str) (lam:af) (cd:ae) (cl:List (Str × af)) (A:ba) (outer:List Env) (s:ai) (H:Hp) (E:XK),me k (A.deeper (z9N q scope s.heap.objs.size lam cd cl))->PD (cxL (CXr X.prog X.w Cl) X.prog X.w X.K X.mg X.base X.N (z9N q scope s.heap.objs.size lam cd cl) A outer s H E) (Xk Cl E) body tE)
  (hg:Gl X "_law_refused"):PD X Ex (.Call (.Name "_law_refused" pn) [.Lambda params body scope pl] [] pp) (z8s Pt iT Ca 4 1 tE z4j):=
 zbz (N:=["_law_call", "_law_error", "e", "_law_marks"]) (i:=2) (j:=1) (nf := "_law_call") (n := "e") (y := "_law_error") (xT := "TermError") (T:=24) (Cl:=Cl) (Ca:=Ca) T.d__law_refused hr rfl z40 (by decide +kernel) rfl rfl rfl (by decide) (by decide) rfl rfl (.inl rfl) (fun _ _ _ _ _ _ us hl=>match us,hl with|[_],_=>rfl) rfl T.z09 (zmz T) (fun f cdv s H hr=>(have x0:Nx ["_law_k"]:=⟨⟩;(z0W (by walk_at "s") (z0W (by walk_at "s") (z0W (by walk_at "s") (z0W (by walk_at "s") (z15 (by walk_at "s")))))))) L hcode LS hdef hbl hE hg
theorem rc (T:Txt K mg):zlM Cl Ca P w K mg base "_law_refused" 4 1 z4j:=
 zlX (N:=["_law_call", "_law_error", "e", "_law_marks"]) (i:=2) (j:=1) (nf := "_law_call") (n := "e") (y := "_law_error") (xT := "TermError") (T:=24) T.d__law_refused rfl z40 (by decide +kernel) rfl rfl rfl (by decide) (by decide) rfl rfl (.inl rfl) (fun _ _ _ _ _ _ us hl=>match us,hl with|[_],_=>rfl) rfl T.z09 (zmz T) (fun k A outer f cdv s H hr=>(have x0:Nx ["_law_k"]:=⟨⟩;(z0W (by walk_at "s") (z0W (by walk_at "s") (z0W (by walk_at "s") (z0W (by walk_at "s") (z15 (by walk_at "s"))))))))
def z3p:DS:=
 (z1v (zdx (dFn 1 z5w (z0T (z0U 0) z0X)) (zcE fLe fLe (z0U 1) (z0U 0) (z0U 2))))
def z2x:List D->Ow->R D:=(z2P 3 z3p)
theorem z4M:z13 ["thing", "least", "most"] ["thing", "least", "most"] (z0V (top 13)):=fnS rfl rfl rfl (by kernel_rfl)
theorem z4X (T:Txt K mg) (B:z2Z mg base):l0 Cl P w K mg base "is_whole_within" 2 3 z2x:=
 l0.self (fnX (k:=1) T.d_is_whole_within z4M (fun _ _ _ _ _ _ us hl=>match us,hl with|[_,_,_],_=>rfl) fun f cdv A outer s H E hr=>
  ((z15 (by delta z3p;walk_at "s"))))
def z2q:DS:=
 (z1e (sIf (z2W (z37 (z5U "tuple" (z0U 1)))) (z1v (dC (.bl false))) z2j) (z1v (zdx (z17 z9L (z0T (z1i false 1 (dIt (z0U 1)) (.one 2) [] [] (dFn 2 z1H (z0T (z0U 0) (z0T (z0U 2) z0X)))) z0X)) (dFn 1 z3C (z0T (z0U 1) z0X)))))
def z1k:List D->Ow->R D:=(z2P 2 z2q)
theorem z4u:z13 ["n", "thing"] ["n", "thing"] (z0V (top 24)):=fnS rfl rfl rfl (by kernel_rfl)
theorem z4r (T:Txt K mg) (B:z2Z mg base):l0 Cl P w K mg base "has_rising_terms" 2 2 z1k:=
 l0.self (fnX (k:=1) T.d_has_rising_terms z4u (fun _ _ _ _ _ _ us hl=>match us,hl with|[_,_],_=>rfl) fun f cdv A outer s H E hr=>
  (have x0:Nx ["term"]:=⟨⟩;(z0W (by walk_at "s") (z15 (by walk_at "s")))))
def z9P:DS:=
 (z1e (z24 1 (z2J (z0T (dC (.int 0)) z0X))) (z1e (z7h (dIt (z0U 0)) (.one 2) (z24 1 (z1i false 2 (dIt (z0U 1)) (.one 3) [] (⟨(dIt (dFn 1 z6n (z0T (z0U 2) z0X))),(.one 4),[]⟩ :: []) (dOp z4i (dOp (fI z8q) (dC (.int 2)) (z0U 3)) (z0U 4))))) (z1v (z0U 1))))
def z2e:List D->Ow->R D:=(z2P 3 z9P)
theorem z9p:z13 ["term", "points", "sign"] ["term"] (z0V (top 27)):=fnS rfl rfl rfl (by kernel_rfl)
theorem z8J (T:Txt K mg) (B:z2Z mg base):l0 Cl P w K mg base "points_of" 2 1 z2e:=
 l0.self (fnX (k:=1) T.d_points_of z9p (fun _ _ _ _ _ _ us hl=>match us,hl with|[_],_=>rfl) fun f cdv A outer s H E hr=>
  (have x0:Nx ["point", "bit"]:=⟨⟩;(z0W (by walk_at "s") (z0W (by walk_at "s") (z15 (by walk_at "s"))))))
def z3D:DS:=
 (z1v (z1i false 3 (z7l (z0T (z0U 0) z0X)) (.two 1 2) [] (⟨(dIt (dFn 2 z2t (z0T (z0U 2) (z0T (dC (.int 1)) z0X)))),(.one 3),[]⟩ :: []) (z3T (z0T (z0U 1) (z0T (z0U 3) z0X)))))
def z2V:List D->Ow->R D:=(z2P 1 z3D)
theorem z9b:z13 ["functions"] ["functions"] (z0V (top 41)):=fnS rfl rfl rfl (by kernel_rfl)
theorem z9s (T:Txt K mg) (B:z2Z mg base):l0 Cl P w K mg base "things_of" 2 1 z2V:=
 l0.self (fnX (k:=1) T.d_things_of z9b (fun _ _ _ _ _ _ us hl=>match us,hl with|[_],_=>rfl) fun f cdv A outer s H E hr=>
  (have x0:Nx ["number", "function", "point"]:=⟨⟩;(z15 (by delta z3D;walk_at "s"))))
def z9c:DS:=
 (z1e (z24 2 (dFn 2 z28 (z0T (z0U 0) (z0T (z0U 1) z0X)))) (z1e (sIf (z1W (dOp fGe (z0U 2) (dOp (fI zcK) (dC (.int 10)) (dC (.int 18))))) (z1v (z4w (z0T (dOp (fI zfl) (z0U 2) (dOp (fI zcK) (dC (.int 10)) (dC (.int 18)))) (z0T (dC (.bl true)) z0X)))) z2j) (z1v (z4w (z0T (dOp (fI z7D) (z0U 2) (dC (.int 2147483647))) (z0T (dC (.bl false)) z0X))))))
def z2E:List D->Ow->R D:=(z2P 3 z9c)
theorem z8k:z13 ["_law_script", "_law_k", "_law_cell"] ["_law_script", "_law_k"] (z0V (top 51)):=fnS rfl rfl rfl (by kernel_rfl)
theorem z86 (T:Txt K mg) (B:z2Z mg base):l0 Cl P w K mg base "_law_state" 2 2 z2E:=
 l0.self (fnX (k:=1) T.d__law_state z8k (fun _ _ _ _ _ _ us hl=>match us,hl with|[_,_],_=>rfl) fun f cdv A outer s H E hr=>
  ((z0W (by walk_at "s") (z0W (by walk_at "s") (z15 (by walk_at "s"))))))
def z2k:DS:=
 (z1e (z24 3 (dOp fIx (z2J (z0T (dC (.int 2)) (z0T (dC (.int 4)) (z0T (dC (.int 6)) z0X)))) (dFn 2 z11 (z0T (z0U 0) (z0T (dC (.int 3)) z0X))))) (z1e (z24 4 (dOp (fI z8q) (dFn 2 z11 (z0T (z0U 0) (z0T (dC (.int 3)) z0X))) (z17 z7K (z0T (z0U 2) z0X)))) (z1e (z24 5 (z4w z0X)) (z1e (z7h (z31 (z0T (dOp (fI ziR) (dC (.int 1)) (z0U 1)) z0X)) (.one 6) (z1e (z24 7 (z17 z7K (z0T (dOp fLt (dFn 2 z11 (z0T (z0U 0) (z0T (dC (.int 8)) z0X))) (z0U 3)) z0X))) (z1e (sIf (z1W (dOp fLt (dFn 2 z11 (z0T (z0U 0) (z0T (dC (.int 5)) z0X))) (z0U 4))) (z24 7 (dC .non)) z2j) (z35 (zbN (z0U 5) (z0T (z0U 7) z0X)))))) (z1v (z17 z3R (z0T (z0U 5) z0X)))))))
def z1Y:List D->Ow->R D:=ziQ (z2P 8 z2k)
theorem z5W:z13 ["_law_state_here", "_law_n", "_law_free", "_law_often", "_law_rest", "_law_found", "_law_point", "_law_answer"] ["_law_state_here", "_law_n", "_law_free"] (z0V (top 53)):=fnS rfl rfl rfl (by kernel_rfl)
theorem z5K (T:Txt K mg) (B:z2Z mg base):l0 Cl P w K mg base "_law_function" 2 3 z1Y:=
 l0.frz (fnX (k:=1) T.d__law_function z5W (fun _ _ _ _ _ _ us hl=>match us,hl with|[_,_,_],_=>rfl) fun f cdv A outer s H E hr=>
  ((z0W (by walk_at "s") (z0W (by walk_at "s") (z0W (by walk_at "s") (z0W (by walk_at "s") (z15 (by walk_at "s"))))))))
def z3P:DS:=
 (z1v (dOp (fPy eqF) (z1i false 1 (z31 (z0T (z17 z38 (z0T (z0U 0) z0X)) z0X)) (.one 2) [(z4s (z1W (dOp (fPy eqF) (dOp fIx (z0U 0) (z0U 2)) (dC (.int 0)))) (z37 (dFn 2 z2h (z0T (z0U 1) (z0T (z0U 2) z0X)))))] [] (z0U 2)) (z2J z0X)))
def z2R:List D->Ow->R D:=(z2P 2 z3P)
theorem z9r:z13 ["_law_function_here", "_law_term"] ["_law_function_here", "_law_term"] (z0V (top 57)):=fnS rfl rfl rfl (by kernel_rfl)
theorem z9l (T:Txt K mg) (B:z2Z mg base):l0 Cl P w K mg base "_law_good" 2 2 z2R:=
 l0.self (fnX (k:=1) T.d__law_good z9r (fun _ _ _ _ _ _ us hl=>match us,hl with|[_,_],_=>rfl) fun f cdv A outer s H E hr=>
  (have x0:Nx ["_law_point"]:=⟨⟩;(z15 (by delta z3P;walk_at "s"))))
def z2G:DS:=
 (z1e (sIf (zbD (z2W (z37 (z5U "tuple" (z0U 1)))) (z2W (z37 (z17 z9L (z0T (z1i false 1 (dIt (z0U 1)) (.one 2) [] [] (dFn 2 z1L (z0T (z0U 0) (z0T (z0U 2) z0X)))) z0X))))) (z1v (dC (.bl false))) z2j) (z1v (dOp (fPy eqF) (z17 (zbG false) (z0T (z0U 1) z0X)) (z9S false (z0T (z0U 1) z0X)))))
def z1m:List D->Ow->R D:=(z2P 2 z2G)
theorem z5r:z13 ["_law_n", "_law_thing"] ["_law_n", "_law_thing"] (z0V (top 63)):=fnS rfl rfl rfl (by kernel_rfl)
theorem z5u (T:Txt K mg) (B:z2Z mg base):l0 Cl P w K mg base "_law_are_terms" 2 2 z1m:=
 l0.self (fnX (k:=1) T.d__law_are_terms z5r (fun _ _ _ _ _ _ us hl=>match us,hl with|[_,_],_=>rfl) fun f cdv A outer s H E hr=>
  (have x0:Nx ["_law_term"]:=⟨⟩;(z0W (by walk_at "s") (z15 (by walk_at "s")))))
def z2M:DS:=
 (z1e (z24 1 (z4w z0X)) (z1e (z7h (z31 (z0T (z17 z38 (z0T (z0U 0) z0X)) z0X)) (.one 2) (z35 (zfv (z0U 1) (z0T (z1i false 1 (dIt (dFn 1 z2Y (z0T (dOp fIx (z0U 0) (z0U 2)) z0X))) (.one 3) [] [] (z3T (z0T (z0U 2) (z0T (z0U 3) z0X)))) z0X)))) (z1v (z0U 1))))
def z2n:List D->Ow->R D:=ziQ (z2P 3 z2M)
theorem z7b:z13 ["_law_functions", "_law_found", "_law_k"] ["_law_functions"] (z0V (top 65)):=fnS rfl rfl rfl (by kernel_rfl)
theorem z77 (T:Txt K mg) (B:z2Z mg base):l0 Cl P w K mg base "_law_things" 2 1 z2n:=
 l0.frz (fnX (k:=1) T.d__law_things z7b (fun _ _ _ _ _ _ us hl=>match us,hl with|[_],_=>rfl) fun f cdv A outer s H E hr=>
  (have x0:Nx ["_law_point"]:=⟨⟩;(z0W (by walk_at "s") (z0W (by walk_at "s") (z15 (by walk_at "s"))))))
def z2H:DS:=
 (z1e (z24 3 (dFn 2 z11 (z0T (z0U 0) (z0T (dOp z39 (z17 z38 (z0T (z0U 1) z0X)) (dC (.int 1))) z0X)))) (z1e (z24 4 (zbA (dC (.str [])) (z0T (z1i false 1 (z31 (z0T (z0U 2) z0X)) (.one 7) [] [] (dOp fIx (dC (.str [48,49,45])) (dFn 2 z11 (z0T (z0U 0) (z0T (dC (.int 3)) z0X))))) z0X))) (z1e (z24 5 (z2J (z0T (z0U 4) (z0T (dOp z94 (dC (.str [45])) (z0U 2)) (z0T (z8v (z0U 4) z3u (z3k (zfc (dC (.int 1))))) (z0T (dOp z39 (z0U 4) (dC (.str [48]))) (z0T (zfy [48] [50] (z0U 4)) (z0T (dC .non) (z0T (dC (.int 0)) (z0T (z3T (z0T (z0U 4) z0X)) (z0T (dC (.str [])) (z0T (dC (.bl true)) z0X)))))))))))) (z1e (z24 5 (dOp fIx (z0U 5) (dFn 2 z11 (z0T (z0U 0) (z0T (dC (.int 10)) z0X))))) (z1e (z24 6 (z2J (z0T (dOp z39 (dOp z39 (z8v (z0U 1) z3u (z3k (z0U 3))) (z3T (z0T (z0U 5) z0X))) (z8v (z0U 1) (z3k (z0U 3)) z3u)) (z0T (dOp z39 (dOp z39 (z8v (z0U 1) z3u (z3k (z0U 3))) (z3T (z0T (z0U 5) z0X))) (z8v (z0U 1) (z3k (dOp z39 (z0U 3) (dC (.int 1)))) z3u)) (z0T (dOp z39 (z8v (z0U 1) z3u (z3k (z0U 3))) (z8v (z0U 1) (z3k (dOp z39 (z0U 3) (dC (.int 1)))) z3u)) (z0T (z17 (zbG false) (z0T (z0U 1) z0X)) z0X)))))) (z1e (z24 6 (dOp z39 (z0U 6) (z2J (z0T (zeC (z0U 1) (z3k (zfc (dC (.int 1))))) (z0T (dOp z39 (z0U 1) (z8v (z0U 1) (z3k (zfc (dC (.int 1)))) z3u)) (z0T (dC .non) (z0T zkB (z0T (z17 z3R (z0T (z9S false (z0T (dOp z39 (z0U 1) (z3T (z0T (z0U 4) z0X))) z0X)) z0X)) (z0T (zbA (dC (.str [32])) (z0T (z0U 1) z0X)) z0X))))))))) (z1v (dOp fIx (z0U 6) (dOp fIx (z2J (z0T (dC (.int 0)) (z0T (dC (.int 0)) (z0T (dC (.int 1)) (z0T (dC (.int 1)) (z0T (dC (.int 2)) (z0T (dC (.int 2)) (z0T (dC (.int 3)) (z0T (dC (.int 4)) (z0T (dC (.int 5)) (z0T (dC (.int 6)) (z0T (dC (.int 7)) (z0T (dC (.int 8)) (z0T (dC (.int 8)) (z0T (dC (.int 9)) z0X))))))))))))))) (dFn 2 z11 (z0T (z0U 0) (z0T (dC (.int 14)) z0X))))))))))))
def z1x:List D->Ow->R D:=(z2P 7 z2H)
theorem z5a:z13 ["_law_state_here", "_law_form", "_law_n", "_law_at", "_law_term", "_law_odd", "_law_some"] ["_law_state_here", "_law_form", "_law_n"] (z0V (top 69)):=fnS rfl rfl rfl (by kernel_rfl)
theorem z5k (T:Txt K mg) (B:z2Z mg base):l0 Cl P w K mg base "_law_bent_form" 2 3 z1x:=
 l0.self (fnX (k:=1) T.d__law_bent_form z5a (fun _ _ _ _ _ _ us hl=>match us,hl with|[_,_,_],_=>rfl) fun f cdv A outer s H E hr=>
  (have x0:Nx ["_law_k"]:=⟨⟩;(z0W (by walk_at "s") (z0W (by walk_at "s") (z0W (by walk_at "s") (z0W (by walk_at "s") (z0W (by walk_at "s") (z0W (by walk_at "s") (z15 (by walk_at "s"))))))))))
def z27:DS:=
 (z1e (zls (.two 1 2) (z3T (z0T (z3T (z0T (dC (.int 0)) (z0T (dC (.int 1)) (z0T (dC (.int 1)) (z0T (dC (.int 0)) z0X))))) (z0T (z3T (z0T (dC (.int 1)) (z0T (dC .non) z0X))) z0X)))) (z1e (z24 3 (z2J (z0T (dC .non) (z0T (z3T z0X) (z0T (z3T (z0T (z0U 1) z0X)) (z0T (z3T (z0T (z0U 1) (z0T (z0U 2) z0X))) (z0T (dOp (z8S false) (z3T (z0T (z0U 1) z0X)) (dC (.int 4))) (z0T (z2J (z0T (z0U 1) (z0T (z0U 1) z0X))) (z0T (z3T (z0T (dOp (z8S false) (z3T (z0T (dC (.int 0)) z0X)) (dC (.int 16))) (z0T (dOp (z8S false) (z3T (z0T (dC (.int 1)) z0X)) (dC (.int 16))) z0X))) (z0T (z0U 1) (z0T (z3T (z0T (dC .non) (z0T (z0U 1) z0X))) (z0T zkB z0X)))))))))))) (z1v (dOp fIx (dOp z4i (z0U 3) (z2J (z0T (z3T (z0T (z0U 1) (z0T (z3T (z0T (dC (.int 0)) (z0T (dC (.int 1)) (z0T (dC (.int 2)) (z0T (dC (.int 0)) z0X))))) z0X))) (z0T (z3T (z0T (dC (.str [48,49])) (z0T (dC (.str [49,48])) z0X))) (z0T (z3T (z0T (z0U 1) (z0T (z2J (z0T (dC (.int 0)) (z0T (dC (.int 0)) (z0T (dC (.int 0)) (z0T (dC (.int 1)) z0X))))) z0X))) z0X))))) (dFn 2 z11 (z0T (z0U 0) (z0T (dC (.int 13)) z0X)))))))
def z1o:List D->Ow->R D:=(z2P 4 z27)
theorem z45:z13 ["_law_state_here", "_law_one", "_law_other", "_law_some"] ["_law_state_here"] (z0V (top 71)):=fnS rfl rfl rfl (by kernel_rfl)
theorem z3Y (T:Txt K mg) (B:z2Z mg base):l0 Cl P w K mg base "_law_bad_functions" 2 1 z1o:=
 l0.self (fnX (k:=1) T.d__law_bad_functions z45 (fun _ _ _ _ _ _ us hl=>match us,hl with|[_],_=>rfl) fun f cdv A outer s H E hr=>
  ((z0W (by walk_at "s") (z0W (by walk_at "s") (z15 (by walk_at "s"))))))
def z6Q:DS:=
 (z1v (dOr (dOp zm7 (z0U 0) (dC .non)) (dFn 3 z2x (z0T (z0U 0) (z0T (dC (.int 0)) (z0T (dC (.int 1)) z0X))))))
def z32:List D->Ow->R D:=(z2P 1 z6Q)
theorem z8D:z13 ["thing"] ["thing"] (z0V (top 17)):=fnS rfl rfl rfl (by kernel_rfl)
theorem z9w (T:Txt K mg) (B:z2Z mg base):l0 Cl P w K mg base "is_answer" 3 1 z32:=
 l0.self (fnX (k:=2) T.d_is_answer z8D (fun _ _ _ _ _ _ us hl=>match us,hl with|[_],_=>rfl) fun f cdv A outer s H E hr=>
  ((z15 (by delta z6Q;walk_at "s"))))
def z3B:DS:=
 (z1v (z17 z9L (z0T (z1i false 1 (dIt (dFn 1 z2e (z0T (z0U 1) z0X))) (.one 2) [] [] (dOp (fPy neF) (dOp fIx (z0U 0) (z0U 2)) (dC (.int 0)))) z0X)))
def z21:List D->Ow->R D:=(z2P 2 z3B)
theorem z4C:z13 ["function", "term"] ["function", "term"] (z0V (top 31)):=fnS rfl rfl rfl (by kernel_rfl)
theorem z4O (T:Txt K mg) (B:z2Z mg base):l0 Cl P w K mg base "holds_no_nought" 3 2 z21:=
 l0.self (fnX (k:=2) T.d_holds_no_nought z4C (fun _ _ _ _ _ _ us hl=>match us,hl with|[_,_],_=>rfl) fun f cdv A outer s H E hr=>
  (have x0:Nx ["point"]:=⟨⟩;(z15 (by delta z3B;walk_at "s"))))
def z2s:DS:=
 (z1e (z24 1 (dOp fIx (z2J (z0T (dC (.int 3)) (z0T (dC (.int 2)) (z0T (dC (.int 3)) (z0T (dC (.int 1)) z0X))))) (dFn 2 z11 (z0T (z0U 0) (z0T (dC (.int 4)) z0X))))) (z1e (z24 2 (z1i true 1 (z31 (z0T (dOp z4i (dC (.int 2)) (dFn 2 z11 (z0T (z0U 0) (z0T (dC (.int 2)) z0X)))) z0X)) (.one 3) [] [] (dFn 3 z1Y (z0T (z0U 0) (z0T (z0U 1) (z0T (dC (.bl true)) z0X)))))) (z1e (sIf (z1W (dOp (fPy eqF) (dFn 2 z11 (z0T (z0U 0) (z0T (dC (.int 4)) z0X))) (dC (.int 0)))) (zcH (dOp fIx (z0U 2) (dC (.int 0))) (z0U 2) (dC (.int 1))) z2j) (z1v (z17 z3R (z0T (z0U 2) z0X))))))
def z1Z:List D->Ow->R D:=ziQ (z2P 3 z2s)
theorem z5P:z13 ["_law_state_here", "_law_n", "_law_found"] ["_law_state_here"] (z0V (top 54)):=fnS rfl rfl rfl (by kernel_rfl)
theorem z5Z (T:Txt K mg) (B:z2Z mg base):l0 Cl P w K mg base "_law_together" 3 1 z1Z:=
 l0.frz (fnX (k:=2) T.d__law_together z5P (fun _ _ _ _ _ _ us hl=>match us,hl with|[_],_=>rfl) fun f cdv A outer s H E hr=>
  (have x0:Nx ["_law_turn"]:=⟨⟩;(z0W (by walk_at "s") (z0W (by walk_at "s") (z0W (by walk_at "s") (z15 (by walk_at "s")))))))
def z2l:DS:=
 (z1v (z1i false 1 (z31 (z0T (z17 z38 (z0T (z0U 0) z0X)) z0X)) (.one 2) [(z37 (dFn 2 z2R (z0T (dOp fIx (z0U 0) (z0U 2)) (z0T (z0U 1) z0X))))] [] (z0U 2)))
def z1u:List D->Ow->R D:=(z2P 2 z2l)
theorem z5R:z13 ["_law_functions", "_law_term"] ["_law_functions", "_law_term"] (z0V (top 58)):=fnS rfl rfl rfl (by kernel_rfl)
theorem z5Y (T:Txt K mg) (B:z2Z mg base):l0 Cl P w K mg base "_law_good_for" 3 2 z1u:=
 l0.self (fnX (k:=2) T.d__law_good_for z5R (fun _ _ _ _ _ _ us hl=>match us,hl with|[_,_],_=>rfl) fun f cdv A outer s H E hr=>
  (have x0:Nx ["_law_k"]:=⟨⟩;(z15 (by delta z2l;walk_at "s"))))
def z1S:DS:=
 (z1v (zdx (dFn 2 z2R (z0T (dOp fIx (z0U 0) (dOp fIx (z0U 2) (dC (.int 0)))) (z0T (z0U 1) z0X))) (dFn 2 z2h (z0T (z0U 1) (z0T (dOp fIx (z0U 2) (dC (.int 1))) z0X)))))
def z1A:List D->Ow->R D:=(z2P 3 z1S)
theorem z4x:z13 ["_law_functions", "_law_term", "_law_thing"] ["_law_functions", "_law_term", "_law_thing"] (z0V (top 66)):=fnS rfl rfl rfl (by kernel_rfl)
theorem z4q (T:Txt K mg) (B:z2Z mg base):l0 Cl P w K mg base "_law_holds_thing" 3 3 z1A:=
 l0.self (fnX (k:=2) T.d__law_holds_thing z4x (fun _ _ _ _ _ _ us hl=>match us,hl with|[_,_,_],_=>rfl) fun f cdv A outer s H E hr=>
  ((z15 (by delta z1S;walk_at "s"))))
def z7H:DS:=
 (z1e (sIf (zbD (z2W (z37 (z5U "tuple" (z0U 0)))) (z1W (z4N true z14 (z17 z38 (z0T (z0U 0) z0X))))) (z1v (dC (.bl false))) z2j) (z1v (z17 z9L (z0T (z1i false 1 (dIt (z0U 0)) (.one 1) [] [] (dFn 1 z32 (z0T (z0U 1) z0X))) z0X))))
def z2K:List D->Ow->R D:=(z2P 1 z7H)
theorem z7g:z13 ["thing"] ["thing"] (z0V (top 18)):=fnS rfl rfl rfl (by kernel_rfl)
theorem z75 (T:Txt K mg) (B:z2Z mg base):l0 Cl P w K mg base "is_function" 4 1 z2K:=
 l0.self (fnX (k:=3) T.d_is_function z7g (fun _ _ _ _ _ _ us hl=>match us,hl with|[_],_=>rfl) fun f cdv A outer s H E hr=>
  (have x0:Nx ["answer"]:=⟨⟩;(z0W (by walk_at "s") (z15 (by walk_at "s")))))
def z1U:DS:=
 (z1v (z1i false 2 (z7l (z0T (z0U 0) z0X)) (.two 2 3) [(z37 (dFn 2 z21 (z0T (z0U 3) (z0T (z0U 1) z0X))))] [] (z0U 2)))
def z1V:List D->Ow->R D:=(z2P 2 z1U)
theorem z4t:z13 ["functions", "term"] ["functions", "term"] (z0V (top 42)):=fnS rfl rfl rfl (by kernel_rfl)
theorem z4o (T:Txt K mg) (B:z2Z mg base):l0 Cl P w K mg base "numbers_good_for" 4 2 z1V:=
 l0.self (fnX (k:=3) T.d_numbers_good_for z4t (fun _ _ _ _ _ _ us hl=>match us,hl with|[_,_],_=>rfl) fun f cdv A outer s H E hr=>
  (have x0:Nx ["number", "function"]:=⟨⟩;(z15 (by delta z1U;walk_at "s"))))
def z3e:DS:=
 (z1e (z24 1 (z4w z0X)) (z1e (z24 2 (z1i false 0 (dIt (dFn 1 z3d (z0T (dFn 1 z1j (z0T (dOp fIx (z0U 0) (dC (.int 0))) z0X)) z0X))) (.one 3) [] [] (z3T (z0T (z0U 3) (z0T (dFn 2 z1u (z0T (z0U 0) (z0T (z0U 3) z0X))) z0X))))) (z1e (z7h (dIt (z0U 2)) (.two 3 4) (z1e (z24 5 (z4w z0X)) (z1e (z7h (dIt (z0U 2)) (.two 6 7) (sIf (z4s (z1W (dOp (fPy neF) (z0U 6) (z0U 3))) (z4s (z37 (dFn 2 z1J (z0T (z0U 3) (z0T (z0U 6) z0X)))) (z1W (dOp (fPy eqF) (z1i false 1 (dIt (z0U 4)) (.one 8) [(z1W (dOp zbY (z0U 8) (z0U 7)))] [] (z0U 8)) (z2J z0X))))) (z35 (zbN (z0U 5) (z0T (z0U 6) z0X))) z2j)) (sIf (z4s (z1W (dOp (fPy neF) (z0U 4) (z2J z0X))) (z1W (dOp (fPy eqF) (z0U 5) (z2J z0X)))) (z35 (zbN (z0U 1) (z0T (z0U 3) z0X))) z2j)))) (z1v (z0U 1)))))
def z1E:List D->Ow->R D:=(z2P 8 z3e)
theorem z8d:z13 ["_law_functions", "_law_found", "_law_some", "_law_term", "_law_own", "_law_wider", "_law_other", "_law_more"] ["_law_functions"] (z0V (top 61)):=fnS rfl rfl rfl (by kernel_rfl)
theorem z7I (T:Txt K mg) (B:z2Z mg base):l0 Cl P w K mg base "_law_broad" 4 1 z1E:=
 l0.self (fnX (k:=3) T.d__law_broad z8d (fun _ _ _ _ _ _ us hl=>match us,hl with|[_],_=>rfl) fun f cdv A outer s H E hr=>
  (have x0:Nx []:=⟨⟩;have x1:Nx ["_law_k"]:=⟨⟩;(z0W (by walk_at "s") (z0W (by walk_at "s") (z0W (by walk_at "s") (z15 (by walk_at "s")))))))
def z1I:DS:=
 (z1e (sIf (z2W (z37 (dFn 2 z1m (z0T (dFn 1 z1j (z0T (dOp fIx (z0U 0) (dC (.int 0))) z0X)) (z0T (z0U 1) z0X))))) (z1v (dC (.bl false))) z2j) (z1e (sIf (z1W (dOp (fPy neF) (z1i false 1 (dIt (z0U 1)) (.one 3) [(z1W (dOp (fPy eqF) (dFn 2 z1u (z0T (z0U 0) (z0T (z0U 3) z0X))) (z2J z0X)))] [] (z0U 3)) (z2J z0X))) (z1v (dC (.bl false))) z2j) (z1e (z7h (dIt (dFn 1 z2n (z0T (z0U 0) z0X))) (.one 2) (sIf (z1W (dOp (fPy eqF) (z1i false 1 (dIt (z0U 1)) (.one 3) [(z37 (dFn 3 z1A (z0T (z0U 0) (z0T (z0U 3) (z0T (z0U 2) z0X)))))] [] (z0U 3)) (z2J z0X))) (z1v (dC (.bl false))) z2j)) (z1v (dC (.bl true))))))
def z1c:List D->Ow->R D:=(z2P 3 z1I)
theorem z5m:z13 ["_law_functions", "_law_thing", "_law_one"] ["_law_functions", "_law_thing"] (z0V (top 67)):=fnS rfl rfl rfl (by kernel_rfl)
theorem z5e (T:Txt K mg) (B:z2Z mg base):l0 Cl P w K mg base "_law_is_shared" 4 2 z1c:=
 l0.self (fnX (k:=3) T.d__law_is_shared z5m (fun _ _ _ _ _ _ us hl=>match us,hl with|[_,_],_=>rfl) fun f cdv A outer s H E hr=>
  (have x0:Nx ["_law_term"]:=⟨⟩;(z0W (by walk_at "s") (z0W (by walk_at "s") (z0W (by walk_at "s") (z15 (by walk_at "s")))))))
def z3g:DS:=
 (z1e (sIf (zbD (z2W (z37 (z5U "tuple" (z0U 0)))) (z1W (dOp zbY (z17 z38 (z0T (z0U 0) z0X)) (z3T (z0T (dC (.int 2)) (z0T (dC (.int 3)) z0X)))))) (z1v (dC (.bl false))) z2j) (z1e (sIf (z2W (z37 (z17 z9L (z0T (z1i false 1 (dIt (z0U 0)) (.one 2) [] [] (dFn 1 z2K (z0T (z0U 2) z0X))) z0X)))) (z1v (dC (.bl false))) z2j) (z1e (z24 1 (dFn 1 z23 (z0T (dOp fIx (z0U 0) (dC (.int 0))) z0X))) (z1v (zdx (dOp fLe (z0U 1) (dC (.int 3))) (z17 z9L (z0T (z1i false 1 (dIt (z0U 0)) (.one 2) [] [] (dOp (fPy eqF) (dFn 1 z23 (z0T (z0U 2) z0X)) (z0U 1))) z0X)))))))
def z2B:List D->Ow->R D:=(z2P 2 z3g)
theorem z6A:z13 ["thing", "n"] ["thing"] (z0V (top 39)):=fnS rfl rfl rfl (by kernel_rfl)
theorem z6z (T:Txt K mg) (B:z2Z mg base):l0 Cl P w K mg base "are_together" 5 1 z2B:=
 l0.self (fnX (k:=4) T.d_are_together z6A (fun _ _ _ _ _ _ us hl=>match us,hl with|[_],_=>rfl) fun f cdv A outer s H E hr=>
  (have x0:Nx ["function"]:=⟨⟩;(z0W (by walk_at "s") (z0W (by walk_at "s") (z0W (by walk_at "s") (z15 (by walk_at "s")))))))
def z4V:DS:=
 (z1v (z1i false 2 (dIt (dFn 2 z1V (z0T (z0U 0) (z0T (z0U 1) z0X)))) (.one 2) [] (⟨(dIt (dFn 1 z2e (z0T (z0U 1) z0X))),(.one 3),[]⟩ :: []) (z3T (z0T (z0U 2) (z0T (z0U 3) z0X)))))
def z3s:List D->Ow->R D:=(z2P 2 z4V)
theorem zby:z13 ["functions", "term"] ["functions", "term"] (z0V (top 43)):=fnS rfl rfl rfl (by kernel_rfl)
theorem zbJ (T:Txt K mg) (B:z2Z mg base):l0 Cl P w K mg base "held_by" 5 2 z3s:=
 l0.self (fnX (k:=4) T.d_held_by zby (fun _ _ _ _ _ _ us hl=>match us,hl with|[_,_],_=>rfl) fun f cdv A outer s H E hr=>
  (have x0:Nx ["number", "point"]:=⟨⟩;(z15 (by delta z4V;walk_at "s"))))
def z1R:DS:=
 (z1e (z24 2 (dFn 1 z1E (z0T (z0U 1) z0X))) (z1e (z24 3 (z4w z0X)) (z1e (z24 4 (dC (.bl true))) (z1e (zdY 100 (z4s (z1W (dOp (fPy neF) (z0U 2) (z2J z0X))) (z37 (z0U 4))) (z1e (sIf (z37 (dFn 2 z1c (z0T (z0U 1) (z0T (z17 z3R (z0T (z17 za7 (z0T (z0U 3) z0X)) z0X)) z0X)))) (z24 4 (dOp (fPy eqF) (dFn 2 z11 (z0T (z0U 0) (z0T (dC (.int 4)) z0X))) (dC (.int 0)))) z2j) (sIf (z37 (z0U 4)) (z35 (zbN (z0U 3) (z0T (z8I (z0U 2) (z0T (dFn 2 z11 (z0T (z0U 0) (z0T (z17 z38 (z0T (z0U 2) z0X)) z0X))) z0X)) z0X))) z2j))) (z1v (z17 z3R (z0T (z17 za7 (z0T (z0U 3) z0X)) z0X)))))))
def z1y:List D->Ow->R D:=ziQ (z2P 5 z1R)
theorem z4y:z13 ["_law_state_here", "_law_functions", "_law_left", "_law_found", "_law_more"] ["_law_state_here", "_law_functions"] (z0V (top 68)):=fnS rfl rfl rfl (by kernel_rfl)
theorem z4n (T:Txt K mg) (B:z2Z mg base):l0 Cl P w K mg base "_law_some_shared" 5 2 z1y:=
 l0.frz (fnX (k:=4) T.d__law_some_shared z4y (fun _ _ _ _ _ _ us hl=>match us,hl with|[_,_],_=>rfl) fun f cdv A outer s H E hr=>
  ((z0W (by walk_at "s") (z0W (by walk_at "s") (z0W (by walk_at "s") (z0W (by walk_at "s") (z15 (by walk_at "s"))))))))
def z2p:DS:=
 (sIf (z2W (z37 (dFn 1 z2B (z0T (z0U 0) z0X)))) (zaR 0 (z0T (dC (.str [102,117,110,99,116,105,111,110,115,32,116,111,103,101,116,104,101,114,32,97,114,101,32,97,32,116,117,112,108,101,32,111,102,32,116,119,111,32,111,114,32,116,104,114,101,101,32,102,117,110,99,116,105,111,110,115,32,111,102,32,111,110,101,32,116,111,32,116,104,114,101,101,32,115,119,105,116,99,104,101,115,44,32,111,102,32,111,110,101,32,110])) z0X)) z2j)
def z20:List D->Ow->R D:=(z2P 1 z2p)
theorem z5L:z13 ["thing"] ["thing"] (z0V (top 40)):=fnS rfl rfl rfl (by kernel_rfl)
theorem z5S (T:Txt K mg) (B:z2Z mg base):l0 Cl P w K mg base "need_together" 6 1 z20:=
 l0.self (fnX (k:=5) T.d_need_together z5L (fun _ _ _ _ _ _ us hl=>match us,hl with|[_],_=>rfl) fun f cdv A outer s H E hr=>
  ((z15 (by delta z2p;walk_at "s"))))
def z2U:DS:=
 (z1e (z35 (dFn 1 z20 (z0T (z0U 0) z0X))) (z1e (sIf (z2W (z37 (dFn 2 z1k (z0T (dFn 1 z23 (z0T (dOp fIx (z0U 0) (dC (.int 0))) z0X)) (z0T (z0U 1) z0X))))) (z1v (dC (.bl false))) z2j) (z1e (z24 2 (z1i false 1 (dIt (z0U 1)) (.one 3) [] [] (dFn 2 z3s (z0T (z0U 0) (z0T (z0U 3) z0X))))) (z1e (sIf (z1W (dOp fIn (z2J z0X) (z0U 2))) (z1v (dC (.bl false))) z2j) (z1v (z17 z9L (z0T (z1i false 1 (dIt (dFn 1 z2V (z0T (z0U 0) z0X))) (.one 3) [] [] (z17 zju (z0T (z1i false 1 (dIt (z0U 2)) (.one 4) [] [] (dOp fIn (z0U 3) (z0U 4))) z0X))) z0X)))))))
def z1B:List D->Ow->R D:=(z2P 3 z2U)
theorem z9H:z13 ["functions", "thing", "held"] ["functions", "thing"] (z0V (top 44)):=fnS rfl rfl rfl (by kernel_rfl)
theorem z9v (T:Txt K mg) (B:z2Z mg base):l0 Cl P w K mg base "is_shared" 7 2 z1B:=
 l0.self (fnX (k:=6) T.d_is_shared z9H (fun _ _ _ _ _ _ us hl=>match us,hl with|[_,_],_=>rfl) fun f cdv A outer s H E hr=>
  (have x0:Nx ["term"]:=⟨⟩;have x1:Nx ["some"]:=⟨⟩;have x2:Nx ["wanted"]:=⟨⟩;(z0W (by walk_at "s") (z0W (by walk_at "s") (z0W (by walk_at "s") (z0W (by walk_at "s") (z15 (by walk_at "s"))))))))
def z7V:DS:=
 (z1e (z35 (dFn 1 z20 (z0T (z0U 0) z0X))) ziV)
def z26:List D->Ow->R D:=(z2P 1 z7V)
theorem z7i:z13 ["functions"] ["functions"] (z0V (top 46)):=fnS rfl rfl rfl (by kernel_rfl)
theorem z7e (T:Txt K mg) (B:z2Z mg base):l0 Cl P w K mg base "broad_terms" 7 1 z26:=
 l0.self (fnX (k:=6) T.d_broad_terms z7i (fun _ _ _ _ _ _ us hl=>match us,hl with|[_],_=>rfl) fun f cdv A outer s H E hr=>
  ((z0W (by walk_at "s") z69)))
def z4L:DS:=
 (z1v (z98 1 (dIt (dFn 1 z26 (z0T (z0U 0) z0X))) (.one 1) [] [] (z0U 1) (dFn 2 z3s (z0T (z0U 0) (z0T (z0U 1) z0X)))))
def z3J:List D->Ow->R D:=(z2P 1 z4L)
theorem z7f:z13 ["functions"] ["functions"] (z0V (top 47)):=fnS rfl rfl rfl (by kernel_rfl)
theorem z7a (T:Txt K mg) (B:z2Z mg base):l0 Cl P w K mg base "held_things" 8 1 z3J:=
 l0.self (fnX (k:=7) T.d_held_things z7f (fun _ _ _ _ _ _ us hl=>match us,hl with|[_],_=>rfl) fun f cdv A outer s H E hr=>
  (have x0:Nx ["term"]:=⟨⟩;(z15 (by delta z4L;walk_at "s"))))
def z4l:DS:=
 (z1v (dOp fIx (dFn 2 z3h (z0T (dFn 1 z3J (z0T (z0U 0) z0X)) (z0T (dFn 1 z2V (z0T (z0U 0) z0X)) z0X))) (dC (.int 0))))
def z2a:List D->Ow->R D:=(z2P 1 z4l)
theorem z6l:z13 ["functions"] ["functions"] (z0V (top 48)):=fnS rfl rfl rfl (by kernel_rfl)
theorem z6m (T:Txt K mg) (B:z2Z mg base):l0 Cl P w K mg base "least_shared" 9 1 z2a:=
 l0.self (fnX (k:=8) T.d_least_shared z6l (fun _ _ _ _ _ _ us hl=>match us,hl with|[_],_=>rfl) fun f cdv A outer s H E hr=>
  ((z15 (by delta z4l;walk_at "s"))))
def zjt (Pt:Nat):DS:=
 (z1e (z7h (z31 (z0T (z17 zbw (z0T (dC (.int 1)) (z0T (z17 zbC (z0T (z17 z38 (z0T (z0U 0) z0X)) (z0T (dC (.int 6)) z0X))) z0X))) z0X)) (.one 1) (z1e (z24 2 (dFn 2 z2E (z0T (z0U 0) (z0T (z0U 1) z0X)))) (z1e (z24 3 (dFn 1 z1Z (z0T (z0U 2) z0X))) (z1e (z24 4 (dFn 1 z1j (z0T (dOp fIx (z0U 3) (dC (.int 0))) z0X))) (z1e (z24 5 (dFn 2 z1y (z0T (z0U 2) (z0T (z0U 3) z0X)))) (z1e (z24 6 (z2J (z0T (z0U 5) (z0T (z3T z0X) (z0T (z3T (z0T (dOp z94 (dC (.str [45])) (z0U 4)) z0X)) (z0T (z17 z3R (z0T (dFn 1 z1E (z0T (z0U 3) z0X)) z0X)) z0X)))))) (z1e (z7h (dIt (dOp z4i (z0U 6) (z1i false 1 (z31 (z0T (dC (.int 6)) z0X)) (.one 11) [] [] (dFn 3 z1x (z0T (z0U 2) (z0T (z0U 5) (z0T (z0U 4) z0X))))))) (.one 7) (sIf (z2W (z37 (dFn 2 z30 (z0T (dFn 2 z1B (z0T (z0U 3) (z0T (z0U 7) z0X))) (z0T (dFn 2 z1c (z0T (z0U 3) (z0T (z0U 7) z0X))) z0X))))) (z1v (dC (.bl false))) z2j)) (z1e (z24 8 (dFn 1 z1o (z0T (z0U 2) z0X))) (z6C Pt 10 9 (z9K Ca 4 1 z4j) [(dFn 2 z1B (z0T (z0U 8) (z0T (z3T z0X) z0X))),(dFn 1 z26 (z0T (z0U 8) z0X)),(dFn 1 z2a (z0T (z0U 8) z0X))] (dOp (z8S false) (z2J (z0T (z2J (z0T (dC (.int 0)) z0X)) z0X)) (dC (.int 3))) (z1v (dC (.bl false))) z2j))))))))) (z1v (dC (.bl true))))
def F_law (Pt:Nat):List D->Ow->R D:=zlc 11 10 Pt (zjt Pt)
theorem zks:z13 ["_law_script", "_law_k", "_law_state_here", "_law_functions", "_law_n", "_law_form", "_law_some", "_law_thing", "_law_bad", "_law_calls", "<tab>"] ["_law_script"] (z0V (top 73)):=fnS rfl rfl rfl (by kernel_rfl)
theorem zkR {f c Pt:af} {fd:cX} (hF:L2.Fun K "law" "law" (top 73) f fd) (hc:fd.code=.ref c) (T:Txt K mg) (B:z2Z mg base) (L:z78 mg base c Pt):mq P w K mg base (CXr P w Cl) 12 f fd ["_law_script"] (zgo K (Xk Cl) 1 Pt (F_law Pt)):=
 fnT (k:=11) (i:=10) (z := "<tab>") hF hc zks rfl (zmU (by kernel_rfl)) fun A outer s H E hr=>
  (have x0:Nx ["_law_turn"]:=⟨⟩;(by unfold zjt;walk_at "ss"))
theorem zk9 {f c Pt:af} {fd:cX} (hF:L2.Fun K "law" "law" (top 73) f fd) (hc:fd.code=.ref c) (T:Txt K mg) (B:z2Z mg base) (L:z78 mg base c Pt):mq P w K mg base (CXr P w Cl) 12 f fd ["_law_script"] (zgo K (Xk Cl) 1 Pt (F_law Pt)):=
 zkR hF hc T B L
end
theorem fa_mk {K:aj} {h:aP} {mg:Str->Option ae} (X:K.In h) (G:h.Ns bz mg) {n:Str} {st:cu} {f:af} {od an:Option af} {sl:Array (Option ae)} {oc kV dc pm ct cd:ae} (a:fP K bz n=some (some (.ref f)))
  (l:K.lookup f=some ⟨oc,od,.func (bA n n (z2I st) (z1O st) (z0V st) .none kV dc pm an cd ct),sl⟩) (q:dk K cd n=true) (k:cC K (.ref f)=true):z1n K mg n st:=⟨f,_,cg X G a,zgn l q k⟩
theorem gs_mk {K:aj} {h:aP} {mg:Str->Option ae} (X:K.In h) (G:h.Ns bz mg) {n:Str} {cs:List Nat} {t:Tok} (s:fP K bz n=some (some (.str ⟨cs.toArray⟩ t))):zlo mg n cs:=⟨_,cg X G s⟩
theorem gi_mk {K:aj} {h:aP} {mg:Str->Option ae} (X:K.In h) (G:h.Ns bz mg) {n:Str} {i:Int} {t:Tok} (s:fP K bz n=some (some (.int i t))):zm8 mg n i:=⟨_,cg X G s⟩
theorem gt_mk {K:aj} {h:aP} {mg:Str->Option ae} (X:K.In h) (G:h.Ns bz mg) {n:Str} {tb:List (Int × Int)} {e:af} {o:Obj} (d:fP K bz n=some (some (.ref e))) (u:K.lookup e=some o) (v:zlj o tb=true) (y:(e == sysModules)=false):zhF K mg n tb:=⟨_,_,cg X G d,u,v,y⟩
theorem all_mk {P:aJ} {w:aR} {K:aj} {h:aP} {mg:Str->Option ae} {fa:af} (X:K.In h) (G:h.Ns bz mg) (hfa:mg "law" = some (.ref fa)) (T:Txt K mg)
  {f:af} {od an:Option af} {sl:Array (Option ae)} {oc kV dc pm ct:ae} {cd:af} (a:fP K bz "law" = some (some (.ref f)))
  (l:K.lookup f=some ⟨oc,od,.func (bA "law" "law" (z2I (top 73)) (z1O (top 73)) (z0V (top 73)) .none kV dc pm an (.ref cd) ct),sl⟩) (q:dk K (.ref cd) "law" = true) (k:cC K (.ref f)=true)
  (z0S:j7 K 37 zla "ValueError.__new__" = true)
  {Pt:af} {oc_t:ae} {od_t:Option af} {sl_t:Array (Option ae)} {vs_t:Array ae} (h4:K.lookup cd=some ⟨oc_t,od_t,.fields vs_t,sl_t⟩) (h5:vs_t[11]?=some (.ref Pt)) (hnt:hJ K=true)
  : hJ K=true/\∃ (c Pt:af),iD K "law" = some (c,Pt)/\∃ fd:cX,(∀ (s:ai) (u:ae),gx s fd ⟨[u],[]⟩ [("_law_script",u)])/\∀ base:aP,K.In base->base.Ns bz mg->z78 mg base c Pt->mq P w K mg base (CXr P w Cl) 12 fa fd ["_law_script"] (zgo K (Xk Cl) 1 Pt (F_law Pt)):=by
 have hF:L2.Fun K "law" "law" (top 73) f (bA "law" "law" (z2I (top 73)) (z1O (top 73)) (z0V (top 73)) .none kV dc pm an (.ref cd) ct):=zgn l q k
 have e:=hfa.symm.trans (cg X G a)
 cases e
 exact ⟨hnt,cd,Pt,zkZ a l h4 h5,_,fun s u=>.of_eq rfl,fun base kb nb L=>zk9 hF rfl T ⟨zhf kb T.z03 z0S⟩ L⟩
end K60
-- DEPTH 12
namespace K60
open PySem DL
def zjS:D->Bool
 | .own _=>false
 | .lst _=>false
 | .tup _=>false
 | .map _ _=>false
 | _=>true
def z4g (n:Nat):D->Bool
 | .own k=>decide (k < n)
 | .lst _=>false
 | .tup ds=>ds.all zjS
 | .map _ _=>false
 | _=>true
def z4z (O:Ow):Prop:=∀ c ∈ O,∀ d ∈ c,z4g O.length d=true
theorem zm6 (h:zjS d=true):frz O n f d=some d:=by
 cases d with
 | own k=>cases h
 | lst ds=>cases h
 | tup ds=>cases h
 | map ks ds=>cases h
 | _=>cases f <;> rfl
theorem z3I (h:z4g n d=true):frz O n (f + 1) d=some d:=by
 cases d with
 | own k=>
  have h:k < n:=by simpa [z4g] using h
  unfold frz;dsimp only;rw [if_pos h]
 | lst ds=>cases h
 | tup ds=>
  show (z1Q (frz O n f) ds).map D.tup=_
  rw [z2w fun d hd=>zm6 (aG.mp h d hd)];rfl
 | map ks ds=>cases h
 | _=>rfl
theorem z6B (hO:∀ c ∈ O',∀ d ∈ c,z4g O'.length d=true) (X:Ow) (h:frz (O' ++ X) O'.length 8 d=some (.lst cs)):zb7 O'.length (.ok d (O' ++ X))=.ok (.lst cs) O':=by
 unfold zb7
 dsimp only
 rw [h]
 have:(O' ++ X).take O'.length=O':=by simp
 rw [this,z2w fun c hc=>z2w fun d hd=>z3I (hO c hc d hd)]
theorem zbH (h:a <= b) (hd:z4g a d=true):z4g b d=true:=by
 cases d with
 | own k=>simp [z4g] at hd ⊢;omega
 | _=>exact hd
theorem z7Y (h:z4z O) (hX:∀ c ∈ X,∀ d ∈ c,z4g (O.length + X.length) d=true):z4z (O ++ X):=by
 intro c hc d hd
 rw [aE]
 rcases bg.mp hc with hc|hc
 ·exact zbH (fu _ _) (h c hc d hd)
 ·exact hX c hc d hd
theorem zb0 (h:z4z O) (hc:∀ d ∈ c,z4g (O.length + 1) d=true):z4z (O ++ [c]):=z7Y h fun x hx d hd=>by
 have:x=c:=by simpa using hx
 subst this;exact hc d hd
def z16:Nat->List (List Nat)
 | 0=>[[]]
 | n + 1=>(z16 n).flatMap fun t=>[t ++ [45],t ++ [48],t ++ [49]]
def zjl:Nat->List Nat
 | 45=>[0,1]
 | 49=>[1]
 | _=>[0]
def pts (cs:List Nat):List Nat:=cs.foldl (fun ps c=>ps.flatMap fun p=>(zjl c).map (2 * p + ·)) [0]
def z29 (l:List Nat):List D:=l.map fun (p:Nat)=>D.int (p:Int)
def mx:List (List Nat):=z16 1 ++ z16 2 ++ z16 3 ++ z16 4
theorem ziD (O:Ow):(mx.map fun cs=>z2e [.str cs] O)=mx.map fun cs=>R.ok (.lst (z29 (pts cs))) O:=by kernel_rfl
def mK:List (List Nat × Nat):=mx.flatMap fun cs=>(aU (2 ^ cs.length)).map fun p=>(cs,p)
def sgn (c:Nat):Bool:=c == 45 || c == 48 || c == 49
def bit (c:Nat):Bool:=c == 48 || c == 49
theorem zfD (h:cs ∈ mx) (hp:p < 2 ^ cs.length):(cs,p) ∈ mK:=by
 unfold mK
 rw [eM]
 exact ⟨cs,h,aO.mpr ⟨p,bv.mpr hp,rfl⟩⟩
theorem z5G (h:cs ∈ mx) (O:Ow):z2e [.str cs] O=.ok (.lst (z29 (pts cs))) O:=cS.mp (ziD O) cs h
def Ans (d:D):Prop:=d=.int 0 \/ d=.int 1 \/ d=.non
def isZ:D->Bool
 | .int i=>i == 0
 | _=>false
structure Fn (n:Nat) (f:List D):Prop where
 n1:1 <= n
 n4:n <= 4
 len:f.length=2 ^ n
 ans:∀ d ∈ f,Ans d
def z8n (f:List D) (cs:List Nat):Bool:=(pts cs).all fun p=>!isZ (f.getD p .non)
theorem ne0 (O:Ow) (h:Ans d):fPy neF O d (.int 0)=.ok (.bl (!isZ d)) O:=by rcases h with rfl|rfl|rfl <;> kernel_rfl
theorem eq0 (O:Ow) (h:Ans d):fPy eqF O d (.int 0)=.ok (.bl (isZ d)) O:=by rcases h with rfl|rfl|rfl <;> kernel_rfl
theorem zhW (h1:1 <= n) (h4:n <= 4):n=1 \/ n=2 \/ n=3 \/ n=4:=by omega
theorem z2O (h1:1 <= n) (h4:n <= 4) (h:cs ∈ z16 n):cs ∈ mx:=by
 unfold mx
 rcases zhW h1 h4 with rfl|rfl|rfl|rfl <;> simp [h]
theorem z83:([1,2,3,4].all fun n=>(z16 n).all fun cs=>cs.length == n)=true:=by decide +kernel
theorem z1X (h1:1 <= n) (h4:n <= 4) (h:cs ∈ z16 n):cs.length=n:=by
 have:=aG.mp z83 n (by rcases zhW h1 h4 with rfl|rfl|rfl|rfl <;> simp)
 simpa using aG.mp this cs h
theorem zbu:(mx.all fun cs=>(pts cs).all fun p=>decide (p < 2 ^ cs.length))=true:=by decide +kernel
theorem zg4 (h:cs ∈ mx) (hp:p ∈ pts cs):p < 2 ^ cs.length:=by
 have:=aG.mp zbu cs h
 simpa using aG.mp this p hp
theorem zab:(mx.all fun cs=>decide ((pts cs).length <= 16))=true:=by decide +kernel
theorem zcJ (h:cs ∈ mx):(pts cs).length <= 16:=by simpa using aG.mp zab cs h
theorem zdF:∀ l:List Bool,bls (l.map D.bl)=some l
 | []=>rfl
 | b :: l=>by
  show (bls (l.map D.bl)).map (b :: ·)=_
  rw [zdF l];rfl
theorem zbl (O:Ow) (l:List Bool):z9L O [.lst (l.map D.bl)]=.ok (.bl (l.all id)) O:=by
 show (match bls (l.map D.bl) with|some bs=>R.ok (D.bl (bs.all id)) O|none=>R.bad)=_
 rw [zdF]
theorem z41 {f:List D} {p:Nat} (h:p < f.length):f.getD p .non=f[p]:=by
 rw [aS,aw h];rfl
theorem z4v {α:Type} (l:List α):l.filter (fun _=>true)=l:=by simp
theorem zfk {n:Nat} {f:List D} (hf:Fn n f) {cs:List Nat} (h:cs ∈ z16 n) (O:Ow):z21 [.tup f,.str cs] O=.ok (.bl (z8n f cs)) O:=by
 have hA:=z2O hf.n1 hf.n4 h
 have hl:=z1X hf.n1 hf.n4 h
 have hit:dIt (dFn 1 z2e (z0T (z0U 1) z0X)) [some (.tup f),some (.str cs)] O=.ok (.val (z29 (pts cs))) O:=z2T ((z6y (z10 rfl) rfl).trans (z5G hA O))
 have hc:=z9i (ext:=1) (i:=2) (ts:=[]) (te:=dOp (fPy neF) (dOp fIx (z0U 0) (z0U 2)) (dC (.int 0))) (p:=fun _=>true) (e:=fun d=>.bl (match d with|.int i=>!isZ (f.getD i.toNat .non)|_=>false)) hit (by unfold z29;have:=zcJ hA;simp;omega) (fun d hd=>rfl) (fun d hd _=>by
  obtain ⟨q,hq,rfl⟩:=aO.mp hd
  have hlt:q < f.length:=by rw [hf.len,<- hl];exact zg4 hA hq
  refine (z1g ((z1g rfl rfl).trans (z5g (i:=q) hlt)) rfl).trans ((ne0 O (hf.ans _ (bG hlt))).trans ?_)
  have:((q:Int)).toNat=q:=by omega
  show _=R.ok (D.bl (!isZ (f.getD ((q:Int)).toNat .non))) O
  rw [this,z41 hlt]) false
 have e2:(((z29 (pts cs)).filter fun _=>true).map fun d=>D.bl (match d with|.int i=>!isZ (f.getD i.toNat .non)|_=>false))=((pts cs).map fun p=>!isZ (f.getD p .non)).map D.bl:=by
  rw [z4v]
  unfold z29
  rw [bK,bK]
  exact dI fun q _=>by
   show D.bl (!isZ (f.getD ((q:Int)).toNat .non))=D.bl (!isZ (f.getD q .non))
   have:((q:Int)).toNat=q:=by omega
   rw [this]
 rw [e2] at hc
 show fin (z1v _ [some (.tup f),some (.str cs)] O)=_
 rw [z1h ((z2c (z10 hc)).trans (zbl O _))]
 show R.ok (D.bl _) O=_
 unfold z8n
 congr 2
 rw [kI];rfl
theorem zd1 (O:Ow) (h:Ans d):z32 [d] O=.ok (.bl true) O:=by rcases h with rfl|rfl|rfl <;> kernel_rfl
theorem z3z (h4:n <= 4):2 ^ n <= 16:=bb (Nat.pow_le_pow_right (by decide) h4) (by decide)
theorem z4W (O:Ow) (f:List D):z38 O [.tup f]=.ok (.int f.length) O:=rfl
theorem z7c (hf:Fn n f) (O:Ow):z2K [.tup f] O=.ok (.bl true) O:=by
 have hc:=z9i (ext:=1) (i:=1) (ts:=[]) (te:=dFn 1 z32 (z0T (z0U 1) z0X)) (it0:=dIt (z0U 0)) (σ:=[some (.tup f)]) (O:=O) (ds:=f) (p:=fun _=>true) (e:=fun _=>.bl true) rfl (by have:=z3z hf.n4;have:=hf.len;omega) (fun d hd=>rfl) (fun d hd _=>(z6y (z10 rfl) rfl).trans (zd1 O (hf.ans d hd))) false
 have e2:(f.filter fun _=>true).map (fun _=>D.bl true)=(f.map fun _=>true).map D.bl:=by rw [z4v,bK];rfl
 rw [e2] at hc
 have hif:sIf (zbD (z2W (z37 (z5U "tuple" (z0U 0)))) (z1W (z4N true z14 (z17 z38 (z0T (z0U 0) z0X))))) (z1v (dC (.bl false))) z2j [some (.tup f)] O=.nx [some (.tup f)] O:=by
  have:zbD (z2W (z37 (z5U "tuple" (z0U 0)))) (z1W (z4N true z14 (z17 z38 (z0T (z0U 0) z0X)))) [some (.tup f)] O=.ok false O:=by
   show (z1W (z4N true z14 (z17 z38 (z0T (z0U 0) z0X))) [some (.tup f)] O)=_
   refine z1s ?_
   show R.ok (D.bl (if true=true then !(z3L z14 (f.length:Nat)).isSome else _)) O=_
   rw [hf.len]
   rcases zhW hf.n1 hf.n4 with rfl|rfl|rfl|rfl <;> rfl
  rw [z2b this];rfl
 show fin (z1e _ _ [some (.tup f)] O)=_
 rw [z1D hif,z1h ((z2c (z10 hc)).trans (zbl O _))]
 show R.ok (D.bl _) O=_
 congr 2
 rw [kI]
 exact aG.mpr fun _ _=>rfl
theorem z3E (hf:Fn n f) (O:Ow):z23 [.tup f] O=.ok (.int n) O:=by
 show fin (z1v (zjF z14 (z17 z38 (z0T (z0U 0) z0X))) [some (.tup f)] O)=_
 have:zjF z14 (z17 z38 (z0T (z0U 0) z0X)) [some (.tup f)] O=.ok (.int n) O:=by
  show (match z3L z14 (f.length:Nat) with|some v=>R.ok (D.int v) O|none=>R.bad)=_
  rw [hf.len]
  rcases zhW hf.n1 hf.n4 with rfl|rfl|rfl|rfl <;> rfl
 rw [z1h this];rfl
theorem z2o (hf:Fn n f) (O:Ow):z1j [.tup f] O=.ok (.int n) O:=by
 show fin (z1v (zkP [(2,1),(4,2),(8,3),(16,4)] (z17 z38 (z0T (z0U 0) z0X))) [some (.tup f)] O)=_
 have:zkP [(2,1),(4,2),(8,3),(16,4)] (z17 z38 (z0T (z0U 0) z0X)) [some (.tup f)] O=.ok (.int n) O:=by
  show (match zjy [(2,1),(4,2),(8,3),(16,4)] (f.length:Nat) with|some v=>R.ok (D.int v) O|none=>R.bad)=_
  rw [hf.len]
  rcases zhW hf.n1 hf.n4 with rfl|rfl|rfl|rfl <;> rfl
 rw [z1h this];rfl
theorem z8O (h1:1 <= n) (h4:n <= 4):(z16 n).length <= 81:=by
 rcases zhW h1 h4 with rfl|rfl|rfl|rfl <;> decide
def z57:D->List Nat
 | .str cs=>cs
 | _=>[]
structure mh (O:Ow) (m:Nat) (s:Int) (b:Bool):Prop where
 at_:O[m]?=some [.int s,.bl b]
 nn:0 <= s
 lt:b=false->s < 2147483647
theorem mh.len (h:mh O m s b):m < O.length:=(ao.mp h.at_).1
theorem z67 (h:O[m]?=some [x,y]):fIx O (.own m) (.int 0)=.ok x O:=by
 show (match O[m]? with|some ds=>(match L2.atI ds 0 with|some d=>R.ok d O|none=>R.bad)|none=>_)=_
 rw [h];rfl
theorem zbb (h:O[m]?=some [x,y]):fIx O (.own m) (.int 1)=.ok y O:=by
 show (match O[m]? with|some ds=>(match L2.atI ds 1 with|some d=>R.ok d O|none=>R.bad)|none=>_)=_
 rw [h];rfl
theorem zac (h1:te σ O=.ok y O1) (h2:to σ O1=.ok (.own k) O2) (h3:ti σ O2=.ok (.int i) O3) (h4:O3[k]?=some ds) (h5:L2.ixN ds.length i=some j):
  zcH te to ti σ O=.nx σ (O3.set k (ds.set j y)):=by
 show ((te σ O).bnS _)=_
 rw [h1]
 show ((to σ O1).bnS _)=_
 rw [h2]
 show ((ti σ O2).bnS _)=_
 rw [h3]
 show (match O3[k]? with|some ds=>(match L2.ixN ds.length i with|some j=>RS.nx σ (O3.set k (ds.set j y))|none=>RS.bad)|none=>RS.bad)=_
 rw [h4]
 show (match L2.ixN ds.length i with|some j=>RS.nx σ (O3.set k (ds.set j y))|none=>RS.bad)=_
 rw [h5]
theorem z7x (h:0 < j):fI z7D O (.int i) (.int j)=.ok (.int (i % j)) O:=by
 show (match z7D i j with|some d=>R.ok d O|none=>R.bad)=_
 unfold z7D;rw [if_pos h]
theorem zgt (h:0 < j) (h2:j < 1073741824):fI zbZ O (.int i) (.int j)=.ok (.int (i / j)) O:=by
 show (match zbZ i j with|some d=>R.ok d O|none=>R.bad)=_
 unfold zbZ;rw [if_pos ⟨h,h2⟩]
theorem z59 (h:-1000000000000000 < i) (h2:i < 1000000000000000):fI z8q O (.int i) (.int j)=.ok (.int (i * j)) O:=by
 show (match z8q i j with|some d=>R.ok d O|none=>R.bad)=_
 unfold z8q;rw [if_pos (.inl ⟨h,h2⟩)]
theorem z4Q:z4i O (.int i) (.int j)=.ok (.int (i + j)) O:=rfl
theorem z3i (h:mh O m s b) (k1:1 <= k) (k2:k <= 1000):
  ∃ (r:Nat) (s':Int),r < k/\z11 [.own m,.int k] O=.ok (.int r) (O.set m [.int s',.bl b])/\mh (O.set m [.int s',.bl b]) m s' b:=by
 have kk:(0:Int) < (k:Int):=by omega
 have hset:∀ s',(O.set m [.int s',.bl b])[m]?=some [D.int s',D.bl b]:=fun s'=>by rw [aT h.len]
 have hres:∀ x:Int,∃ r:Nat,r < k/\x % (k:Int)=(r:Int):=fun x=>by
  have a1:=gR x (show (k:Int) ≠ 0 by omega)
  have a2:=fS x kk
  exact ⟨(x % (k:Int)).toNat,by omega,by omega⟩
 cases b with
 | true=>
  obtain ⟨r,r1,r2⟩:=hres s
  refine ⟨r,s / k,r1,?_,hset _,Int.ediv_nonneg h.nn (by omega),fun z=>by cases z⟩
  have hc:z37 (dOp fIx (z0U 0) (dC (.int 1))) [some (.own m),some (.int k),none,none] O=.ok true O:=z1w ((z1g rfl rfl).trans (zbb h.at_))
  have e1:z24 2 (dOp (fI z7D) (dOp fIx (z0U 0) (dC (.int 0))) (z0U 1)) [some (.own m),some (.int k),none,none] O=.nx [some (.own m),some (.int k),some (.int r),none] O:=by
   rw [z5c ((z1g ((z1g rfl rfl).trans (z67 h.at_)) rfl).trans (z7x kk)),r2];rfl
  have e2:zcH (dOp (fI zbZ) (dOp fIx (z0U 0) (dC (.int 0))) (z0U 1)) (z0U 0) (dC (.int 0)) [some (.own m),some (.int k),some (.int r),none] O=.nx [some (.own m),some (.int k),some (.int r),none] (O.set m [.int (s / k),.bl true]):=
   zac (ds:=[.int s,.bl true]) (j:=0) ((z1g ((z1g rfl rfl).trans (z67 h.at_)) rfl).trans (zgt kk (by omega))) rfl rfl h.at_ rfl
  show fin (z1e (sIf _ _ _) _ [some (.own m),some (.int k),none,none] O)=_
  have e3:sIf (z37 (dOp fIx (z0U 0) (dC (.int 1)))) (z1e (z24 2 (dOp (fI z7D) (dOp fIx (z0U 0) (dC (.int 0))) (z0U 1))) (z1e (zcH (dOp (fI zbZ) (dOp fIx (z0U 0) (dC (.int 0))) (z0U 1)) (z0U 0) (dC (.int 0))) (z1v (z0U 2)))) z2j [some (.own m),some (.int k),none,none] O=.rt (.int r) (O.set m [.int (s / k),.bl true]):=by
   rw [z2b hc,if_pos rfl,z1D e1,z1D e2];rfl
  rw [z5j e3];rfl
 | false=>
  have hs:=h.lt rfl
  let s1:Int:=(s * 48271 + 29) % 2147483647
  have s1n:0 <= s1:=gR _ (by decide)
  have s1l:s1 < 2147483647:=fS _ (by decide)
  let O1:=O.set m [.int s1,.bl false]
  have hO1:O1[m]?=some [D.int s1,D.bl false]:=hset s1
  let t1:Int:=(s1 * s1 + 39373 * s1 + 7) % 2147483629
  have t1n:0 <= t1:=gR _ (by decide)
  have t1l:t1 < 2147483629:=fS _ (by decide)
  let t2:Int:=(t1 * t1 + 16807 * t1) % 2147483587
  have hc:z37 (dOp fIx (z0U 0) (dC (.int 1))) [some (.own m),some (.int k),none,none] O=.ok false O:=z1w ((z1g rfl rfl).trans (zbb h.at_))
  have e0:sIf (z37 (dOp fIx (z0U 0) (dC (.int 1)))) (z1e (z24 2 (dOp (fI z7D) (dOp fIx (z0U 0) (dC (.int 0))) (z0U 1))) (z1e (zcH (dOp (fI zbZ) (dOp fIx (z0U 0) (dC (.int 0))) (z0U 1)) (z0U 0) (dC (.int 0))) (z1v (z0U 2)))) z2j [some (.own m),some (.int k),none,none] O=.nx [some (.own m),some (.int k),none,none] O:=by
   rw [z2b hc];rfl
  have e1:zcH (dOp (fI z7D) (dOp z4i (dOp (fI z8q) (dOp fIx (z0U 0) (dC (.int 0))) (dC (.int 48271))) (dC (.int 29))) (dC (.int 2147483647))) (z0U 0) (dC (.int 0)) [some (.own m),some (.int k),none,none] O=.nx [some (.own m),some (.int k),none,none] O1:=
   zac (ds:=[.int s,.bl false]) (j:=0) ((z1g ((z1g ((z1g ((z1g rfl rfl).trans (z67 h.at_)) rfl).trans (z59 (by have:=h.nn;omega) (by omega))) rfl).trans z4Q) rfl).trans (z7x (by decide))) rfl rfl h.at_ rfl
  have ix0:∀ z w,dOp fIx (z0U 0) (dC (.int 0)) [some (.own m),some (.int k),z,w] O1=.ok (.int s1) O1:=fun z w=>(z1g rfl rfl).trans (z67 hO1)
  have e2:z24 3 (dOp (fI z7D) (dOp z4i (dOp z4i (dOp (fI z8q) (dOp fIx (z0U 0) (dC (.int 0))) (dOp fIx (z0U 0) (dC (.int 0)))) (dOp (fI z8q) (dC (.int 39373)) (dOp fIx (z0U 0) (dC (.int 0))))) (dC (.int 7))) (dC (.int 2147483629))) [some (.own m),some (.int k),none,none] O1=.nx [some (.own m),some (.int k),none,some (.int t1)] O1:=
   z5c ((z1g ((z1g ((z1g ((z1g (ix0 none none) (ix0 none none)).trans (z59 (by omega) (by omega))) ((z1g rfl (ix0 none none)).trans (z59 (by decide) (by decide)))).trans z4Q) rfl).trans z4Q) rfl).trans (z7x (by decide)))
  have e3:z24 3 (dOp (fI z7D) (dOp z4i (dOp (fI z8q) (z0U 3) (z0U 3)) (dOp (fI z8q) (dC (.int 16807)) (z0U 3))) (dC (.int 2147483587))) [some (.own m),some (.int k),none,some (.int t1)] O1=.nx [some (.own m),some (.int k),none,some (.int t2)] O1:=
   z5c ((z1g ((z1g ((z1g rfl rfl).trans (z59 (by omega) (by omega))) ((z1g rfl rfl).trans (z59 (by decide) (by decide)))).trans z4Q) rfl).trans (z7x (by decide)))
  obtain ⟨r,r1,r2⟩:=hres (t2 / 8)
  refine ⟨r,s1,r1,?_,hset _,s1n,fun _=>s1l⟩
  have e4:z1v (dOp (fI z7D) (dOp (fI zbZ) (z0U 3) (dC (.int 8))) (z0U 1)) [some (.own m),some (.int k),none,some (.int t2)] O1=.rt (.int r) O1:=by
   rw [z1h ((z1g ((z1g rfl rfl).trans (zgt (by decide) (by decide))) rfl).trans (z7x kk)),r2]
  show fin (z1e _ _ [some (.own m),some (.int k),none,none] O)=_
  rw [z1D e0,z1D e1,z1D e2,z1D e3,e4];rfl
theorem zeV {ns:List Int} {k:Nat} (O:Ow):∃ s b,z2E [.lst (ns.map .int),.int k] O=.ok (.own O.length) (O ++ [[.int s,.bl b]])/\mh (O ++ [[.int s,.bl b]]) O.length s b:=by
 have hat:∀ s b,(O ++ [[D.int s,D.bl b]])[O.length]?=some [D.int s,D.bl b]:=fun s b=>by simp
 obtain ⟨c,hc⟩:∃ c:Int,z28 [.lst (ns.map .int),.int k] O=.ok (.int c) O:=by
  have ht:z1W (dOp fLt (z0U 1) (z17 z38 (z0T (z0U 0) z0X))) [some (.lst (ns.map .int)),some (.int k)] O=.ok (decide ((k:Int) < (ns.map D.int).length)) O:=z1s ((z1g rfl ((z2c (z10 rfl)).trans rfl)).trans rfl)
  by_cases hk:(k:Int) < (ns.map D.int).length
  ·have hk':k < (ns.map D.int).length:=by omega
   have hx:dOp fIx (z0U 0) (z0U 1) [some (.lst (ns.map .int)),some (.int k)] O=.ok (ns.map D.int)[k] O:=(z1g rfl rfl).trans (z6d hk')
   refine ⟨ns[k]'(by simpa using hk'),?_⟩
   show fin (z1e _ _ [some (.lst (ns.map .int)),some (.int k)] O)=_
   have e1:sIf (z1W (dOp fLt (z0U 1) (z17 z38 (z0T (z0U 0) z0X)))) (z1v (dOp fIx (z0U 0) (z0U 1))) z2j [some (.lst (ns.map .int)),some (.int k)] O=.rt (.int (ns[k]'(by simpa using hk'))) O:=by
    rw [z2b ht,if_pos (decide_eq_true hk),z1h hx];simp
   rw [z5j e1];rfl
  ·refine ⟨0,?_⟩
   show fin (z1e _ _ [some (.lst (ns.map .int)),some (.int k)] O)=_
   have e1:sIf (z1W (dOp fLt (z0U 1) (z17 z38 (z0T (z0U 0) z0X)))) (z1v (dOp fIx (z0U 0) (z0U 1))) z2j [some (.lst (ns.map .int)),some (.int k)] O=.nx [some (.lst (ns.map .int)),some (.int k)] O:=by
    rw [z2b ht,if_neg (by simpa using hk)];rfl
   rw [z1D e1];rfl
 have e0:z24 2 (dFn 2 z28 (z0T (z0U 0) (z0T (z0U 1) z0X))) [some (.lst (ns.map .int)),some (.int k),none] O=.nx [some (.lst (ns.map .int)),some (.int k),some (.int c)] O:=z5c ((z6y (z1a rfl rfl) rfl).trans hc)
 have hp:∀ σ,dOp (fI zcK) (dC (.int 10)) (dC (.int 18)) σ O=.ok (.int 1000000000000000000) O:=fun σ=>by
  refine (z1g (σ:=σ) (O:=O) rfl rfl).trans ?_
  kernel_rfl
 have ht:z1W (dOp fGe (z0U 2) (dOp (fI zcK) (dC (.int 10)) (dC (.int 18)))) [some (.lst (ns.map .int)),some (.int k),some (.int c)] O=.ok (decide ((1000000000000000000:Int) <= c)) O:=z1s ((z1g rfl (hp _)).trans rfl)
 by_cases hcc:(1000000000000000000:Int) <= c
 ·refine ⟨c - 1000000000000000000,true,?_,hat _ _,by omega,fun z=>by cases z⟩
  have e1:sIf (z1W (dOp fGe (z0U 2) (dOp (fI zcK) (dC (.int 10)) (dC (.int 18))))) (z1v (z4w (z0T (dOp (fI zfl) (z0U 2) (dOp (fI zcK) (dC (.int 10)) (dC (.int 18)))) (z0T (dC (.bl true)) z0X)))) z2j [some (.lst (ns.map .int)),some (.int k),some (.int c)] O=.rt (.own O.length) (O ++ [[.int (c - 1000000000000000000),.bl true]]):=by
   rw [z2b ht,if_pos (decide_eq_true hcc)]
   refine z1h ?_
   show ((z0T _ _ _ O).bnd _)=_
   rw [z1a ((z1g rfl (hp _)).trans rfl) rfl]
   rfl
  show fin (z1e _ _ [some (.lst (ns.map .int)),some (.int k),none] O)=_
  rw [z1D e0,z5j e1];rfl
 ·refine ⟨c % 2147483647,false,?_,hat _ _,gR _ (by decide),fun _=>fS _ (by decide)⟩
  have e1:sIf (z1W (dOp fGe (z0U 2) (dOp (fI zcK) (dC (.int 10)) (dC (.int 18))))) (z1v (z4w (z0T (dOp (fI zfl) (z0U 2) (dOp (fI zcK) (dC (.int 10)) (dC (.int 18)))) (z0T (dC (.bl true)) z0X)))) z2j [some (.lst (ns.map .int)),some (.int k),some (.int c)] O=.nx [some (.lst (ns.map .int)),some (.int k),some (.int c)] O:=by
   rw [z2b ht,if_neg (by simpa using hcc)];rfl
  show fin (z1e _ _ [some (.lst (ns.map .int)),some (.int k),none] O)=_
  rw [z1D e0,z1D e1]
  have e2:z4w (z0T (dOp (fI z7D) (z0U 2) (dC (.int 2147483647))) (z0T (dC (.bl false)) z0X)) [some (.lst (ns.map .int)),some (.int k),some (.int c)] O=.ok (.own O.length) (O ++ [[.int (c % 2147483647),.bl false]]):=by
   show ((z0T _ _ _ O).bnd _)=_
   rw [z1a ((z1g rfl rfl).trans (z7x (by decide))) rfl]
   rfl
  rw [z1h e2];rfl
theorem z8j {O:Ow} {m:Nat} {x:List D} (h:O[m]?=some x):O.set m x=O:=by
 obtain ⟨h1,rfl⟩:=ao.mp h
 exact List.set_getElem_self h1
theorem z2L (h:z4z O) (m:Nat) (s:Int) (b:Bool):z4z (O.set m [.int s,.bl b]):=by
 intro c hc d hd
 rw [bT]
 rcases List.mem_or_eq_of_mem_set hc with h1|rfl
 ·exact h c h1 d hd
 ·simp only [av,aM,or_false] at hd
  rcases hd with rfl|rfl <;> rfl
theorem z7U (hO:z4z O') (X:Ow) (h:frz (O' ++ X) O'.length 8 d=some d'):zb7 O'.length (.ok d (O' ++ X))=.ok d' O':=by
 unfold zb7
 dsimp only
 rw [h]
 have:(O' ++ X).take O'.length=O':=by simp
 rw [this,z2w fun c hc=>z2w fun d hd=>z3I (hO c hc d hd)]
theorem z54:∀ (n:Nat) (cs:List Nat),cs.length=n->(∀ c ∈ cs,sgn c=true)->cs ∈ z16 n
 | 0,cs,h,_=>by
  have:cs=[]:=de.mp h
  subst this;simp [z16]
 | n + 1,cs,h,hs=>by
  have hne:cs ≠ []:=by intro e;subst e;simp at h
  obtain ⟨t,c,rfl⟩:∃ t c,cs=t ++ [c]:=⟨_,_,(List.dropLast_concat_getLast hne).symm⟩
  have ht:=z54 n t (by simpa using h) fun c hc=>hs c (cK _ hc)
  unfold z16
  rw [eM]
  refine ⟨t,ht,?_⟩
  have hl:=hs c (by simp)
  unfold sgn at hl
  simp only [gN,beq_iff_eq] at hl
  rcases hl with (z|z)|z <;> rw [z] <;> simp
theorem zhq:∀ (cs:List Nat),1 <= cs.length->cs.length <= 4->tA σ O=.ok [.lst (cs.map fun c=>.str [c])] O'->zbA (dC (.str [])) tA σ O=.ok (.str cs) O'
 | [],h,_,_=>by simp at h
 | [a],_,_,h=>by show ((tA σ O).bnd _)=_;rw [h];rfl
 | [a,b],_,_,h=>by show ((tA σ O).bnd _)=_;rw [h];rfl
 | [a,b,c],_,_,h=>by show ((tA σ O).bnd _)=_;rw [h];rfl
 | [a,b,c,d],_,_,h=>by show ((tA σ O).bnd _)=_;rw [h];rfl
 | _ :: _ :: _ :: _ :: _ :: _,_,h,_=>by simp at h
theorem zcB:∀ (vs:List D),(∀ v ∈ vs,∃ c,v=D.str [c]/\sgn c=true)->∃ cs:List Nat,vs=cs.map (fun c=>D.str [c])/\∀ c ∈ cs,sgn c=true
 | [],_=>⟨[],rfl,by simp⟩
 | v :: vs,h=>by
  obtain ⟨c,rfl,hc⟩:=h v aH
  obtain ⟨cs,rfl,hcs⟩:=zcB vs fun w hw=>h w (au _ hw)
  exact ⟨c :: cs,rfl,fun x hx=>(av.mp hx).elim (fun e=>by rw [e];exact hc) (hcs x)⟩
theorem zkw {σ:Sg} {O:Ow} {t:DE} {n:Nat} (n4:n <= 4) (h:t σ O=.ok (.int n) O):dOp (fI ziR) (dC (.int 1)) t σ O=.ok (.int ((2 ^ n:Nat):Int)) O:=by
 refine (z1g rfl h).trans ?_
 have:n=0 \/ n=1 \/ n=2 \/ n=3 \/ n=4:=by omega
 rcases this with rfl|rfl|rfl|rfl|rfl <;> rfl
theorem z7J (h:∀ d ∈ ds,z4g n d=true):frz O n (f + 2) (.tup ds)=some (.tup ds):=by
 show (z1Q (frz O n (f + 1)) ds).map D.tup=_
 rw [z2w fun d hd=>z3I (h d hd)];rfl
theorem zaT (h:Ans d) (n:Nat):z4g n d=true:=by rcases h with rfl|rfl|rfl <;> rfl
theorem z6u (h:lsV O x=some xs):∃ src,zeB x=some src/\(∀ i,src.get O i=xs[i]?)/\src.size O=xs.length:=by
 cases x with
 | lst ds=>cases h;exact ⟨.val xs,rfl,fun _=>rfl,rfl⟩
 | own k=>
  have h:O[k]?=some xs:=h
  refine ⟨.own k,rfl,fun i=>?_,?_⟩
  ·show (match O[k]? with|some ds=>ds[i]?|none=>none)=_
   rw [h]
  ·show (match O[k]? with|some ds=>ds.length|none=>0)=_
   rw [h]
 | _=>cases h
theorem zi3 (h:lsV O x=some xs):z38 O [x]=.ok (.int xs.length) O:=by
 show (match lsV O x with|some ds=>R.ok (D.int ds.length) O|none=>_)=_
 rw [h]
structure Sq (O:Ow) (x:D) (xs:List D) (kd:String):Prop where
 zk:∃ src,zkD x=some src/\(∀ i,src.get O i=xs[i]?)/\src.size O=xs.length
 ln:z38 O [x]=.ok (.int xs.length) O
 kind:z42 x=kd
theorem za2 {α:Type} {it:DI} {g:Tg} {body:DS} {σ:Sg} {O0 O:Ow} {src:Src} {l:List α} {inj:α->D} (hi:it σ O0=.ok src O) (hsz:src.size O=l.length) (I:Nat->Sg->Ow->Prop)
  (h:∀ (k:Nat) a σ O,l[k]?=some a->I k σ O->src.get O k=some (inj a)/\∃ σ1 σ' O',g.put (inj a) σ=some σ1/\body σ1 O=.nx σ' O'/\I (k + 1) σ' O') (hend:∀ σ O,I l.length σ O->src.get O l.length=none) (h0:I 0 σ O):
  ∃ σ' O',z7h it g body σ O0=.nx σ' O'/\I l.length σ' O':=by
 have main:∀ (f i:Nat) (σ:Sg) (O:Ow),I i σ O->l.length <= i + f->i <= l.length->∃ σ' O',z3l src (fun d σ O=>match g.put d σ with|some σ'=>body σ' O|none=>.bad) f i σ O=.nx σ' O'/\I l.length σ' O':=by
  intro f
  induction f with
  | zero=>
   intro i σ O hI h1 h2
   have:i=l.length:=by omega
   subst this
   unfold z3l
   rw [hend σ O hI]
   exact ⟨σ,O,rfl,hI⟩
  | succ f ih=>
   intro i σ O hI h1 h2
   by_cases hil:i=l.length
   ·subst hil
    unfold z3l
    rw [hend σ O hI]
    exact ⟨σ,O,rfl,hI⟩
   ·have hlt:i < l.length:=by omega
    obtain ⟨e1,σ1,σ',O',e2,e3,e4⟩:=h i l[i] σ O (aw hlt) hI
    unfold z3l
    rw [e1]
    dsimp only
    rw [e2]
    dsimp only
    rw [e3]
    exact ih (i + 1) σ' O' e4 (by omega) (by omega)
 obtain ⟨σ',O',l1,l2⟩:=main (src.size O) 0 σ O h0 (by omega) (bW _)
 exact ⟨σ',O',(zaq hi).trans l1,l2⟩
theorem zaC (hi:σ[i]?=some (some (.own k))) (ht:t σ O=.ok y O1) (hy:lsV O1 y=some es) (hk:O1[k]?=some ds) (hl:ds.length + es.length <= 100000):
  z35 (zfv (z0U i) (z0T t z0X)) σ O=.nx σ (O1.set k (ds ++ es)):=by
 refine z8c (x:=.non) ?_
 unfold zfv z0U
 rw [hi]
 show ((z0T t z0X σ O).bnd _)=_
 rw [z10 ht]
 show (match [y],O1[k]? with|[y],some ds=>(match lsV O1 y with|some es=>if ds.length + es.length <= 100000 then R.ok D.non (O1.set k (ds ++ es)) else R.bad|none=>R.bad)|_,_=>R.bad)=_
 rw [hk]
 dsimp only
 rw [hy]
 dsimp only
 rw [if_pos hl]
theorem z66 (hi:σ[i]?=some (some (.own k))) (ht:t σ O=.ok y O1) (hk:O1[k]?=some ds) (hl:ds.length < 100000):
  z35 (zbN (z0U i) (z0T t z0X)) σ O=.nx σ (O1.set k (ds ++ [y])):=by
 refine z8c (x:=.non) ?_
 unfold zbN z0U
 rw [hi]
 show ((z0T t z0X σ O).bnd _)=_
 rw [z10 ht]
 show (match [y],O1[k]? with|[y],some ds=>if ds.length < 100000 then R.ok D.non (O1.set k (ds ++ [y])) else R.bad|_,_=>R.bad)=_
 rw [hk]
 dsimp only
 rw [if_pos hl]
theorem z52:(O ++ [x]).set O.length y=O ++ [y]:=by
 rw [ee _ _ (aB _),gT];rfl
theorem z2D:(O ++ [x])[O.length]?=some x:=by simp
theorem zkV (h:t σ O=.ok x O1) (hs:zeB x=some src):dIt t σ O=.ok src O1:=by
 unfold dIt
 rw [h]
 cases x with
 | lst ds=>cases hs;rfl
 | own k=>cases hs;rfl
 | _=>cases hs
theorem z88 (h:lsV O x=some xs):lsV (O ++ X) x=some xs:=by
 cases x with
 | lst ds=>exact h
 | own k=>
  have h:O[k]?=some xs:=h
  show (O ++ X)[k]?=some xs
  rw [aL (ao.mp h).1];exact h
 | _=>cases h
theorem mh.more (h:mh O m s b):mh (O ++ X) m s b:=⟨by rw [aL h.len];exact h.at_,h.nn,h.lt⟩
theorem mh.flat (h:z4z O):z4z (O ++ [[.int s,.bl b]]):=zb0 h fun d hd=>by
 simp only [av,aM,or_false] at hd
 rcases hd with rfl|rfl <;> rfl
def z7W (t:List Nat):List (List Nat):=[t ++ [45],t ++ [48],t ++ [49]]
theorem z9h {n:Nat} (h4:n <= 4) {O:Ow} (hO:z4z O):z3d [.int n] O=.ok (.lst ((z16 n).map .str)) O:=by
 have few:∀ i,i <= 4->(z16 i).length <= 81:=fun i hi=>by
  have:i=0 \/ i=1 \/ i=2 \/ i=3 \/ i=4:=by omega
  rcases this with rfl|rfl|rfl|rfl|rfl <;> decide
 have lens:∀ i,i <= 4->∀ t ∈ z16 i,t.length <= 4:=fun i hi t ht=>by
  have:i=0 \/ i=1 \/ i=2 \/ i=3 \/ i=4:=by omega
  rcases this with rfl|rfl|rfl|rfl|rfl
  ·simp [z16] at ht;simp [ht]
  ·rw [z1X (by decide) (by decide) ht];decide
  ·rw [z1X (by decide) (by decide) ht];decide
  ·rw [z1X (by decide) (by decide) ht];decide
  ·rw [z1X (by decide) (by decide) ht];decide
 let N:Option D:=some (.int n)
 let In:Ow->D->List D->Prop:=fun X d xs=>d=.lst xs \/ ∃ k,d=.own (O.length + k)/\X[k]?=some xs
 have InV:∀ {X d xs},In X d xs->lsV (O ++ X) d=some xs:=fun {X d xs} h=>by
  rcases h with rfl|⟨k,rfl,h⟩
  ·rfl
  ·show (O ++ X)[O.length + k]?=_
   rw [bp (by omega),eN];exact h
 show zb7 O.length (fin (z46 [N,none,none,none,none] O))=_
 unfold z46
 rw [z1D (σ':=[N,some (.lst [.str []]),none,none,none]) (O1:=O) (by rfl)]
 obtain ⟨σ',O',l1,d,y2,y3,y4,X,rfl,rfl,hd⟩:=z8x (i:=2) (O:=O) (l:=aU n) (body:=(z1e (z24 3 (z4w z0X)) (z1e (z7h (dIt (z0U 1)) (.one 4) (z35 (zfv (z0U 3) (z0T (z2J (z0T (dOp z4i (z0U 4) (dC (.str [45]))) (z0T (dOp z4i (z0U 4) (dC (.str [48]))) (z0T (dOp z4i (z0U 4) (dC (.str [49]))) z0X)))) z0X)))) (z24 1 (z0U 3)))))
  (z2z (σ:=[N,some (.lst [.str []]),none,none,none]) (O:=O) (z10 (t:=z0U 0) rfl) (by omega)) (fun i σ O'=>∃ d y2 y3 y4 X,σ=[N,some d,y2,y3,y4]/\O'=O ++ X/\In X d ((z16 i).map .str)) (fun i a σ O' ha hI=>by
   obtain ⟨d,y2,y3,y4,X,rfl,rfl,hd⟩:=hI
   have hin:i < n:=by
    have:=(ao.mp ha).1
    simpa using this
   have hi4:i <= 4:=by omega
   show ∃ σ' O',z1e _ _ [N,some d,some (.int a),y3,y4] (O ++ X)=_/\_
   rw [z1D (σ':=[N,some d,some (.int a),some (.own (O ++ X).length),y4]) (O1:=O ++ X ++ [[]]) (by rfl)]
   obtain ⟨src,s1,s2,s3⟩:=z6u (z88 (X:=[[]]) (InV hd))
   obtain ⟨σ',O',l1,y4',rfl,rfl⟩:=za2 (α:=List Nat) (g:=.one 4) (l:=z16 i) (inj:=.str) (body:=(z35 (zfv (z0U 3) (z0T (z2J (z0T (dOp z4i (z0U 4) (dC (.str [45]))) (z0T (dOp z4i (z0U 4) (dC (.str [48]))) (z0T (dOp z4i (z0U 4) (dC (.str [49]))) z0X)))) z0X))))
    (zkV (σ:=[N,some d,some (.int a),some (.own (O ++ X).length),y4]) (O:=O ++ X ++ [[]]) (t:=z0U 1) rfl s1) (by rw [s3];simp)
    (fun j σ O'=>∃ y4,σ=[N,some d,some (.int a),some (.own (O ++ X).length),y4]/\O'=O ++ X ++ [(((z16 i).take j).flatMap z7W).map .str]) (fun j t σ O' ht hI=>by
     obtain ⟨y4,rfl,rfl⟩:=hI
     have hj:=(ao.mp ht).1
     obtain ⟨src',s1',s2',s3'⟩:=z6u (z88 (X:=[(((z16 i).take j).flatMap z7W).map .str]) (InV hd))
     rw [s1] at s1';cases s1'
     refine ⟨by rw [s2',bc,ht];rfl,[N,some d,some (.int a),some (.own (O ++ X).length),some (.str t)],_,_,rfl,zaC (y:=.lst ((z7W t).map .str)) (ds:=(((z16 i).take j).flatMap z7W).map .str) (es:=(z7W t).map .str) rfl ?_ rfl z2D ?_,_,rfl,?_⟩
     ·have hl:=lens i hi4 t (aW ht)
      have fa:∀ c OO,z4i OO (.str t) (.str [c])=.ok (.str (t ++ [c])) OO:=fun c OO=>by
       match t,hl with
       | [],_=>rfl
       | [_],_=>rfl
       | [_,_],_=>rfl
       | [_,_,_],_=>rfl
       | [_,_,_,_],_=>rfl
      simp only [z1e,z24,sIf,z1v,z35,z2j,z0U,dC,z0T,z0X,dFn,z17,dOp,z1W,z37,z2W,zmr,R.bnd,R.bnS,fin,List.getElem?_cons_zero,List.getElem?_cons_succ,List.set_cons_zero,List.set_cons_succ,bX,fF,Nat.zero_add,Nat.reduceAdd,Nat.reduceLeDiff,Nat.reduceLT,if_true,if_false,lQ,Bool.not_false,cH,ite_true,ite_false,z2J,fa,z7W,bM,gK]
     ·have h1:=few i hi4
      have h2:∀ l:List (List Nat),(l.flatMap z7W).length=3 * l.length:=fun l=>by
       induction l with
       | nil=>rfl
       | cons x l ih=>rw [cn,aE,ih,bX];show 3 + _=_;omega
      rw [az,h2,az]
      have h3:=g7 j (z16 i)
      show 3 * ((z16 i).take j).length + 3 <= _
      omega
     ·rw [z52,<- cW]
      have:(z16 i).take (j + 1)=(z16 i).take j ++ [t]:=by
       rw [fU,ht];rfl
      rw [this,g8]
      simp) (fun σ O' hI=>by
     obtain ⟨y4,rfl,rfl⟩:=hI
     obtain ⟨src',s1',s2',s3'⟩:=z6u (z88 (X:=[(((z16 i).take (z16 i).length).flatMap z7W).map .str]) (InV hd))
     rw [s1] at s1';cases s1'
     rw [s2'];simp) ⟨y4,rfl,by simp⟩
   rw [z1D l1]
   refine ⟨_,_,rfl,.own (O ++ X).length,_,_,_,X ++ [(((z16 i).take (z16 i).length).flatMap z7W).map .str],rfl,by simp,.inr ⟨X.length,by simp,?_⟩⟩
   rw [z2D,dO];rfl) ⟨_,_,_,_,[],rfl,by simp,.inl rfl⟩
 rw [z1D l1,z1h (x:=d) rfl]
 rw [cR] at hd
 show zb7 O.length (.ok d (O ++ X))=_
 refine z6B hO X ?_
 rcases hd with rfl|⟨k,rfl,h⟩
 ·show (z1Q (frz (O ++ X) O.length 7) ((z16 n).map D.str)).map D.lst=_
  rw [z2w fun d hd=>by obtain ⟨q,_,rfl⟩:=aO.mp hd;exact z3I rfl];rfl
 ·unfold frz
  dsimp only
  rw [if_neg (by omega),bp (by omega),eN,h]
  dsimp only
  rw [z2w fun d hd=>by obtain ⟨q,_,rfl⟩:=aO.mp hd;exact z3I rfl];rfl
theorem z81 (O:Ow):(mK.map fun q=>z2h [.str q.1,.int (q.2:Nat)] O)=mK.map fun q=>R.ok (.bl ((pts q.1).contains q.2)) O:=by kernel_rfl
theorem z5C (h:cs ∈ mx) (hp:p < 2 ^ cs.length) (O:Ow):z2h [.str cs,.int (p:Nat)] O=.ok (.bl ((pts cs).contains p)) O:=cS.mp (z81 O) _ (zfD h hp)
theorem zet (h1:c σ O=.ok a O) (h2:a=true->d σ O=.ok b O):z4s c d σ O=.ok (a && b) O:=by
 show ((c σ O).bnd _)=_
 rw [h1]
 cases a with
 | true=>exact h2 rfl
 | false=>rfl
theorem z6c (hf:Fn n f) (h:cs ∈ z16 n) (O:Ow):z2R [.tup f,.str cs] O=.ok (.bl (z8n f cs)) O:=by
 have hA:=z2O hf.n1 hf.n4 h
 have hl:=z1X hf.n1 hf.n4 h
 have h16:=z3z hf.n4
 have hfl:=hf.len
 show fin (z3P [some (.tup f),some (.str cs)] O)=_
 unfold z3P
 rw [z1h ((z1g (z9W (l:=aU f.length) (p:=fun p=>isZ (f.getD p .non) && (pts cs).contains p) (e:=fun (p:Nat)=>D.int (p:Int)) (τ:=fun (p:Nat)=>[some (.tup f),some (.str cs),some (.int (p:Int))]) (z2z (z10 ((z2c (z10 (t:=z0U 0) rfl)).trans rfl)) (by omega)) (by simp;omega) (fun _=>rfl) (fun q hq=>by
   have hq:=bv.mp hq
   refine zet (z1s ((z1g ((z1g rfl rfl).trans (z5g (i:=q) hq)) rfl).trans ((eq0 O (hf.ans _ (bG hq))).trans (by rw [z41 hq])))) fun _=>z1w ((z6y (z1a rfl rfl) rfl).trans (z5C hA (by rw [hl,<- hfl];exact hq) O))) (fun _ _ _=>rfl)) rfl).trans (by
  have:=zkL O (((aU f.length).filter fun p=>isZ (f.getD p .non) && (pts cs).contains p).map fun (p:Nat)=>(p:Int))
  rw [bK] at this
  exact this))]
 show R.ok (D.bl _) O=_
 congr 2
 unfold z8n
 rw [cV,jb,List.map_eq_nil_iff,jx,aG]
 constructor
 ·intro h p hp
  have hlt:p < f.length:=by rw [hfl,<- hl];exact zg4 hA hp
  have:=h p (bv.mpr hlt)
  simp only [bh,bV,not_and] at this
  cases hz:isZ (f.getD p .non) with
  | true=>exact absurd hp (this hz)
  | false=>rfl
 ·intro h p hp hq
  simp only [bh,bV] at hq
  have:=h p hq.2
  rw [hq.1] at this
  cases this
theorem z60 (fs:List D):z5l fs=(aU fs.length).map fun k=>D.tup [.int (k:Nat),fs.getD k .non]:=by
 apply k7
 intro i
 rw [z6X,bc]
 by_cases hi:i < fs.length
 ·rw [gY hi,aw hi,eZ,eZ,z41 hi]
 ·rw [aQ.mpr (by omega),aQ.mpr (by simp;omega)];rfl
theorem z85:(mx.all fun cs=>cs.all sgn)=true:=by decide +kernel
theorem z6q (h1:1 <= n) (h4:n <= 4) (h:cs ∈ z16 n):∀ c ∈ cs,sgn c=true:=aG.mp (aG.mp z85 cs (z2O h1 h4 h))
theorem zgL (O:Ow) (l:List Nat):fPy neF O (.lst (z29 l)) (.lst [])=.ok (.bl (!l.isEmpty)) O:=
 (z7s O (b:=l.isEmpty) (zan 7 l) (y:=[]) rfl (by cases l <;> simp)).2
theorem zcd (O:Ow) (l:List Nat):fPy eqF O (.lst (z29 l)) (.lst [])=.ok (.bl l.isEmpty) O:=
 (z7s O (b:=l.isEmpty) (zan 7 l) (y:=[]) rfl (by cases l <;> simp)).1
theorem zdO:(mx.all fun cs=>cs.all fun c=>decide (c < 1114112))=true:=by decide +kernel
theorem z9V (h1:1 <= n) (h4:n <= 4) (h:cs ∈ z16 n):pl k (.str cs)=true:=by
 have:=aG.mp zdO cs (z2O h1 h4 h)
 cases k <;> exact this
theorem z4c {n k:Nat} (h1:1 <= n) (h4:n <= 4) {l:List (List Nat)} (h:∀ cs ∈ l,cs ∈ z16 n):(l.map D.str).all (pl k)=true:=aG.mpr fun d hd=>by
 obtain ⟨cs,hc,rfl⟩:=aO.mp hd
 exact z9V h1 h4 (h cs hc)
theorem zi1 (O:Ow) (h1:1 <= n) (h4:n <= 4) (ha:a ∈ z16 n) (hb:b ∈ z16 n):fPy neF O (.str a) (.str b)=.ok (.bl (decide (a ≠ b))) O:=by
 have:=(zhv O (b:=decide (a=b)) (z9V (k:=8) h1 h4 ha) (z9V h1 h4 hb) (by simp)).2
 rw [this]
 congr 2
 by_cases h:a=b <;> simp [h]
theorem zeW (O:Ow) (k:Nat) (l:List Nat):zbY O (.int (k:Nat)) (.lst (z29 l))=.ok (.bl (!l.contains k)) O:=
 (zh5 O (l:=z29 l) (b:=l.contains k) rfl (zan 7 l) (.inl rfl) (by
  rw [bV]
  unfold z29
  rw [aO]
  constructor
  ·intro h;exact ⟨k,h,rfl⟩
  ·rintro ⟨j,h,e⟩
   injection e with e
   have:j=k:=by omega
   rw [<- this];exact h)).2
theorem zhT (O:Ow) {n:Nat} (h1:1 <= n) (h4:n <= 4) {l:List (List Nat)} (h:∀ cs ∈ l,cs ∈ z16 n) {k:Nat} (hk:O[k]?=some (l.map D.str)):fPy eqF O (.own k) (.lst [])=.ok (.bl l.isEmpty) O:=by
 obtain ⟨ps,hps⟩:=z3A (f:=z2u O 7) (l:=l.map D.str) fun z hz=>z5o O 7 z (aG.mp (z4c h1 h4 h) z hz)
 unfold fPy py
 have e:z2u O 8 (.own k)=some (.list ps):=by
  show (match O[k]? with|some ds=>(z1Q (z2u O 7) ds).map da|none=>none)=_
  rw [hk];dsimp only;rw [hps];rfl
 rw [e]
 cases l with
 | nil=>cases hps;rfl
 | cons x l=>
  rw [bM] at hps
  unfold z1Q at hps
  split at hps
  ·cases hps;rfl
  ·cases hps
theorem zib:(O ++ ([x] ++ X)).set O.length y=O ++ ([y] ++ X):=by
 rw [ee _ _ (aB _),gT];rfl
theorem zaJ:(O ++ ([x] ++ X))[O.length]?=some x:=by
 rw [bp (aB _),gT];rfl
theorem z6s {α:Type} (p:α->Bool) {l:List α} {j:Nat} {x:α} (h:l[j]?=some x):(l.take (j + 1)).filter p=(l.take j).filter p ++ (if p x=true then [x] else []):=by
 rw [fU,h,List.filter_append]
 congr 1
 show List.filter p [x]=_
 rw [i3];split <;> rfl
theorem z7O {α:Type} (l:List α) (inj:α->D) (O:Ow) (i:Nat):(Src.val (l.map inj)).get O i=(l[i]?).map inj:=by
 show (l.map inj)[i]?=_
 rw [bc]
theorem z47 {O:Ow} {m:Nat} {s:Int} {b:Bool} (h:mh (O.set m [.int s,.bl b]) m s b) (X:Ow) {k:Nat} (k1:1 <= k) (k2:k <= 1000):
  ∃ (r:Nat) (s':Int),r < k/\z11 [.own m,.int k] (O.set m [.int s,.bl b] ++ X)=.ok (.int r) (O.set m [.int s',.bl b] ++ X)/\mh (O.set m [.int s',.bl b]) m s' b:=by
 obtain ⟨r,s',r1,r2,r3⟩:=z3i (h.more (X:=X)) k1 k2
 rw [List.set_append_left _ _ h.len,bD] at r2 r3
 refine ⟨r,s',r1,r2,?_,r3.nn,r3.lt⟩
 have hl:m < (O.set m [.int s',.bl b]).length:=by have:=h.len;rw [bT] at this ⊢;exact this
 have:=r3.at_
 rwa [aL hl] at this
theorem zbf (O:Ow) (i j:Int):fLt O (.int i) (.int j)=.ok (.bl (decide (i < j))) O:=rfl
theorem z9Y (O:Ow) (q:Bool):z7K O [.bl q]=.ok (.int (if q=true then 1 else 0)) O:=by cases q <;> rfl
theorem zfp (O:Ow) {r:Nat} (h:r < 3):∃ i:Int,fIx O (.lst [.int 2,.int 4,.int 6]) (.int r)=.ok (.int i) O:=by
 have:r=0 \/ r=1 \/ r=2:=by omega
 rcases this with rfl|rfl|rfl
 ·exact ⟨2,rfl⟩
 ·exact ⟨4,rfl⟩
 ·exact ⟨6,rfl⟩
theorem za1 {O:Ow} (hO:z4z O) {m:Nat} {s:Int} {b:Bool} (h:mh O m s b) {n:Nat} (n1:1 <= n) (n4:n <= 4) (fr:Bool):
  ∃ f s',Fn n f/\z1Y [.own m,.int n,.bl fr] O=.ok (.tup f) (O.set m [.int s',.bl b])/\mh (O.set m [.int s',.bl b]) m s' b:=by
 have hp:=z3z n4
 obtain ⟨r,s1,r1,r2,h1⟩:=z3i h (k:=3) (by decide) (by decide)
 obtain ⟨w,s2,w1,w2,h2⟩:=z3i h1 (k:=3) (by decide) (by decide)
 rw [bD] at w2 h2
 obtain ⟨i,hi⟩:=zfp (O.set m [.int s1,.bl b]) r1
 obtain ⟨z,hz⟩:∃ z:Int,dOp (fI z8q) (dFn 2 z11 (z0T (z0U 0) (z0T (dC (.int 3)) z0X))) (z17 z7K (z0T (z0U 2) z0X)) [some (.own m),some (.int n),some (.bl fr),some (.int i),none,none,none,none] (O.set m [.int s1,.bl b])=.ok (.int z) (O.set m [.int s2,.bl b]):=by
  refine ⟨_,z1f (z1d (z1a rfl rfl) w2) (z1t (z10 rfl) (z9Y _ fr)) (z59 (by omega) (by omega))⟩
 let A:Option D:=some (.own m)
 let k:=O.length
 have hlen:∀ s',(O.set m [D.int s',D.bl b]).length=O.length:=fun s'=>bT
 obtain ⟨σ',O',l1,fs,s3,y6,y7,rfl,rfl,h3,f1,f2⟩:=z8x (i:=6) (l:=aU (2 ^ n)) (inj:=fun (i:Nat)=>D.int (i:Int)) (O:=O.set m [.int s2,.bl b] ++ [[]]) (σ:=[A,some (.int n),some (.bl fr),some (.int i),some (.int z),some (.own O.length),none,none]) (O0:=O.set m [.int s2,.bl b] ++ [[]]) (it:=z31 (z0T (dOp (fI ziR) (dC (.int 1)) (z0U 1)) z0X)) (body:=(z1e (z24 7 (z17 z7K (z0T (dOp fLt (dFn 2 z11 (z0T (z0U 0) (z0T (dC (.int 8)) z0X))) (z0U 3)) z0X))) (z1e (sIf (z1W (dOp fLt (dFn 2 z11 (z0T (z0U 0) (z0T (dC (.int 5)) z0X))) (z0U 4))) (z24 7 (dC .non)) z2j) (z35 (zbN (z0U 5) (z0T (z0U 7) z0X))))))
  (z2z (z10 (zkw n4 rfl)) (by omega)) (fun j σ O'=>∃ fs s' y6 y7,σ=[A,some (.int n),some (.bl fr),some (.int i),some (.int z),some (.own O.length),y6,y7]/\O'=O.set m [.int s',.bl b] ++ [fs]/\mh (O.set m [.int s',.bl b]) m s' b/\fs.length=j/\∀ d ∈ fs,Ans d) (fun j a σ O' ha hI=>by
   obtain ⟨fs,s',y6,y7,rfl,rfl,hs,f1,f2⟩:=hI
   have hj:j < 2 ^ n:=by have:=(ao.mp ha).1;simpa using this
   obtain ⟨q1,t1,_,e1,g1⟩:=z47 hs [fs] (k:=8) (by decide) (by decide)
   obtain ⟨q2,t2,_,e2,g2⟩:=z47 g1 [fs] (k:=5) (by decide) (by decide)
   have hA1:Ans (.int (if (decide ((q1:Int) < i))=true then 1 else 0)):=by
    by_cases h:(q1:Int) < i
    ·exact .inr (.inl (by simp [h]))
    ·exact .inl (by simp [h])
   have key:∀ v,Ans v->z35 (zbN (z0U 5) (z0T (z0U 7) z0X)) [A,some (.int n),some (.bl fr),some (.int i),some (.int z),some (.own O.length),some (.int a),some v] (O.set m [.int t2,.bl b] ++ [fs])=.nx [A,some (.int n),some (.bl fr),some (.int i),some (.int z),some (.own O.length),some (.int a),some v] (O.set m [.int t2,.bl b] ++ [fs ++ [v]]):=fun v _=>by
    rw [z66 (ds:=fs) (t:=z0U 7) rfl rfl (by rw [<- hlen t2];exact z2D) (by omega)]
    congr 1
    rw [<- hlen t2];exact z52
   have fin2:∀ v,Ans v->(fs ++ [v]).length=j + 1/\∀ d ∈ fs ++ [v],Ans d:=fun v hv=>⟨by simp [f1],fun d hd=>by
    rcases bg.mp hd with hd|hd
    ·exact f2 d hd
    ·have:d=v:=by simpa using hd
     rw [this];exact hv⟩
   by_cases hq:(q2:Int) < z
   ·refine ⟨_,_,z1z (x:=.int (if (decide ((q1:Int) < i))=true then 1 else 0)) (O1:=O.set m [.int t1,.bl b] ++ [fs]) (z1t (z10 (z1f (z1d (z1a rfl rfl) e1) rfl (zbf _ _ _))) (z9Y _ _)) (z3n (σ':=[A,some (.int n),some (.bl fr),some (.int i),some (.int z),some (.own O.length),some (.int a),some .non]) (O1:=O.set m [.int t2,.bl b] ++ [fs]) ?_ (key .non (.inr (.inr rfl)))),fs ++ [.non],t2,_,_,rfl,rfl,g2,fin2 _ (.inr (.inr rfl))⟩
    rw [z2b (b:=true) (z1s ((z1f (z1d (z1a rfl rfl) e2) rfl (zbf _ _ _)).trans (by rw [decide_eq_true hq])))];rfl
   ·refine ⟨_,_,z1z (x:=.int (if (decide ((q1:Int) < i))=true then 1 else 0)) (O1:=O.set m [.int t1,.bl b] ++ [fs]) (z1t (z10 (z1f (z1d (z1a rfl rfl) e1) rfl (zbf _ _ _))) (z9Y _ _)) (z3f (O1:=O.set m [.int t2,.bl b] ++ [fs]) (z1s ((z1f (z1d (z1a rfl rfl) e2) rfl (zbf _ _ _)).trans (by rw [decide_eq_false hq]))) (key _ hA1)),_,t2,_,_,rfl,rfl,g2,fin2 _ hA1⟩) ⟨[],s2,_,_,rfl,rfl,h2,rfl,by simp⟩
 rw [cR] at f1
 refine ⟨fs,s3,⟨n1,n4,f1,f2⟩,?_,h3⟩
 show zb7 O.length (fin (z2k [some (.own m),some (.int n),some (.bl fr),none,none,none,none,none] O))=_
 have hB:z2k [some (.own m),some (.int n),some (.bl fr),none,none,none,none,none] O=.rt (.tup fs) (O.set m [.int s3,.bl b] ++ [fs]):=by
  unfold z2k
  refine z1z (x:=.int i) (O1:=O.set m [.int s1,.bl b]) (z1f (x:=.lst [.int 2,.int 4,.int 6]) rfl (z1d (z1a rfl rfl) r2) hi) (z1z hz (z1z (x:=.own O.length) (O1:=O.set m [.int s2,.bl b] ++ [[]]) ?_ (z3n l1 (z1h (z1t (z10 rfl) ?_)))))
  ·show R.ok (D.own (O.set m [D.int s2,D.bl b]).length) _=_
   rw [hlen]
  ·show (match (O.set m [.int s3,.bl b] ++ [fs])[O.length]? with|some ds=>R.ok (D.tup ds) _|none=>_)=_
   rw [<- hlen s3,z2D]
 rw [z1N hB]
 have:=z7U (z2L hO m s3 b) [fs] (d:=.tup fs) (d':=.tup fs) (z7J fun d hd=>zaT (f2 d hd) _)
 rw [hlen] at this
 exact this
theorem zam {ext:Nat} {it0:DI} {i:Nat} {te:DE} {σ:Sg} {O O0:Ow} {ds:List D} {m:Nat} {s:Int} {b:Bool} {P:D->Prop} {o:Bool} (hst:mh O m s b) (hi:it0 σ O0=.ok (.val ds) O) (hl:ds.length < 50000)
  (he:∀ d ∈ ds,∀ s',mh (O.set m [.int s',.bl b]) m s' b->∃ v s'',te ((clr (clr (σ ++ aq ext none) [i]) [i]).set i (some d)) (O.set m [.int s',.bl b])=.ok v (O.set m [.int s'',.bl b])/\mh (O.set m [.int s'',.bl b]) m s'' b/\P v):
  ∃ vs s',z1i o ext it0 (.one i) [] [] te σ O0=z8L o (.ok vs (O.set m [.int s',.bl b]))/\mh (O.set m [.int s',.bl b]) m s' b/\vs.length=ds.length/\∀ v ∈ vs,P v:=by
 obtain ⟨acc,O',e,s',rfl,h1,h2,h3⟩:=z9G (ds:=ds) (step:=z4B ⟨it0,.one i,[]⟩ [] te (clr (σ ++ aq ext none) (z12 [⟨it0,.one i,[]⟩])))
  (fun j O' acc=>∃ s',O'=O.set m [.int s',.bl b]/\mh O' m s' b/\acc.length=j/\∀ v ∈ acc,P v) (fun j O' acc d hI hd=>by
   obtain ⟨s',rfl,h1,h2,h3⟩:=hI
   have hj:=(ao.mp hd).1
   obtain ⟨v,s'',q1,q2,q3⟩:=he d (aW hd) s' h1
   refine ⟨acc ++ [v],_,?_,s'',rfl,q2,by simp [h2],fun w hw=>?_⟩
   ·show z3a [] te ((clr (clr (σ ++ aq ext none) [i]) [i]).set i (some d)) (O.set m [.int s',.bl b]) acc=_
    unfold z3a
    rw [q1]
    show (if acc.length < 100000 then _ else _)=_
    rw [if_pos (by omega)]
   ·rcases bg.mp hw with hw|hw
    ·exact h3 w hw
    ·have:w=v:=by simpa using hw
     rw [this];exact q3) ds.length 0 O [] ⟨s,(z8j hst.at_).symm,hst,rfl,by simp⟩ (by omega) (bW _)
 refine ⟨acc,s',?_,h1,h2,h3⟩
 unfold z1i z3M
 rw [hi]
 show z8L o (noX (z1p (.val ds) _ ds.length 0 O []))=_
 rw [e];rfl
theorem zfB {ns:List Int} (hn:ns.length <= 63) (σ:Sg) (c:Nat) (hc:c < 1000) (h0:z0U 0 σ []=.ok (.lst (ns.map .int)) []):∃ m:Nat,m < 100000/\z17 zbw (z0T (dC (.int 1)) (z0T (z17 zbC (z0T (z17 z38 (z0T (z0U 0) z0X)) (z0T (dC (.int (c:Nat))) z0X))) z0X)) σ []=.ok (.int (m:Nat)) []:=by
 have h1:z17 zbC (z0T (z17 z38 (z0T (z0U 0) z0X)) (z0T (dC (.int (c:Nat))) z0X)) σ []=.ok (.int (if (c:Int) < ((ns.map D.int).length:Nat) then (c:Int) else ((ns.map D.int).length:Nat))) []:=(z2c (z1a ((z2c (z10 h0)).trans rfl) rfl)).trans rfl
 have h2:=(z2c (f:=zbw) (z1a (t:=dC (.int 1)) rfl h1))
 refine ⟨(if (if (c:Int) < ((ns.map D.int).length:Nat) then (c:Int) else ((ns.map D.int).length:Nat)) > 1 then (if (c:Int) < ((ns.map D.int).length:Nat) then (c:Int) else ((ns.map D.int).length:Nat)) else 1).toNat,?_,h2.trans ?_⟩
 ·rw [az];split <;> split <;> omega
 ·show R.ok (D.int (if (if (c:Int) < ((ns.map D.int).length:Nat) then (c:Int) else ((ns.map D.int).length:Nat)) > 1 then (if (c:Int) < ((ns.map D.int).length:Nat) then (c:Int) else ((ns.map D.int).length:Nat)) else 1)) []=_
  congr 2
  rw [az];split <;> split <;> omega
theorem zdt {α β:Type} (l:List α) (e:α->β):(l.filter fun _=>true).map e=l.map e:=by rw [ki.mpr (fun _ _=>rfl)]
theorem zjJ (h:n <= 16):z94 O (.str [c]) (.int (n:Nat))=.ok (.str (aq n c)) O:=by
 show (if 0 <= ((n:Nat):Int)/\((n:Nat):Int) <= 16 then R.ok (D.str (aq ((n:Nat):Int).toNat c)) O else R.bad)=_
 rw [if_pos (by omega)]
 have:((n:Nat):Int).toNat=n:=by omega
 rw [this]
theorem zcc (h:(aU n)[k]?=some a):a=k/\k < n:=by
 obtain ⟨h1,h2⟩:=ao.mp h
 have:k < n:=by simpa using h1
 rw [kK] at h2
 exact ⟨h2.symm,this⟩
theorem z51 {α:Type} (f:Nat->α):((aU n).map f)[i]?=if i < n then some (f i) else none:=by
 rw [bc]
 by_cases h:i < n
 ·rw [gY h,if_pos h];rfl
 ·rw [aQ.mpr (by simpa using h),if_neg h];rfl
theorem zkQ (O:Ow) (ds:List D) (σ:Sg) (hl:ds.length < 100000) (h0:z0U 0 σ O=.ok (.tup ds) O):z8v (z0U 0) (z3k (dC (.int 1))) z3u σ O=.ok (.tup (ds.drop 1)) O:=by
 show ((z0U 0 σ O).bnd _)=_
 rw [h0]
 show (if HT.sIx ds.length 0 (some 1)=0/\HT.sIx ds.length ds.length none=ds.length then R.ok (D.tup ds) O else R.ok (D.tup (zbd ds (some 1) none)) O)=_
 have e1:HT.sIx ds.length 0 (some 1)=min 1 ds.length:=HT.sIx_nat ds.length 0 1
 cases ds with
 | nil=>rfl
 | cons d r=>
  have:¬ (HT.sIx (d :: r).length 0 (some 1)=0/\HT.sIx (d :: r).length (d :: r).length none=(d :: r).length):=by
   rw [e1];simp
  rw [if_neg this]
  unfold zbd
  rw [e1,HT.sIx_none]
  simp
theorem ziG (O:Ow) {n:Nat} (h1:1 <= n) (h4:n <= 4) {l:List (List Nat)} (h:∀ cs ∈ l,cs ∈ z16 n):fPy eqF O (.lst (l.map D.str)) (.lst [])=.ok (.bl l.isEmpty) O:=
 (z7s O (b:=l.isEmpty) (z4c h1 h4 h) (y:=[]) rfl (by cases l <;> simp)).1
theorem zhC (O:Ow) {n:Nat} (h1:1 <= n) (h4:n <= 4) {l:List (List Nat)} (h:∀ cs ∈ l,cs ∈ z16 n):fPy neF O (.lst (l.map D.str)) (.lst [])=.ok (.bl (!l.isEmpty)) O:=
 (z7s O (b:=l.isEmpty) (z4c h1 h4 h) (y:=[]) rfl (by cases l <;> simp)).2
theorem z5n {α:Type} {l:List α} {p:α->Bool}:(l.filter p).isEmpty=l.all fun x=>!p x:=by
 rw [cV,jb,jx,aG]
 exact forall_congr' fun a=>forall_congr' fun _=>by simp
def isO:D->Bool
 | .int i=>i == 1
 | _=>false
theorem eq1 (O:Ow) (h:Ans d):fPy eqF O d (.int 1)=.ok (.bl (isO d)) O:=by rcases h with rfl|rfl|rfl <;> kernel_rfl
def zaQ (f:List D):List Nat:=(aU f.length).filter fun p=>isO (f.getD p .non)
theorem zhe (hf:Fn n f) (O:Ow):z2Y [.tup f] O=.ok (.lst (z29 (zaQ f))) O:=by
 have hl:=hf.len
 have h16:=z3z hf.n4
 show fin (z3F [some (.tup f)] O)=_
 unfold z3F
 refine z9a ((z9W (l:=aU f.length) (p:=fun p=>isO (f.getD p .non)) (e:=fun (p:Nat)=>D.int (p:Int)) (τ:=fun (p:Nat)=>[some (.tup f),some (.int (p:Int))]) (z2z (z10 (z1t (z10 rfl) (z4W O f))) (by omega)) (by simp;omega) (fun _=>rfl) (fun p hp=>?_) (fun _ _ _=>rfl)).trans rfl)
 have hp:=bv.mp hp
 refine z1s (z1f (z1f rfl rfl (z5g hp)) rfl ?_)
 rw [eq1 O (hf.ans _ (bG _)),z41 hp]
theorem mQ:p ∈ zaQ f ↔ p < f.length/\isO (f.getD p .non)=true:=by
 unfold zaQ
 rw [dg,bv]
theorem z62 (hf:Fn n f):(zaQ f).length <= 16:=by
 have h1:=cm (fun p=>isO (f.getD p .non)) (aU f.length)
 rw [cR] at h1
 have h2:=z3z hf.n4
 have h3:=hf.len
 unfold zaQ
 omega
theorem zaV {α:Type} {l:List α} {inj:α->D} {i:Nat} {body:DS} {τ:Option D->Sg} {O:Ow} {q:α->Bool} {d:D} (hset:∀ y x,(τ y).set i x=τ x) (hb:∀ a ∈ l,body (τ (some (inj a))) O=if q a=true then .nx (τ (some (inj a))) O else .rt d O):
  ∀ (f k:Nat) (y:Option D),k <= l.length->l.length <= k + f->∃ y',z3l (.val (l.map inj)) (fun d σ O=>match Tg.put (.one i) d σ with|some σ'=>body σ' O|none=>.bad) f k (τ y) O=if (l.drop k).all q=true then .nx (τ y') O else .rt d O
 | 0,k,y,h1,h2=>by
  have:k=l.length:=by omega
  subst this
  refine ⟨y,?_⟩
  have e:(Src.val (l.map inj)).get O l.length=none:=by simp [Src.get]
  unfold z3l
  rw [e];simp
 | f + 1,k,y,h1,h2=>by
  by_cases hk:k=l.length
  ·subst hk
   refine ⟨y,?_⟩
   have e:(Src.val (l.map inj)).get O l.length=none:=by simp [Src.get]
   unfold z3l
   rw [e];simp
  ·have hlt:k < l.length:=by omega
   have e:(Src.val (l.map inj)).get O k=some (inj l[k]):=by
    show (l.map inj)[k]?=_
    rw [bc,aw hlt];rfl
   obtain ⟨y',ih⟩:=zaV hset hb f (k + 1) (some (inj l[k])) (by omega) (by omega)
   refine ⟨y',?_⟩
   unfold z3l
   rw [e]
   dsimp only
   have e2:Tg.put (.one i) (inj l[k]) (τ y)=some (τ (some (inj l[k]))):=congrArg some (hset y _)
   rw [e2]
   dsimp only
   rw [hb _ (bG hlt),List.drop_eq_getElem_cons hlt,j8]
   cases hq:q l[k] with
   | true=>rw [if_pos rfl,Bool.true_and];exact ih
   | false=>simp
theorem ziu {α:Type} {l:List α} {inj:α->D} {i:Nat} {it:DI} {body:DS} {τ:Option D->Sg} {O:Ow} {q:α->Bool} {d:D} {y:Option D} (hi:it (τ y) O=.ok (.val (l.map inj)) O) (hset:∀ y x,(τ y).set i x=τ x) (hb:∀ a ∈ l,body (τ (some (inj a))) O=if q a=true then .nx (τ (some (inj a))) O else .rt d O):
  ∃ y',z7h it (.one i) body (τ y) O=if l.all q=true then .nx (τ y') O else .rt d O:=by
 obtain ⟨y',h⟩:=zaV hset hb (l.map inj).length 0 y (bW _) (by simp)
 exact ⟨y',(zaq hi).trans h⟩
theorem zdD (h:l.Pairwise (· < ·)):z3K l=l:=z68 (z55 l) h fun x=>z3G l
theorem zci (h:t σ O=.ok [x] O1) (hx:lsV O1 x=some (l.map .str) \/ x=.tup (l.map .str)) (hl:l.length < 64):z9S false t σ O=.ok (.lst ((z3K l).map .str)) O1:=by
 unfold z9S
 rw [h]
 show (match (match lsV O1 x with|some ds=>some ds|none=>tpV x) with|some ds=>zmh false (.ok ds O1)|none=>.bad)=_
 have e:(match lsV O1 x with|some ds=>some ds|none=>tpV x)=some (l.map .str):=by
  rcases hx with hx|rfl
  ·rw [hx]
  ·rfl
 rw [e]
 show (match zcC (l.map D.str) with|some ss=>if ss.length < 64 then (if false=true then R.ok (D.own _) _ else R.ok (D.lst ((z3K ss).map .str)) O1) else .bad|none=>.bad)=_
 rw [DL.strL_map]
 show (if l.length < 64 then _ else _)=_
 rw [if_pos hl];rfl
theorem zhs (O:Ow) {n:Nat} (h1:1 <= n) (h4:n <= 4) {l:List (List Nat)} (h:∀ cs ∈ l,cs ∈ z16 n) {k:Nat} (hk:O[k]?=some (l.map D.str)):fPy neF O (.own k) (.lst [])=.ok (.bl (!l.isEmpty)) O:=by
 obtain ⟨ps,hps⟩:=z3A (f:=z2u O 7) (l:=l.map D.str) fun z hz=>z5o O 7 z (aG.mp (z4c h1 h4 h) z hz)
 unfold fPy py
 have e:z2u O 8 (.own k)=some (.list ps):=by
  show (match O[k]? with|some ds=>(z1Q (z2u O 7) ds).map da|none=>none)=_
  rw [hk];dsimp only;rw [hps];rfl
 rw [e]
 cases l with
 | nil=>cases hps;rfl
 | cons x l=>
  rw [bM] at hps
  unfold z1Q at hps
  split at hps
  ·cases hps;rfl
  ·cases hps
theorem zig (hk:O[k]?=some (l.map .str)) (hn:l.Nodup) (hl:l.length < 64):za7 O [.own k]=.ok (.lst ((z3K l).map .str)) O:=by
 show (match O[k]? with|some ds=>(match zcC ds with|some ss=>if ss.Nodup/\ss.length < 64 then R.ok (D.lst ((z3K ss).map .str)) O else R.bad|none=>R.bad)|none=>R.bad)=_
 rw [hk]
 dsimp only
 rw [DL.strL_map]
 dsimp only
 rw [if_pos ⟨hn,hl⟩]
theorem z9j {α β:Type} (f:α->β):∀ (l:List α) (i:Nat),(l.map f).eraseIdx i=(l.eraseIdx i).map f
 | [],_=>by simp
 | x :: l,0=>rfl
 | x :: l,i + 1=>by
  rw [bM,fY,fY,bM,z9j f l i]
theorem z3v {α:Type}:∀ (l:List α) (i:Nat) (h:i < l.length),(l[i] :: l.eraseIdx i).Perm l
 | [],_,h=>by simp at h
 | x :: l,0,_=>jK _
 | x :: l,i + 1,h=>by
  rw [fY,List.getElem_cons_succ]
  exact (List.Perm.swap _ _ _).trans ((z3v l i (by simpa using h)).cons x)
structure Tog (n:Nat) (fs:List (List D)):Prop where
 n1:1 <= n
 n3:n <= 3
 l2:2 <= fs.length
 l3:fs.length <= 3
 fn:∀ f ∈ fs,Fn n f
theorem Tog.n4 (h:Tog n fs):n <= 4:=bb h.n3 (by decide)
def z1b (fs:List (List D)) (cs:List Nat):List Nat:=(aU fs.length).filter fun k=>z8n (fs.getD k []) cs
theorem z5t {fs:List (List D)} {k:Nat} (h:k < fs.length):fs.getD k []=fs[k]:=by
 rw [aS,aw h];rfl
theorem z3X {n:Nat} {fs:List (List D)} (hf:Tog n fs) {cs:List Nat} (h:cs ∈ z16 n) (O:Ow):z1u [.tup (fs.map .tup),.str cs] O=.ok (.lst (z29 (z1b fs cs))) O:=by
 have:=hf.l3
 show fin (z2l [some (.tup (fs.map .tup)),some (.str cs)] O)=_
 unfold z2l
 rw [z1h (z9W (l:=aU fs.length) (p:=fun k=>z8n (fs.getD k []) cs) (e:=fun (p:Nat)=>D.int (p:Int)) (τ:=fun (p:Nat)=>[some (.tup (fs.map .tup)),some (.str cs),some (.int (p:Int))]) (z2z (z10 ((z2c (z10 (t:=z0U 0) rfl)).trans (by rw [z4W,az]))) (by omega)) (by simp;omega) (fun _=>rfl) (fun k hk=>by
  have hk:=bv.mp hk
  refine z1w ((z6y (z1a ((z1g rfl rfl).trans (z5g (i:=k) (by simpa using hk))) rfl) rfl).trans ?_)
  rw [eL,z5t hk]
  exact z6c (hf.fn _ (bG hk)) h O) (fun _ _ _=>rfl))]
 rfl
theorem zbr {n:Nat} {fs:List (List D)} (hf:Tog n fs) {cs:List Nat} (h:cs ∈ z16 n) (O:Ow):z1V [.tup (fs.map .tup),.str cs] O=.ok (.lst (z29 (z1b fs cs))) O:=by
 have:=hf.l3
 show fin (z1U [some (.tup (fs.map .tup)),some (.str cs)] O)=_
 unfold z1U
 rw [z1h (z4D (g:=.two 2 3) (O:=O) (src:=.val (z5l (fs.map .tup))) (l:=aU fs.length) (inj:=fun k=>D.tup [.int (k:Nat),(fs.map D.tup).getD k .non]) (p:=fun k=>z8n (fs.getD k []) cs) (e:=fun (p:Nat)=>D.int (p:Int)) (τ:=fun (k:Nat)=>[some (.tup (fs.map .tup)),some (.str cs),some (.int (k:Int)),some ((fs.map D.tup).getD k .non)]) (by rfl) (fun i=>by rw [z60,az];rfl) (by rw [z60];simp [Src.size]) (by simp;omega) (fun _ _=>rfl) (fun k hk=>by
  have hk:=bv.mp hk
  have e:(fs.map D.tup).getD k .non=.tup (fs.getD k []):=by rw [z41 (by simpa using hk),eL,z5t hk]
  refine z8i (z1w ((z6y (z1a rfl rfl) rfl).trans ?_))
  rw [e]
  exact zfk (by rw [z5t hk];exact hf.fn _ (bG hk)) h O) (fun _ _ _=>rfl))]
 rfl
def zgv (cs ds:List Nat):Bool:=(aU cs.length).all fun k=>ds.getD k 0 == 45 || ds.getD k 0 == cs.getD k 0
def mL:List (List Nat × List Nat):=[1,2,3].flatMap fun n=>(z16 n).flatMap fun cs=>(z16 n).map fun ds=>(cs,ds)
theorem zfJ (h1:1 <= n) (h3:n <= 3) (hc:cs ∈ z16 n) (hd:ds ∈ z16 n):(cs,ds) ∈ mL:=by
 unfold mL
 rw [eM]
 have hn:n=1 \/ n=2 \/ n=3:=by omega
 refine ⟨n,by rcases hn with rfl|rfl|rfl <;> simp,?_⟩
 rw [eM]
 exact ⟨cs,hc,aO.mpr ⟨ds,hd,rfl⟩⟩
theorem zeY (O:Ow):(mL.map fun q=>z1J [.str q.1,.str q.2] O)=mL.map fun q=>R.ok (.bl (zgv q.1 q.2)) O:=by kernel_rfl
theorem zgQ (h1:1 <= n) (h3:n <= 3) (hc:cs ∈ z16 n) (hd:ds ∈ z16 n) (O:Ow):z1J [.str cs,.str ds] O=.ok (.bl (zgv cs ds)) O:=by
 have:=cS.mp (zeY O) (cs,ds) (zfJ h1 h3 hc hd)
 dsimp only at this
 exact this
theorem zct (hf:Tog n fs):∃ f r,fs=f :: r:=by
 cases fs with
 | nil=>have:=hf.l2;simp at this
 | cons f r=>exact ⟨f,r,rfl⟩
theorem zj0 (O:Ow) (hf:Tog n fs):zbY O (.int ((fs.map D.tup).length:Nat)) (.tup [.int 2,.int 3])=.ok (.bl false) O:=by
 have:fs.length=2 \/ fs.length=3:=by have:=hf.l2;have:=hf.l3;omega
 rw [az]
 rcases this with e|e <;> rw [e] <;> kernel_rfl
theorem zlK (O:Ow) (n:Nat):fPy eqF O (.int (n:Nat)) (.int (n:Nat))=.ok (.bl true) O:=(zhv O (b:=true) rfl rfl (by simp)).1
theorem z4b (hf:Tog n fs) (O:Ow):∃ f,Fn n f/\fIx O (.tup (fs.map .tup)) (.int 0)=.ok (.tup f) O:=by
 obtain ⟨f,r,rfl⟩:=zct hf
 refine ⟨f,hf.fn f aH,?_⟩
 show fIx O (.tup (.tup f :: r.map .tup)) (.int ((0:Nat):Int))=_
 exact z5g (by simp)
theorem zao (hf:Tog n fs) (O:Ow):z2B [.tup (fs.map .tup)] O=.ok (.bl true) O:=by
 have h3:=hf.n3
 have hl:=hf.l3
 obtain ⟨f,h1,h2⟩:=z4b hf O
 show fin (z3g [some (.tup (fs.map .tup)),none] O)=_
 unfold z3g
 refine z1N (z3f (O1:=O) ?_ (z3f (O1:=O) ?_ (z1z (x:=.int n) (O1:=O) ?_ (z1h ?_))))
 ·exact za8 (z25 (z1w (b:=true) rfl)) fun _=>z1s (z1f (z1t (z10 rfl) (z4W O _)) rfl (zj0 O hf))
 ·refine z25 (b:=true) (z1w (z1t (z10 ((z79 (l:=fs) (e:=fun _=>D.bl true) (τ:=fun f=>[some (.tup (fs.map .tup)),none,some (.tup f)]) (z4p rfl) (by omega) (fun _=>rfl) (fun f hm=>z1d (z10 rfl) (z7c (hf.fn f hm) O))).trans rfl)) ?_))
  rw [z33 O fs fun _=>true]
  simp
 ·exact z1d (z10 (z1f rfl rfl h2)) (z3E h1 O)
 ·refine z6e (a:=true) (b:=true) (z1f rfl rfl ?_) fun _=>?_
  ·show R.ok (D.bl (decide ((n:Int) <= 3))) O=_
   rw [decide_eq_true (by omega)]
  ·refine z1t (z10 ((z79 (l:=fs) (e:=fun _=>D.bl true) (τ:=fun f=>[some (.tup (fs.map .tup)),some (.int n),some (.tup f)]) (z4p rfl) (by omega) (fun _=>rfl) (fun f hm=>z1f (z1d (z10 rfl) (z3E (hf.fn f hm) O)) rfl (zlK O n))).trans rfl)) ?_
   rw [z33 O fs fun _=>true]
   simp
def zn3 (a b:List Nat):Bool:=(a.filter fun k=>!b.contains k).isEmpty
def z5O (fs:List (List D)) (cs o:List Nat):Bool:=decide (o ≠ cs) && (zgv cs o && zn3 (z1b fs cs) (z1b fs o))
def z2X (n:Nat) (fs:List (List D)) (cs:List Nat):Bool:=!(z1b fs cs).isEmpty && ((z16 n).filter (z5O fs cs)).isEmpty
def z6j (fs:List (List D)) (cs:List Nat):D:=.tup [.str cs,.lst (z29 (z1b fs cs))]
theorem z6W (hf:Tog n fs) (cs:List Nat):(z1b fs cs).length <= 3:=by
 have h1:=cm (fun k=>z8n (fs.getD k []) cs) (aU fs.length)
 rw [cR] at h1
 have:=hf.l3
 unfold z1b;omega
def zd6:DS:=(sIf (z4s (z1W (dOp (fPy neF) (z0U 6) (z0U 3))) (z4s (z37 (dFn 2 z1J (z0T (z0U 3) (z0T (z0U 6) z0X)))) (z1W (dOp (fPy eqF) (z1i false 1 (dIt (z0U 4)) (.one 8) [(z1W (dOp zbY (z0U 8) (z0U 7)))] [] (z0U 8)) (z2J z0X))))) (z35 (zbN (z0U 5) (z0T (z0U 6) z0X))) z2j)
theorem zfn (hf:Tog n fs) (hc:cs ∈ z16 n) (ho:o ∈ z16 n) (hk:O[k]?=some l) (hl:l.length < 1000):
  zd6 [a,b,c,some (.str cs),some (.lst (z29 (z1b fs cs))),some (.own k),some (.str o),some (.lst (z29 (z1b fs o)))] O=.nx [a,b,c,some (.str cs),some (.lst (z29 (z1b fs cs))),some (.own k),some (.str o),some (.lst (z29 (z1b fs o)))] (if z5O fs cs o=true then O.set k (l ++ [.str o]) else O):=by
 unfold zd6
 have hg:=z6W hf cs
 rw [z2b (b:=z5O fs cs o) (O1:=O) (z65 (z1s (z1f rfl rfl (zi1 O hf.n1 hf.n4 ho hc))) fun _=>z65 (z1w (z1d (z1a rfl rfl) (zgQ hf.n1 hf.n3 hc ho O))) fun _=>z1s (z1f ((z9W (l:=z1b fs cs) (p:=fun k=>!(z1b fs o).contains k) (e:=fun (p:Nat)=>D.int (p:Int)) (τ:=fun (p:Nat)=>[a,b,c,some (.str cs),some (.lst (z29 (z1b fs cs))),some (.own k),some (.str o),some (.lst (z29 (z1b fs o))),some (.int (p:Int))]) (z2T rfl) (by omega) (fun _=>rfl) (fun j hj=>z1s (z1f rfl rfl (zeW O j _))) (fun _ _ _=>rfl)).trans rfl) rfl (zcd O _)))]
 cases z5O fs cs o with
 | true=>rw [if_pos rfl,if_pos rfl];exact z66 (t:=z0U 6) rfl rfl hk (by omega)
 | false=>rfl
theorem zfK (hf:Tog n fs) (hc:cs ∈ z16 n) (O:Ow):
  ∃ z6 z7,z7h (dIt (z0U 2)) (.two 6 7) zd6 [a,b,some (.lst ((z16 n).map (z6j fs))),some (.str cs),some (.lst (z29 (z1b fs cs))),some (.own O.length),y6,y7] (O ++ [[]])=.nx [a,b,some (.lst ((z16 n).map (z6j fs))),some (.str cs),some (.lst (z29 (z1b fs cs))),some (.own O.length),z6,z7] (O ++ [((z16 n).filter (z5O fs cs)).map D.str]):=by
 have hfew:=z8O hf.n1 hf.n4
 obtain ⟨σ',O',l1,z6,z7,rfl,rfl⟩:=za2 (α:=List Nat) (g:=.two 6 7) (l:=z16 n) (inj:=z6j fs) (body:=zd6) (it:=dIt (z0U 2)) (σ:=[a,b,some (.lst ((z16 n).map (z6j fs))),some (.str cs),some (.lst (z29 (z1b fs cs))),some (.own O.length),y6,y7]) (O0:=O ++ [[]]) (O:=O ++ [[]]) (src:=.val ((z16 n).map (z6j fs))) rfl (by simp [Src.size])
  (fun j σ O'=>∃ y6 y7,σ=[a,b,some (.lst ((z16 n).map (z6j fs))),some (.str cs),some (.lst (z29 (z1b fs cs))),some (.own O.length),y6,y7]/\O'=O ++ [(((z16 n).take j).filter (z5O fs cs)).map D.str]) (fun j o σ O' ho hI=>by
   obtain ⟨y6,y7,rfl,rfl⟩:=hI
   have hl:((((z16 n).take j).filter (z5O fs cs)).map D.str).length < 1000:=by
    have h1:=cm (z5O fs cs) ((z16 n).take j)
    have h2:=gU j (z16 n)
    rw [az];omega
   refine ⟨by rw [z7O,ho];rfl,_,_,_,rfl,zfn hf hc (aW ho) (k:=O.length) z2D hl,_,_,rfl,?_⟩
   rw [z6s _ ho]
   split
   ·rw [z52,cW];rfl
   ·rw [dh]) (fun σ O' _=>by rw [z7O];simp) ⟨y6,y7,rfl,by simp⟩
 rw [dO] at l1
 exact ⟨z6,z7,l1⟩
def zm0 (X:Ow):Prop:=∀ c ∈ X,∀ d ∈ c,∃ t,d=D.str t
theorem z5B (hf:Tog n fs) (hO:z4z O):∃ X,z1E [.tup (fs.map .tup)] O=.ok (.own O.length) (O ++ ([((z16 n).filter (z2X n fs)).map D.str] ++ X))/\zm0 X:=by
 have hfew:=z8O hf.n1 hf.n4
 let A:Option D:=some (.tup (fs.map .tup))
 let S:Option D:=some (.lst ((z16 n).map (z6j fs)))
 have hO1:z4z (O ++ [[]]):=zb0 hO (by simp)
 obtain ⟨f,h1,h2⟩:=z4b hf (O ++ [[]])
 obtain ⟨σ',O',l1,X,y3,y4,y5,y6,y7,rfl,rfl,hX⟩:=za2 (α:=List Nat) (g:=.two 3 4) (l:=z16 n) (inj:=z6j fs) (it:=dIt (z0U 2)) (σ:=[A,some (.own O.length),S,none,none,none,none,none]) (O0:=O ++ [[]]) (O:=O ++ [[]]) (src:=.val ((z16 n).map (z6j fs))) (body:=(z1e (z24 5 (z4w z0X)) (z1e (z7h (dIt (z0U 2)) (.two 6 7) zd6) (sIf (z4s (z1W (dOp (fPy neF) (z0U 4) (z2J z0X))) (z1W (dOp (fPy eqF) (z0U 5) (z2J z0X)))) (z35 (zbN (z0U 1) (z0T (z0U 3) z0X))) z2j)))) rfl (by simp [Src.size])
  (fun j σ O'=>∃ X y3 y4 y5 y6 y7,σ=[A,some (.own O.length),S,y3,y4,y5,y6,y7]/\O'=O ++ ([(((z16 n).take j).filter (z2X n fs)).map D.str] ++ X)/\zm0 X) (fun j cs σ O' hcs hI=>by
   obtain ⟨X,y3,y4,y5,y6,y7,rfl,rfl,hX⟩:=hI
   have hc:=aW hcs
   obtain ⟨z6,z7,e1⟩:=zfK hf hc (a:=A) (b:=some (.own O.length)) (y6:=y6) (y7:=y7) (O ++ ([(((z16 n).take j).filter (z2X n fs)).map D.str] ++ X))
   have hl:((((z16 n).take j).filter (z2X n fs)).map D.str).length < 1000:=by
    have h1:=cm (z2X n fs) ((z16 n).take j)
    have h2:=gU j (z16 n)
    rw [az];omega
   refine ⟨by rw [z7O,hcs];rfl,[A,some (.own O.length),S,some (.str cs),some (.lst (z29 (z1b fs cs))),y5,y6,y7],[A,some (.own O.length),S,some (.str cs),some (.lst (z29 (z1b fs cs))),some (.own (O ++ ([(((z16 n).take j).filter (z2X n fs)).map D.str] ++ X)).length),z6,z7],O ++ ([(((z16 n).take (j + 1)).filter (z2X n fs)).map D.str] ++ (X ++ [((z16 n).filter (z5O fs cs)).map D.str])),rfl,?_,_,_,_,_,_,_,rfl,rfl,fun c hc d hd=>by
    rcases bg.mp hc with hc|hc
    ·exact hX c hc d hd
    ·have:c=((z16 n).filter (z5O fs cs)).map D.str:=by simpa using hc
     rw [this] at hd
     obtain ⟨t,_,rfl⟩:=aO.mp hd
     exact ⟨t,rfl⟩⟩
   refine z1z (x:=.own (O ++ ([(((z16 n).take j).filter (z2X n fs)).map D.str] ++ X)).length) (O1:=O ++ ([(((z16 n).take j).filter (z2X n fs)).map D.str] ++ X) ++ [[]]) rfl (z3n e1 ?_)
   generalize hQ:O ++ ([(((z16 n).take j).filter (z2X n fs)).map D.str] ++ X) ++ [((z16 n).filter (z5O fs cs)).map D.str]=Q
   have hQ':Q=O ++ ([(((z16 n).take j).filter (z2X n fs)).map D.str] ++ (X ++ [((z16 n).filter (z5O fs cs)).map D.str])):=by rw [<- hQ];simp
   rw [z2b (b:=z2X n fs cs) (O1:=Q) (z65 (z1s (z1f rfl rfl (zgL Q _))) fun _=>z1s (z1f rfl rfl (zhT Q hf.n1 hf.n4 (fun c hc=>(dg.mp hc).1) (by rw [<- hQ];exact z2D))))]
   rw [z6s _ hcs]
   cases hb:z2X n fs cs with
   | true=>
    rw [if_pos rfl,if_pos rfl,z66 (t:=z0U 3) rfl rfl (by rw [hQ'];exact zaJ) (by omega),hQ',zib,cW];rfl
   | false=>
    rw [hQ']
    simp only [cH,if_false,dh];rfl) (fun σ O' _=>by rw [z7O];simp) ⟨[],_,_,_,_,_,rfl,by simp,fun c hc=>by cases hc⟩
 rw [dO] at l1
 have hB:z3e [A,none,none,none,none,none,none,none] O=.rt (.own O.length) (O ++ ([((z16 n).filter (z2X n fs)).map D.str] ++ X)):=by
  unfold z3e
  refine z1z (x:=.own O.length) (O1:=O ++ [[]]) rfl (z1z (x:=.lst ((z16 n).map (z6j fs))) (O1:=O ++ [[]]) ?_ (z3n l1 (z1h rfl)))
  refine (z79 (l:=z16 n) (e:=z6j fs) (τ:=fun cs=>[A,some (.own O.length),none,some (.str cs),none,none,none,none]) (z2T (z1d (z10 (z1d (z10 (z1f rfl rfl h2)) (z2o h1 _))) (z9h hf.n4 hO1))) (by omega) (fun _=>rfl) (fun cs hc=>?_)).trans rfl
  show ((z0T (z0U 3) (z0T (dFn 2 z1u (z0T (z0U 0) (z0T (z0U 3) z0X))) z0X) _ _).bnd _)=_
  rw [z1a (x:=.str cs) (by rfl) (z1d (z1a (x:=A.get!) (by rfl) (by rfl)) (z3X hf hc _))]
  rfl
 refine ⟨X,?_,hX⟩
 show fin (z3e [A,none,none,none,none,none,none,none] O)=_
 exact z1N hB
theorem zcR:∀ (vs:List D) {P:List D->Prop},(∀ v ∈ vs,∃ f,v=D.tup f/\P f)->∃ fs:List (List D),vs=fs.map D.tup/\∀ f ∈ fs,P f
 | [],_,_=>⟨[],rfl,by simp⟩
 | v :: vs,P,h=>by
  obtain ⟨f,rfl,hf⟩:=h v aH
  obtain ⟨fs,rfl,hfs⟩:=zcR vs (P:=P) fun w hw=>h w (au _ hw)
  exact ⟨f :: fs,rfl,fun x hx=>(av.mp hx).elim (fun e=>by rw [e];exact hf) (hfs x)⟩
theorem zmW (O:Ow) {r:Nat} (h:r < 4):∃ n:Nat,1 <= n/\n <= 3/\fIx O (.lst [.int 3,.int 2,.int 3,.int 1]) (.int r)=.ok (.int n) O:=by
 have:r=0 \/ r=1 \/ r=2 \/ r=3:=by omega
 rcases this with rfl|rfl|rfl|rfl
 ·exact ⟨3,by decide,by decide,rfl⟩
 ·exact ⟨2,by decide,by decide,rfl⟩
 ·exact ⟨3,by decide,by decide,rfl⟩
 ·exact ⟨1,by decide,by decide,rfl⟩
theorem z6N {O:Ow} (hO:z4z O) {m:Nat} {s:Int} {b:Bool} (h:mh O m s b):
  ∃ n fs s',Tog n fs/\z1Z [.own m] O=.ok (.tup (fs.map .tup)) (O.set m [.int s',.bl b])/\mh (O.set m [.int s',.bl b]) m s' b:=by
 have hlen:∀ s',(O.set m [D.int s',D.bl b]).length=O.length:=fun s'=>bT
 obtain ⟨r,s1,r1,r2,h1⟩:=z3i h (k:=4) (by decide) (by decide)
 obtain ⟨n,n1,n3,hn⟩:=zmW (O.set m [.int s1,.bl b]) r1
 obtain ⟨w,s2,w1,w2,h2⟩:=z3i h1 (k:=2) (by decide) (by decide)
 rw [bD] at w2 h2
 have hr:z31 (z0T (dOp z4i (dC (.int 2)) (dFn 2 z11 (z0T (z0U 0) (z0T (dC (.int 2)) z0X)))) z0X) [some (.own m),some (.int n),none] (O.set m [.int s1,.bl b])=.ok (.val ((aU (2 + w)).map fun (i:Nat)=>D.int (i:Int))) (O.set m [.int s2,.bl b]):=
  z2z (z10 ((z1f rfl (z1d (z1a rfl rfl) w2) z4Q).trans (by congr 2))) (by omega)
 obtain ⟨vs,s3,c1,h3,c3,c4⟩:=zam (o:=true) (ext:=1) (i:=3) (te:=dFn 3 z1Y (z0T (z0U 0) (z0T (z0U 1) (z0T (dC (.bl true)) z0X)))) (P:=fun v=>∃ f,v=D.tup f/\Fn n f) h2 hr (by simp;omega) (fun d hd s' hs=>by
  rw [bD] at hs
  obtain ⟨f,s'',hf,e1,e2⟩:=za1 (z2L hO m s' b) hs n1 (by omega) true
  rw [bD] at e1 e2
  refine ⟨.tup f,s'',?_,?_,f,rfl,hf⟩
  ·rw [bD,bD];exact z1d (z1T rfl (z1a rfl rfl)) e1
  ·rw [bD];exact e2)
 rw [bD] at c1 h3
 obtain ⟨fs,rfl,hfs⟩:=zcR vs c4
 have hl:fs.length=2 + w:=by simpa using c3
 have hT:Tog n fs:=⟨n1,n3,by omega,by omega,hfs⟩
 obtain ⟨q,s4,q1,q2,h4⟩:=z47 h3 [fs.map D.tup] (k:=4) (by decide) (by decide)
 obtain ⟨fs2,hT2,e4⟩:∃ fs2,Tog n fs2/\sIf (z1W (dOp (fPy eqF) (dFn 2 z11 (z0T (z0U 0) (z0T (dC (.int 4)) z0X))) (dC (.int 0)))) (zcH (dOp fIx (z0U 2) (dC (.int 0))) (z0U 2) (dC (.int 1))) z2j [some (.own m),some (.int n),some (.own O.length)] (O.set m [.int s3,.bl b] ++ [fs.map D.tup])=.nx [some (.own m),some (.int n),some (.own O.length)] (O.set m [.int s4,.bl b] ++ [fs2.map D.tup]):=by
  have ht:z1W (dOp (fPy eqF) (dFn 2 z11 (z0T (z0U 0) (z0T (dC (.int 4)) z0X))) (dC (.int 0))) [some (.own m),some (.int n),some (.own O.length)] (O.set m [.int s3,.bl b] ++ [fs.map D.tup])=.ok ((q:Int) == 0) (O.set m [.int s4,.bl b] ++ [fs.map D.tup]):=z1s (z1f (z1d (z1a rfl rfl) q2) rfl rfl)
  rw [z2b ht]
  by_cases hq:((q:Int) == 0)=true
  ·rw [if_pos hq]
   obtain ⟨f0,fr,rfl⟩:=zct hT
   obtain ⟨f1,fr',rfl⟩:∃ f1 r,fr=f1 :: r:=by
    cases fr with
    | nil=>have:=hT.l2;simp at this
    | cons a r=>exact ⟨a,r,rfl⟩
   refine ⟨f0 :: f0 :: fr',⟨n1,n3,by simp,by have:=hT.l3;simpa using this,fun f hf=>?_⟩,?_⟩
   ·rcases av.mp hf with rfl|hf
    ·exact hT.fn _ aH
    ·rcases av.mp hf with rfl|hf
     ·exact hT.fn _ aH
     ·exact hT.fn _ (au _ (au _ hf))
   ·have hk:(O.set m [.int s4,.bl b] ++ [(f0 :: f1 :: fr').map D.tup])[O.length]?=some ((f0 :: f1 :: fr').map D.tup):=by rw [<- hlen s4];exact z2D
    rw [zac (y:=.tup f0) (k:=O.length) (i:=1) (j:=1) (O1:=O.set m [.int s4,.bl b] ++ [(f0 :: f1 :: fr').map D.tup]) (z1f rfl rfl (by
     show (match (O.set m [.int s4,.bl b] ++ [(f0 :: f1 :: fr').map D.tup])[O.length]? with|some ds=>(match L2.atI ds 0 with|some d=>R.ok d _|none=>R.bad)|none=>_)=_
     rw [hk]
     dsimp only
     rw [show L2.atI (lr D.tup (f0 :: f1 :: fr')) 0=some (D.tup f0) from L2.atI_nat (j:=0) rfl])) rfl rfl hk (by
      unfold L2.ixN
      rw [if_pos (by omega),if_pos (by simp;omega)];rfl)]
    congr 1
    rw [<- hlen s4];exact z52
  ·rw [if_neg hq];exact ⟨fs,hT,rfl⟩
 refine ⟨n,fs2,s4,hT2,?_,h4⟩
 show zb7 O.length (fin (z2s [some (.own m),none,none] O))=_
 have hB:z2s [some (.own m),none,none] O=.rt (.tup (fs2.map .tup)) (O.set m [.int s4,.bl b] ++ [fs2.map .tup]):=by
  unfold z2s
  refine z1z (x:=.int n) (O1:=O.set m [.int s1,.bl b]) (z1f (x:=.lst [.int 3,.int 2,.int 3,.int 1]) rfl (z1d (z1a rfl rfl) r2) hn) (z1z (x:=.own O.length) (O1:=O.set m [.int s3,.bl b] ++ [fs.map D.tup]) (c1.trans ?_) (z3n e4 (z1h (z1t (z10 rfl) ?_))))
  ·show R.ok (D.own (O.set m [D.int s3,D.bl b]).length) _=_
   rw [hlen]
  ·show (match (O.set m [.int s4,.bl b] ++ [fs2.map D.tup])[O.length]? with|some ds=>R.ok (D.tup ds) _|none=>_)=_
   rw [<- hlen s4,z2D]
 rw [z1N hB]
 have:=z7U (z2L hO m s4 b) [fs2.map D.tup] (d:=.tup (fs2.map .tup)) (d':=.tup (fs2.map .tup)) (by
  show (z1Q (frz _ _ 7) (fs2.map D.tup)).map D.tup=_
  rw [z2w fun d hd=>by
   obtain ⟨f,hf,rfl⟩:=aO.mp hd
   exact z7J fun d hd=>zaT ((hT2.fn f hf).ans d hd) _];rfl)
 rw [hlen] at this
 exact this
def A7:List Nat:=[48,49,45,50]
theorem zeG (O:Ow):(A7.map fun c=>fIn O (.str [c]) (.str [45,48,49]))=A7.map fun c=>R.ok (.bl (sgn c)) O:=by kernel_rfl
theorem neI (O:Ow) (a b:Int):fPy neF O (.int a) (.int b)=.ok (.bl (a != b)) O:=rfl
theorem eqI (O:Ow) (a b:Int):fPy eqF O (.int a) (.int b)=.ok (.bl (a == b)) O:=rfl
theorem zdo (hc:∀ c ∈ cs,c ∈ A7) (hl:cs.length <= 10) (O:Ow):z1H [.int (n:Nat),.str cs] O=.ok (.bl (cs.length == n && cs.all sgn)) O:=by
 have hlen:z17 z38 (z0T (z0U 1) z0X) [some (.int (n:Nat)),some (.str cs)] O=.ok (.int (cs.length:Nat)) O:=(z2c (z10 rfl)).trans (zaM (by omega))
 have t1:zbD (z2W (z37 (z5U "str" (z0U 1)))) (z1W (dOp (fPy neF) (z17 z38 (z0T (z0U 1) z0X)) (z0U 0))) [some (.int (n:Nat)),some (.str cs)] O=.ok (((cs.length:Nat):Int) != (n:Nat)) O:=by
  have:z1W (dOp (fPy neF) (z17 z38 (z0T (z0U 1) z0X)) (z0U 0)) [some (.int (n:Nat)),some (.str cs)] O=.ok (((cs.length:Nat):Int) != (n:Nat)) O:=z1s ((z1g hlen rfl).trans (neI O _ _))
  exact this
 have hb:(((cs.length:Nat):Int) != (n:Nat)) = !(cs.length == n):=by
  rw [cV];simp;omega
 rw [hb] at t1
 have hcmp:=z79 (o:=false) (ext:=1) (i:=2) (it0:=dIt (z0U 1)) (σ:=[some (.int (n:Nat)),some (.str cs)]) (O0:=O) (O:=O) (l:=cs) (inj:=fun c=>D.str [c]) (te:=dOp fIn (z0U 2) (dC (.str [45,48,49]))) (e:=fun c=>D.bl (sgn c)) (τ:=fun c=>[some (.int (n:Nat)),some (.str cs),some (.str [c])]) rfl (by omega) (fun _=>rfl) (fun c h=>(z1g rfl rfl).trans (cS.mp (zeG O) c (hc c h)))
 show fin (z1e (sIf _ (z1v (dC (.bl false))) z2j) (z1v _) [some (.int (n:Nat)),some (.str cs)] O)=_
 cases hx:(cs.length == n) with
 | false=>
  rw [hx] at t1
  have e1:sIf (zbD (z2W (z37 (z5U "str" (z0U 1)))) (z1W (dOp (fPy neF) (z17 z38 (z0T (z0U 1) z0X)) (z0U 0)))) (z1v (dC (.bl false))) z2j [some (.int (n:Nat)),some (.str cs)] O=.rt (.bl false) O:=by rw [z2b t1];rfl
  rw [z5j e1];rfl
 | true=>
  rw [hx] at t1
  have e1:sIf (zbD (z2W (z37 (z5U "str" (z0U 1)))) (z1W (dOp (fPy neF) (z17 z38 (z0T (z0U 1) z0X)) (z0U 0)))) (z1v (dC (.bl false))) z2j [some (.int (n:Nat)),some (.str cs)] O=.nx [some (.int (n:Nat)),some (.str cs)] O:=by rw [z2b t1];rfl
  rw [z1D e1,z1h ((z2c (z10 hcmp)).trans (z33 O _ _))]
  rfl
theorem zdl (O:Ow):(A7.map fun c=>zbY O (.str [c]) (.str [48,49,45]))=A7.map fun c=>R.ok (.bl (!sgn c)) O:=by kernel_rfl
theorem zlu (h:c ∈ A7):pl k (.str [c])=true:=by
 have h2:(A7.all fun c=>decide (c < 1114112))=true:=by decide
 have h3:=aG.mp h2 c h
 have:([c].all fun c=>decide (c < 1114112))=true:=by simpa using h3
 cases k <;> exact this
theorem zix (hc:∀ c ∈ cs,c ∈ A7) (hl:cs.length <= 10) (O:Ow):z1L [.int (n:Nat),.str cs] O=.ok (.bl (cs.length == n && cs.all sgn)) O:=by
 show fin (z2y [some (.int (n:Nat)),some (.str cs)] O)=_
 unfold z2y
 refine z9a ((z6e (a:=true) (b:=cs.length == n && cs.all sgn) rfl fun _=>z6e (a:=cs.length == n) (z1f (z1t (z10 rfl) (zaM (by omega))) rfl ?_) fun _=>?_).trans rfl)
 ·rw [eqI]
  congr 2
  rw [cV];simp;omega
 ·refine (z1f ((z9W (l:=cs) (inj:=fun c=>D.str [c]) (p:=fun c=>!sgn c) (e:=fun c=>D.str [c]) (τ:=fun c=>[some (.int (n:Nat)),some (.str cs),some (.str [c])]) rfl (by omega) (fun _=>rfl) (fun c h=>z1s (z1f rfl rfl (cS.mp (zdl O) c (hc c h)))) (fun _ _ _=>rfl)).trans rfl) rfl ((z7s O (b:=(cs.filter fun c=>!sgn c).isEmpty) (aG.mpr fun d hd=>?_) (y:=[]) rfl ?_).1)).trans ?_
  ·obtain ⟨c,h,rfl⟩:=aO.mp hd
   exact zlu (hc c (dg.mp h).1)
  ·cases (cs.filter fun c=>!sgn c) <;> simp
  ·congr 2
   rw [z5n]
   simp
def Odd (d:D):Prop:=(∃ w:List Nat,d=.str w/\(∀ c ∈ w,c ∈ A7)/\w.length <= 10) \/ (∃ xs,d=.tup xs) \/ d=.non \/ d=.int 0 \/ d=.bl true
def zc1 (n:Nat):D->Bool
 | .str w=>w.length == n && w.all sgn
 | _=>false
theorem zaw (n:Nat) {d:D} (h:Odd d) (O:Ow):z1H [.int (n:Nat),d] O=.ok (.bl (zc1 n d)) O:=by
 rcases h with ⟨w,rfl,hc,hl⟩|⟨xs,rfl⟩|rfl|rfl|rfl
 ·exact zdo hc hl O
 all_goals rfl
theorem zcQ {n:Nat} {d:D} (h:Odd d) (O:Ow):z1L [.int (n:Nat),d] O=.ok (.bl (zc1 n d)) O:=by
 rcases h with ⟨w,rfl,hc,hl⟩|⟨xs,rfl⟩|rfl|rfl|rfl
 ·exact zix hc hl O
 all_goals rfl
def ziq (l:List (List Nat)):Bool:=(aU (l.length - 1)).all fun k=>decide (l.getD k [] < l.getD (k + 1) [])
theorem zed {l:List (List Nat)} (hl:l.length < 10000) (O:Ow):z3C [.tup (l.map D.str)] O=.ok (.bl (ziq l)) O:=by
 have hi:zcl (z0T (z0U 0) (z0T (z8v (z0U 0) (z3k (dC (.int 1))) z3u) z0X)) [some (.tup (l.map D.str))] O=.ok (.zip (.val (l.map D.str)) (.val ((l.map D.str).drop 1))) O:=by
  show ((z0T (z0U 0) (z0T (z8v (z0U 0) (z3k (dC (.int 1))) z3u) z0X) _ O).bnd _)=_
  rw [z1a rfl (zkQ O (l.map D.str) [some (.tup (l.map D.str))] (by simp;omega) rfl)]
  rfl
 have hc:=z4D (o:=false) (ext:=2) (g:=.two 1 2) (ts:=[]) (te:=dOp zkK (z0U 1) (z0U 2)) (l:=aU (l.length - 1)) (inj:=fun k=>D.tup [.str (l.getD k []),.str (l.getD (k + 1) [])]) (p:=fun _=>true) (e:=fun k=>D.bl (decide (l.getD k [] < l.getD (k + 1) [])))
  (τ:=fun k=>[some (.tup (l.map D.str)),some (.str (l.getD k [])),some (.str (l.getD (k + 1) []))]) hi (fun i=>by
   rw [z51]
   show (match (l.map D.str)[i]?,((l.map D.str).drop 1)[i]? with|some x,some y=>some (D.tup [x,y])|_,_=>none)=_
   rw [List.getElem?_drop,bc,bc]
   by_cases hi:i < l.length - 1
   ·rw [if_pos hi,aw (by omega),show 1 + i=i + 1 from by omega,aw (by omega)]
    show some (D.tup [.str l[i],.str l[i + 1]])=_
    rw [aS,aS,aw (by omega),aw (by omega)];rfl
   ·rw [if_neg hi,show l[1 + i]?=none from aQ.mpr (by omega)]
    cases l[i]? <;> rfl) (by
   show min (l.map D.str).length ((l.map D.str).drop 1).length=_
   simp) (by rw [cR];omega) (fun k _=>rfl) (fun k _=>rfl) (fun k hk _=>rfl)
 rw [zdt] at hc
 show fin (z1v _ [some (.tup (l.map D.str))] O)=_
 rw [z1h ((z2c (z10 hc)).trans (z33 O _ _))]
 rfl
theorem mI:ziq l=true ↔ l.Pairwise (· < ·):=by
 constructor
 ·intro h
  have one:∀ k,k + 1 < l.length->l.getD k [] < l.getD (k + 1) []:=fun k hk=>by
   have:=aG.mp h k (bv.mpr (by omega))
   simpa using this
  have key:∀ d i,i + d + 1 < l.length->l.getD i [] < l.getD (i + d + 1) []:=by
   intro d
   induction d with
   | zero=>intro i hi;exact one i hi
   | succ d ih=>intro i hi;exact iG (ih i (by omega)) (one (i + d + 1) (by omega))
  refine iU.mpr fun i j hi hj hij=>?_
  have:=key (j - i - 1) i (by omega)
  rw [show i + (j - i - 1) + 1=j by omega,aS,aS,aw hi,aw hj] at this
  exact this
 ·intro hp
  unfold ziq
  rw [aG]
  intro k hk
  have hk:=bv.mp hk
  have:=iU.mp hp k (k + 1) (by omega) (by omega) (by omega)
  rw [aS,aS,aw (by omega),aw (by omega)]
  exact decide_eq_true this
theorem zgS {l:List (List Nat)}:ziq l=true ↔ l=z3K l:=by
 rw [mI]
 exact ⟨fun h=>(zdD h).symm,fun h=>by rw [h];exact z55 l⟩
def okT (n:Nat) (ds:List D):Bool:=ds.all (zc1 n) && ziq (ds.map z57)
theorem z6i {n:Nat} {ds:List D} (h:ds.all (zc1 n)=true):ds=(ds.map z57).map D.str/\∀ cs ∈ ds.map z57,cs ∈ z16 n:=by
 have key:∀ d ∈ ds,d=.str (z57 d)/\z57 d ∈ z16 n:=fun d hd=>by
  have:=aG.mp h d hd
  cases d with
  | str w=>
   have this:(w.length == n && w.all sgn)=true:=this
   rw [bh] at this
   exact ⟨rfl,z54 n w (by simpa using this.1) (aG.mp this.2)⟩
  | _=>cases this
 constructor
 ·rw [bK]
  conv=>lhs;rw [<- jw ds]
  exact dI fun d hd=>(key d hd).1
 ·intro cs hcs
  obtain ⟨d,hd,rfl⟩:=aO.mp hcs
  exact (key d hd).2
section
variable {n:Nat} (h1:1 <= n) (h4:n <= 4) {ds:List D} (hd:∀ d ∈ ds,Odd d) (hl:ds.length < 64) (O:Ow)
include hd hl
theorem z8G:z1k [.int (n:Nat),.tup ds] O=.ok (.bl (okT n ds)) O:=by
 show fin (z2q [some (.int (n:Nat)),some (.tup ds)] O)=_
 unfold z2q
 refine z1N (z3f (O1:=O) (z25 (b:=true) (z1w (b:=true) rfl)) (z1h (z6e (a:=ds.all (zc1 n)) (b:=ziq (ds.map z57)) (z1t (z10 ((z79 (l:=ds) (inj:=fun d=>d) (e:=fun d=>D.bl (zc1 n d)) (τ:=fun d=>[some (.int (n:Nat)),some (.tup ds),some d]) (by rw [kL];exact z4p rfl) (by omega) (fun _=>rfl) (fun d h=>z1d (z1a rfl rfl) (zaw n (hd d h) O))).trans rfl)) (z33 O ds (zc1 n))) fun ha=>z1d (z10 rfl) ?_)))
 have e:=(z6i ha).1
 have r:=zed (l:=ds.map z57) (by rw [az];omega) O
 rw [<- e] at r
 exact r
include h1 h4
theorem z9k:z1m [.int (n:Nat),.tup ds] O=.ok (.bl (okT n ds)) O:=by
 have hc:=z1t (f:=z9L) (z10 ((z79 (o:=false) (ext:=1) (i:=2) (σ:=[some (.int (n:Nat)),some (.tup ds)]) (it0:=dIt (z0U 1)) (O0:=O) (O:=O) (te:=dFn 2 z1L (z0T (z0U 0) (z0T (z0U 2) z0X))) (l:=ds) (inj:=fun d=>d) (e:=fun d=>D.bl (zc1 n d)) (τ:=fun d=>[some (.int (n:Nat)),some (.tup ds),some d]) (by rw [kL];exact z4p rfl) (by omega) (fun _=>rfl) (fun d h=>z1d (z1a rfl rfl) (zcQ (hd d h) O))).trans rfl)) (z33 O ds (zc1 n))
 show fin (z2G [some (.int (n:Nat)),some (.tup ds)] O)=_
 unfold z2G okT
 cases ha:ds.all (zc1 n) with
 | false=>
  rw [ha] at hc
  exact z1N (z9q (O1:=O) (za8 (a:=false) (b:=true) (z25 (b:=true) (z1w (b:=true) rfl)) fun _=>z25 (b:=false) (z1w hc)) rfl)
 | true=>
  rw [ha] at hc
  obtain ⟨e,ht⟩:=z6i ha
  refine z1N (z3f (O1:=O) (za8 (a:=false) (b:=false) (z25 (b:=true) (z1w (b:=true) rfl)) fun _=>z25 (b:=true) (z1w hc)) (z1h (z1f (x:=.lst ds) (z1t (z10 rfl) rfl) (zci (l:=ds.map z57) (x:=.tup ds) (z10 rfl) (.inr (congrArg D.tup e)) (by rw [az];exact hl)) ?_)))
  have q:=(z7s O (b:=ziq (ds.map z57)) (x:=(ds.map z57).map .str) (y:=(z3K (ds.map z57)).map .str) (z4c h1 h4 ht) (z4c h1 h4 fun cs hcs=>ht cs ((z3G _).mp hcs)) (by
   rw [zgS]
   constructor
   ·intro h;exact congrArg (lr D.str) h
   ·intro h;exact (List.map_inj_right fun a b h=>by injection h).mp h)).1
  rw [<- e] at q
  exact q
end
theorem z7t {tA:DA} {σ:Sg} {O O1:Ow} {ds:List D} (h:tA σ O=.ok ds O1) (hl:ds.length <= 100000):z3T tA σ O=.ok (.tup ds) O1:=by
 show ((tA σ O).bnd _)=_
 rw [h]
 show (if ds.length <= 100000 then _ else _)=_
 rw [if_pos hl]
theorem zdM (h:tA σ O=.ok ds O1) (hl:ds.length <= 100000):z2J tA σ O=.ok (.lst ds) O1:=by
 show ((tA σ O).bnd _)=_
 rw [h]
 show (if ds.length <= 100000 then _ else _)=_
 rw [if_pos hl]
theorem z6O {α:Type} {src:Src} {step:D->Ow->List D->R (List D)} {O:Ow} {inj:α->D} {g:α->List D} {l:List α} {acc:List D} (hg:∀ i,src.get O i=(l.map inj)[i]?) (hs:∀ (i:Nat) a,l[i]?=some a->step (inj a) O (acc ++ (l.take i).flatMap g)=.ok (acc ++ (l.take (i + 1)).flatMap g) O):
  ∀ (f i:Nat),i <= l.length->l.length <= i + f->z1p src step f i O (acc ++ (l.take i).flatMap g)=.ok (acc ++ l.flatMap g) O
 | 0,i,h1,h2=>by
  have:i=l.length:=by omega
  subst this
  have e:src.get O l.length=none:=by rw [hg];simp
  unfold z1p
  rw [e,dO]
 | f + 1,i,h1,h2=>by
  by_cases hi:i=l.length
  ·subst hi
   have e:src.get O l.length=none:=by rw [hg];simp
   unfold z1p
   rw [e,dO]
  ·have hlt:i < l.length:=by omega
   have e:src.get O i=some (inj l[i]):=by rw [hg,bc,aw hlt];rfl
   unfold z1p
   rw [e]
   show ((step (inj l[i]) O (acc ++ (l.take i).flatMap g)).bnd _)=_
   rw [hs i l[i] (aw hlt)]
   exact z6O hg hs f (i + 1) (by omega) (by omega)
theorem z4J {α β:Type} {g:α->List β} {l:List α} {i:Nat} {a:α} (h:l[i]?=some a):(l.take (i + 1)).flatMap g=(l.take i).flatMap g ++ g a:=by
 rw [fU,h,g8];simp
theorem z9d {α β:Type} {g:α->List β} (l:List α) (i:Nat):((l.take i).flatMap g).length <= (l.flatMap g).length:=by
 conv=>rhs;rw [<- jJ i l]
 rw [g8,aE];omega
theorem z4a {α β:Type} {f g:α->List β}:∀ {l:List α},(∀ a ∈ l,f a=g a)->l.flatMap f=l.flatMap g
 | [],_=>rfl
 | x :: l,h=>by rw [cn,cn,h x aH,z4a fun a ha=>h a (au _ ha)]
theorem z2r {α β:Type} {g:α->List β} {k:Nat}:∀ l:List α,(∀ a ∈ l,(g a).length <= k)->(l.flatMap g).length <= l.length * k
 | [],_=>by simp
 | x :: l,h=>by
  rw [cn,aE,bX,Nat.succ_mul]
  have:=h x aH
  have:=z2r l fun a ha=>h a (au _ ha)
  omega
def pr (q:Nat × Nat):D:=.tup [.int (q.1:Nat),.int (q.2:Nat)]
theorem zmd (q:Nat × Nat):pl 7 (pr q)=true:=rfl
theorem zje (l:List (Nat × Nat)):(l.map pr).all (pl 7)=true:=aG.mpr fun d hd=>by
 obtain ⟨q,_,rfl⟩:=aO.mp hd;rfl
theorem ziY (h:pr a=pr b):a=b:=by
 unfold pr at h
 injection h with h
 injection h with h1 h2
 injection h2 with h2 _
 injection h1 with h1
 injection h2 with h2
 exact jN (by omega) (by omega)
theorem z8T:(mx.all fun cs=>!(pts cs).isEmpty)=true:=by decide +kernel
theorem zeF (h1:1 <= n) (h4:n <= 4) (ha:a ∈ z16 n):(pts a).isEmpty=false:=by
 have:=aG.mp z8T a (z2O h1 h4 ha)
 simpa using this
theorem zdN (hf:Fn n f) (O:Ow):z2t [.tup f,.int 1] O=.ok (.lst (((aU (2 ^ n)).filter fun p=>isO (f.getD p .non)).map fun (p:Nat)=>D.int (p:Int))) O:=by
 have hpw:=z3z hf.n4
 have hi:z7l (z0T (z0U 0) z0X) [some (.tup f),some (.int 1)] O=.ok (.val (z5l f)) O:=rfl
 have hc:=z4D (o:=false) (ext:=2) (g:=.two 2 3) (ts:=[(z1W (dOp (fPy eqF) (z0U 3) (z0U 1)))]) (te:=z0U 2) (l:=aU (2 ^ n)) (inj:=fun (p:Nat)=>D.tup [.int (p:Int),f.getD p .non]) (p:=fun p=>isO (f.getD p .non)) (e:=fun (p:Nat)=>D.int (p:Int))
  (τ:=fun (p:Nat)=>[some (.tup f),some (.int 1),some (.int (p:Int)),some (f.getD p .non)]) hi (fun i=>by
   rw [z51]
   show (z5l f)[i]?=_
   rw [z6X]
   by_cases hi:i < 2 ^ n
   ·have hif:i < f.length:=by rw [hf.len];exact hi
    rw [if_pos hi,aw hif]
    show some (D.tup [.int (i:Nat),f[i]])=_
    rw [z41 hif]
   ·rw [if_neg hi,aQ.mpr (by rw [hf.len];omega)];rfl) (by
   show (z5l f).length=_
   unfold z5l;simp [hf.len]) (by rw [cR];omega) (fun k _=>rfl) (fun p hp=>z8i (by
   have hp:=bv.mp hp
   have hA:Ans (f.getD p .non):=by
    rw [z41 (by rw [hf.len];exact hp)]
    exact hf.ans _ (bG _)
   exact z1s ((z1g rfl rfl).trans (eq1 O hA)))) (fun p _ _=>rfl)
 show fin (z1v _ [some (.tup f),some (.int 1)] O)=_
 rw [z1h (hc.trans rfl)];rfl
theorem zae {n:Nat} {f:List D} (hf:Fn n f) (O:Ow):z2t [.tup f,.int 1] O=.ok (.lst (z29 (zaQ f))) O:=by
 rw [zdN hf O]
 unfold zaQ z29
 rw [hf.len]
def Ask (d:D):Prop:=(∃ ds,d=.tup ds/\(∀ x ∈ ds,Odd x)/\ds.length < 64) \/ (∃ xs,d=.lst xs) \/ d=.non \/ d=.dct \/ ∃ w,d=.str w
theorem zk1 {α β:Type} {ext:Nat} {it0 it1:DI} {g:Tg} {j:Nat} {ts:List DT} {te:DE} {σ:Sg} {O O0:Ow} {src:Src} {l:List α} {inj:α->D} {m:α->List β} {inj2:β->D} {p:α->β->Bool} {e:α->β->D} {τ:α->Sg} {τ2:α->β->Sg} {o:Bool}
  (hi:it0 σ O0=.ok src O) (hg:∀ i,src.get O i=(l.map inj)[i]?) (hsz:src.size O=l.length) (hlen:(l.flatMap m).length < 50000)
  (hτ:∀ a ∈ l,g.put (inj a) (clr (clr (σ ++ aq ext none) (g.slots ++ [j])) (g.slots ++ [j]))=some (τ a)) (hτ2:∀ a b,(clr (τ a) [j]).set j (some (inj2 b))=τ2 a b)
  (h1:∀ a ∈ l,it1 (τ a) O=.ok (.val ((m a).map inj2)) O) (hp:∀ a ∈ l,∀ b ∈ m a,z7r ts (τ2 a b) O=.ok (p a b) O) (he:∀ a ∈ l,∀ b ∈ m a,te (τ2 a b) O=.ok (e a b) O):
  z1i o ext it0 g [] [⟨it1,.one j,ts⟩] te σ O0=z8L o (.ok (l.flatMap fun a=>((m a).filter (p a)).map (e a)) O):=by
 unfold z1i z3M
 rw [hi]
 show z8L o (noX (z1p src _ (src.size O) 0 O []))=_
 have fl:∀ (a:α) (k:List β),(k.flatMap fun b=>if p a b=true then [e a b] else []).length <= k.length:=fun a k=>by
  rw [z2S,az];exact cm _ _
 have fa:∀ k:List α,(k.flatMap fun a=>((m a).filter (p a)).map (e a)).length <= (k.flatMap m).length:=fun k=>by
  induction k with
  | nil=>simp
  | cons x k ih=>
   rw [cn,cn,aE,aE,az]
   have:=cm (p x) (m x)
   omega
 have w:=z6O (O:=O) (src:=src) (step:=z4B ⟨it0,g,[]⟩ [⟨it1,.one j,ts⟩] te (clr (σ ++ aq ext none) (z12 [⟨it0,g,[]⟩,⟨it1,.one j,ts⟩]))) (g:=fun a=>((m a).filter (p a)).map (e a)) (acc:=[]) hg (fun k a ha=>by
  have hm:=aW ha
  show (match g.put (inj a) (clr (clr (σ ++ aq ext none) (g.slots ++ [j])) (g.slots ++ [j])) with|some σ1=>(z7r [] σ1 O).bnd fun b O3=>if b=true then z3a [⟨it1,.one j,ts⟩] te σ1 O3 _ else .ok _ O3|none=>.bad)=_
  rw [hτ a hm]
  show z3a [⟨it1,.one j,ts⟩] te (τ a) O _=_
  unfold z3a
  show ((it1 (τ a) O).bnd _)=_
  rw [h1 a hm]
  show z1p (.val ((m a).map inj2)) _ ((m a).map inj2).length 0 O _=_
  have hle:=z9d (g:=m) l (k + 1)
  rw [z4J ha,aE] at hle
  have hk:=fa (l.take k)
  rw [z4J ha]
  have w2:=z6O (O:=O) (src:=.val ((m a).map inj2)) (step:=fun d O2 acc=>match Tg.put (.one j) d (clr (τ a) (z12 [⟨it1,.one j,ts⟩])) with|some σ1=>(z7r ts σ1 O2).bnd fun b O3=>if b=true then z3a [] te σ1 O3 acc else .ok acc O3|none=>.bad) (g:=fun b=>if p a b=true then [e a b] else []) (l:=m a) (inj:=inj2) (acc:=[] ++ (l.take k).flatMap fun a=>((m a).filter (p a)).map (e a)) (fun _=>rfl) (fun q b hb=>by
   have hbm:=aW hb
   show ((z7r ts ((clr (τ a) [j]).set j (some (inj2 b))) O).bnd fun b' O3=>if b'=true then z3a [] te ((clr (τ a) [j]).set j (some (inj2 b))) O3 _ else .ok _ O3)=_
   rw [hτ2,hp a hm b hbm,z4J hb]
   show (if p a b=true then z3a [] te (τ2 a b) O _ else .ok _ O)=_
   have hq:=fl a ((m a).take q)
   have hq2:=gU q (m a)
   by_cases hpb:p a b=true
   ·rw [if_pos hpb,if_pos hpb]
    unfold z3a
    rw [he a hm b hbm]
    show (if _ < 100000 then _ else _)=_
    rw [if_pos (by rw [cG,aE];omega)]
    simp
   ·rw [if_neg hpb,if_neg hpb,dh]) ((m a).map inj2).length 0 (bW _) (by simp)
  rw [lI,lu,dh,z2S] at w2
  refine Eq.trans (show _=_ from w2) ?_
  rw [cG];rfl) l.length 0 (bW _) (by simp)
 rw [lI,lu,dh,cG] at w
 rw [hsz,w];rfl
theorem zgs {α β:Type} {ext:Nat} {it0 it1:DI} {g:Tg} {j:Nat} {te:DE} {σ:Sg} {O O0:Ow} {src:Src} {l:List α} {inj:α->D} {m:α->List β} {inj2:β->D} {e:α->β->D} {τ:α->Sg} {τ2:α->β->Sg} {o:Bool}
  (hi:it0 σ O0=.ok src O) (hg:∀ i,src.get O i=(l.map inj)[i]?) (hsz:src.size O=l.length) (hlen:(l.flatMap m).length < 50000)
  (hτ:∀ a ∈ l,g.put (inj a) (clr (clr (σ ++ aq ext none) (g.slots ++ [j])) (g.slots ++ [j]))=some (τ a)) (hτ2:∀ a b,(clr (τ a) [j]).set j (some (inj2 b))=τ2 a b)
  (h1:∀ a ∈ l,it1 (τ a) O=.ok (.val ((m a).map inj2)) O) (he:∀ a ∈ l,∀ b ∈ m a,te (τ2 a b) O=.ok (e a b) O):
  z1i o ext it0 g [] [⟨it1,.one j,[]⟩] te σ O0=z8L o (.ok (l.flatMap fun a=>(m a).map (e a)) O):=by
 rw [zk1 (ts:=[]) (p:=fun _ _=>true) hi hg hsz hlen hτ hτ2 h1 (fun _ _ _ _=>rfl) he]
 congr 2
 exact z4a fun a _=>by rw [z4v]
def thg (fs:List (List D)):List (Nat × Nat):=(aU fs.length).flatMap fun k=>(zaQ (fs.getD k [])).map fun p=>(k,p)
def hld (fs:List (List D)) (t:List Nat):List (Nat × Nat):=(z1b fs t).flatMap fun k=>(pts t).map fun p=>(k,p)
section
variable {n:Nat} {fs:List (List D)} (hf:Tog n fs)
include hf
theorem z95 {k:Nat} (hk:k < fs.length):Fn n (fs.getD k []):=by rw [z5t hk];exact hf.fn _ (bG hk)
theorem zjj {k:Nat} (hk:k < fs.length):(fs.map D.tup).getD k .non=.tup (fs.getD k []):=by rw [z41 (by simpa using hk),eL,z5t hk]
theorem zkO (hk:k < fs.length) (O:Ow):fIx O (.tup (fs.map .tup)) (.int (k:Int))=.ok (.tup (fs.getD k [])) O:=by
 rw [z5g (i:=k) (by simpa using hk),eL,z5t hk]
theorem ze4:(thg fs).length <= 48:=by
 have h1:=z2r (g:=fun k=>(zaQ (fs.getD k [])).map fun p=>(k,p)) (k:=16) (aU fs.length) fun k hk=>by rw [az];exact z62 (z95 hf (bv.mp hk))
 have h2:=hf.l3
 rw [cR] at h1
 unfold thg
 omega
theorem zgA:q ∈ thg fs ↔ q.1 < fs.length/\q.2 ∈ zaQ (fs.getD q.1 []):=by
 unfold thg
 rw [eM]
 constructor
 ·rintro ⟨k,hk,h⟩
  obtain ⟨p,hp,rfl⟩:=aO.mp h
  exact ⟨bv.mp hk,hp⟩
 ·rintro ⟨h1,h2⟩
  exact ⟨q.1,bv.mpr h1,aO.mpr ⟨q.2,h2,rfl⟩⟩
omit hf in
theorem zhS:q ∈ hld fs t ↔ q.1 ∈ z1b fs t/\q.2 ∈ pts t:=by
 unfold hld
 rw [eM]
 constructor
 ·rintro ⟨k,hk,h⟩
  obtain ⟨p,hp,rfl⟩:=aO.mp h
  exact ⟨hk,hp⟩
 ·rintro ⟨h1,h2⟩
  exact ⟨q.1,h1,aO.mpr ⟨q.2,h2,rfl⟩⟩
theorem zih (ht:t ∈ z16 n):(hld fs t).isEmpty=(z1b fs t).isEmpty:=by
 have hp:=zeF hf.n1 hf.n4 ht
 unfold hld
 cases z1b fs t with
 | nil=>rfl
 | cons k r=>
  rw [cn]
  cases e:pts t with
  | nil=>rw [e] at hp;cases hp
  | cons p q=>rfl
theorem zdH (O:Ow):z2V [.tup (fs.map .tup)] O=.ok (.lst ((thg fs).map pr)) O:=by
 have hl:=hf.l3
 let A:Option D:=some (.tup (fs.map .tup))
 show fin (z3D [A] O)=_
 unfold z3D
 refine z9a ((zgs (g:=.two 1 2) (o:=false) (O:=O) (src:=.val (z5l (fs.map .tup))) (l:=aU fs.length) (inj:=fun k=>D.tup [.int (k:Nat),(fs.map D.tup).getD k .non]) (m:=fun k=>zaQ (fs.getD k [])) (inj2:=fun (p:Nat)=>D.int (p:Int)) (e:=fun k p=>pr (k,p)) (τ:=fun (k:Nat)=>[A,some (.int (k:Int)),some ((fs.map D.tup).getD k .non),none]) (τ2:=fun (k p:Nat)=>[A,some (.int (k:Int)),some ((fs.map D.tup).getD k .non),some (.int (p:Int))]) (by rfl) (fun i=>by rw [z60,az];rfl) (by rw [z60];simp [Src.size]) ?_ (fun _ _=>rfl) (fun _ _=>rfl) (fun k hk=>?_) (fun _ _ _ _=>z7t (z1a rfl rfl) (by show 2 <= 100000;decide))).trans ?_)
 ·have:=ze4 hf
  unfold thg at this
  have h2:=z2r (g:=fun k=>zaQ (fs.getD k [])) (k:=16) (aU fs.length) fun k hk=>z62 (z95 hf (bv.mp hk))
  rw [cR] at h2
  omega
 ·have hk:=bv.mp hk
  refine z2T (z1d (z1a rfl rfl) ?_)
  rw [zjj hf hk]
  exact zae (z95 hf hk) O
 ·show R.ok (D.lst _) O=_
  congr 2
  unfold thg
  rw [lv]
  exact z4a fun k _=>by rw [bK];rfl
theorem zhm {t:List Nat} (ht:t ∈ z16 n) (O:Ow):z3s [.tup (fs.map .tup),.str t] O=.ok (.lst ((hld fs t).map pr)) O:=by
 let A:Option D:=some (.tup (fs.map .tup))
 show fin (z4V [A,some (.str t)] O)=_
 unfold z4V
 refine z9a ((zgs (g:=.one 2) (o:=false) (O:=O) (src:=.val (z29 (z1b fs t))) (l:=z1b fs t) (inj:=fun (k:Nat)=>D.int (k:Int)) (m:=fun _=>pts t) (inj2:=fun (p:Nat)=>D.int (p:Int)) (e:=fun k p=>pr (k,p)) (τ:=fun (k:Nat)=>[A,some (.str t),some (.int (k:Int)),none]) (τ2:=fun (k p:Nat)=>[A,some (.str t),some (.int (k:Int)),some (.int (p:Int))]) (z2T (z1d (z1a rfl rfl) (zbr hf ht O))) (fun _=>rfl) (by show (z29 (z1b fs t)).length=_;unfold z29;rw [az]) ?_ (fun _ _=>rfl) (fun _ _=>rfl) (fun k hk=>z2T (z1d (z10 rfl) (z5G (z2O hf.n1 hf.n4 ht) O))) (fun _ _ _ _=>z7t (z1a rfl rfl) (by show 2 <= 100000;decide))).trans ?_)
 ·have h2:=z2r (g:=fun _=>pts t) (k:=16) (z1b fs t) fun k _=>zcJ (z2O hf.n1 hf.n4 ht)
  have:=z6W hf t
  omega
 ·show R.ok (D.lst _) O=_
  congr 2
  unfold hld
  rw [lv]
  exact z4a fun k _=>by rw [bK];rfl
theorem z8o {O:Ow} (hO:z4z O):z2n [.tup (fs.map .tup)] O=.ok (.lst ((thg fs).map pr)) O:=by
 have hl:=hf.l3
 let A:Option D:=some (.tup (fs.map .tup))
 let G:Nat->List (Nat × Nat):=fun k=>(zaQ (fs.getD k [])).map fun p=>(k,p)
 show zb7 O.length (fin (z2M [A,none,none] O))=_
 obtain ⟨σ',O',l1,y2,rfl,rfl⟩:=z8x (i:=2) (it:=z31 (z0T (z17 z38 (z0T (z0U 0) z0X)) z0X)) (body:=(z35 (zfv (z0U 1) (z0T (z1i false 1 (dIt (dFn 1 z2Y (z0T (dOp fIx (z0U 0) (z0U 2)) z0X))) (.one 3) [] [] (z3T (z0T (z0U 2) (z0T (z0U 3) z0X)))) z0X)))) (σ:=[A,some (.own O.length),none]) (O0:=O ++ [[]]) (O:=O ++ [[]]) (l:=aU fs.length) (inj:=fun (k:Nat)=>D.int (k:Int)) (z2z (z10 (z1t (z10 rfl) ((z4W _ _).trans (by rw [az])))) (by omega))
  (fun j σ O'=>∃ y2,σ=[A,some (.own O.length),y2]/\O'=O ++ [(((aU fs.length).take j).flatMap G).map pr]) (fun j k σ O' hk hI=>by
   obtain ⟨y2,rfl,rfl⟩:=hI
   obtain ⟨rfl,hlt⟩:=zcc hk
   have hj:=z2r (g:=G) (k:=16) ((aU fs.length).take k) fun a ha=>by
    show (lr _ _).length <= _
    rw [az];exact z62 (z95 hf (bv.mp (jX ha)))
   have hj2:=g7 k (aU fs.length)
   have ho:=z62 (z95 hf hlt)
   refine ⟨[A,some (.own O.length),some (.int (k:Int))],_,zaC (y:=.lst ((G k).map pr)) (es:=(G k).map pr) (ds:=(((aU fs.length).take k).flatMap G).map pr) rfl ((z79 (l:=zaQ (fs.getD k [])) (inj:=fun (p:Nat)=>D.int (p:Int)) (e:=fun p=>pr (k,p)) (τ:=fun (p:Nat)=>[A,some (.own O.length),some (.int (k:Int)),some (.int (p:Int))]) (z2T (z1d (z10 (z1f rfl rfl (zkO hf hlt _))) (zhe (z95 hf hlt) _))) (by omega) (fun _=>rfl) (fun p _=>z7t (z1a rfl rfl) (by show 2 <= 100000;decide))).trans ?_) rfl z2D ?_,_,rfl,?_⟩
   ·show R.ok (D.lst _) _=_
    congr 2
    rw [bK];rfl
   ·rw [az,az]
    show _ + (lr _ _).length <= _
    rw [az]
    have:k < 3:=by omega
    omega
   ·rw [z52,z4J hk,cW]) ⟨none,rfl,by simp⟩
 rw [dO] at l1
 have hB:z2M [A,none,none] O=.rt (.own O.length) (O ++ [(thg fs).map pr]):=by
  unfold z2M
  exact z1z (x:=.own O.length) (O1:=O ++ [[]]) rfl (z3n l1 (z1h rfl))
 rw [z1N hB]
 refine z6B hO _ ?_
 unfold frz
 dsimp only
 rw [if_neg (bE _),z2D]
 dsimp only
 rw [z2w fun d hd=>?_]
 ·rfl
 ·obtain ⟨q,_,rfl⟩:=aO.mp hd
  exact z7J fun d hd=>by
   simp only [av,aM,or_false] at hd
   rcases hd with rfl|rfl <;> rfl
end
def shB (fs:List (List D)) (l:List (List Nat)):Bool:=(l.all fun t=>!(z1b fs t).isEmpty) && (thg fs).all fun q=>l.any fun t=>(hld fs t).contains q
theorem zjL (O:Ow) (l:List (List (Nat × Nat))):fIn O (.lst []) (.lst (l.map fun s=>.lst (s.map pr)))=.ok (.bl (l.any fun s=>s.isEmpty)) O:=
 (zh5 O (l:=l.map fun s=>.lst (s.map pr)) (b:=l.any fun s=>s.isEmpty) rfl (aG.mpr fun d hd=>by
  obtain ⟨s,_,rfl⟩:=aO.mp hd
  show (s.map pr).all (pl 6)=true
  exact aG.mpr fun d hd=>by obtain ⟨q,_,rfl⟩:=aO.mp hd;rfl) (.inl rfl) (by
  rw [dM,aO]
  constructor
  ·rintro ⟨s,h1,h2⟩
   exact ⟨s,h1,by rw [jb] at h2;rw [h2];rfl⟩
  ·rintro ⟨s,h1,h2⟩
   refine ⟨s,h1,?_⟩
   injection h2 with h2
   cases s with
   | nil=>rfl
   | cons _ _=>cases h2)).1
theorem zmc (O:Ow) (q:Nat × Nat) (s:List (Nat × Nat)):fIn O (pr q) (.lst (s.map pr))=.ok (.bl (s.contains q)) O:=
 (zh5 O (l:=s.map pr) (b:=s.contains q) (zmd q) (zje s) (.inl rfl) (by
  rw [bV,aO]
  constructor
  ·intro h;exact ⟨q,h,rfl⟩
  ·rintro ⟨r,h,e⟩
   rw [<- ziY e];exact h)).1
section
variable {n:Nat} {fs:List (List D)} (hf:Tog n fs) {l:List (List Nat)} (ht:∀ t ∈ l,t ∈ z16 n) (hlen:l.length < 64) (O:Ow)
include hf
theorem zba:z20 [.tup (fs.map .tup)] O=.ok .non O:=by
 show fin (z2p [some (.tup (fs.map .tup))] O)=_
 unfold z2p
 rw [z2b (b:=false) (O1:=O) (z25 (b:=true) (z1w (z1d (z10 rfl) (zao hf O))))];rfl
include ht hlen
theorem za9 (hr:z1k [.int (n:Nat),.tup (l.map .str)] O=.ok (.bl true) O):z1B [.tup (fs.map .tup),.tup (l.map .str)] O=.ok (.bl (shB fs l)) O:=by
 let A:Option D:=some (.tup (fs.map .tup))
 let L:Option D:=some (.tup (l.map .str))
 let Hs:List (List (Nat × Nat)):=l.map (hld fs)
 let Z:D:=.lst (Hs.map fun s=>.lst (s.map pr))
 obtain ⟨f,h1,h2⟩:=z4b hf O
 have htf:=ze4 hf
 have hany:(Hs.any fun s=>s.isEmpty) = !(l.all fun t=>!(z1b fs t).isEmpty):=by
  show ((l.map (hld fs)).any _)=_
  rw [kH,jg,kM]
  rw [cV,dM,dM]
  refine exists_congr fun t=>and_congr_right fun h=>?_
  show (hld fs t).isEmpty=true ↔ (!!(z1b fs t).isEmpty)=true
  rw [zih hf (ht t h),kM]
 have e2:z1i false 1 (dIt (z0U 1)) (.one 3) [] [] (dFn 2 z3s (z0T (z0U 0) (z0T (z0U 3) z0X))) [A,L,none] O=.ok Z O:=by
  refine (z79 (l:=l) (inj:=D.str) (e:=fun t=>.lst ((hld fs t).map pr)) (τ:=fun t=>[A,L,none,some (.str t)]) (z4p rfl) (by omega) (fun _=>rfl) (fun t h=>z1d (z1a rfl rfl) (zhm hf (ht t h) O))).trans ?_
  show R.ok (D.lst _) O=R.ok (D.lst ((l.map (hld fs)).map _)) O
  rw [bK];rfl
 have e3:z1W (dOp fIn (z2J z0X) (z0U 2)) [A,L,some Z] O=.ok (!(l.all fun t=>!(z1b fs t).isEmpty)) O:=by
  rw [<- hany]
  exact z1s (z1f rfl rfl (zjL O Hs))
 show fin (z2U [A,L,none] O)=_
 unfold z2U shB
 refine z1N (zcb (z1d (z10 rfl) (zba hf O)) (z3f (O1:=O) (z25 (b:=true) (z1w (z1d (z1a (z1d (z10 (z1f rfl rfl h2)) (z3E h1 O)) rfl) hr))) (z1z (x:=Z) (O1:=O) e2 ?_)))
 cases hg:(l.all fun t=>!(z1b fs t).isEmpty) with
 | false=>
  rw [hg] at e3
  exact z9q e3 rfl
 | true=>
  rw [hg] at e3
  refine z3f e3 (z1h (z1t (z10 ((z79 (l:=thg fs) (inj:=pr) (e:=fun q=>D.bl (l.any fun t=>(hld fs t).contains q)) (τ:=fun q=>[A,L,some Z,some (pr q)]) (z2T (z1d (z10 rfl) (zdH hf O))) (by omega) (fun _=>rfl) (fun q _=>?_)).trans rfl)) (z33 O (thg fs) fun q=>l.any fun t=>(hld fs t).contains q)))
  refine z1t (z10 ((z79 (l:=Hs) (inj:=fun s=>.lst (s.map pr)) (e:=fun s=>D.bl (s.contains q)) (τ:=fun s=>[A,L,some Z,some (pr q),some (.lst (s.map pr))]) (z2T rfl) (by show (l.map _).length < _;rw [az];omega) (fun _=>rfl) (fun s _=>z1f rfl rfl (zmc O q s))).trans rfl)) ((zfP O Hs fun s=>s.contains q).trans ?_)
  congr 2
  show (l.map _).any _=_
  rw [kH];rfl
theorem z7q (hO:z4z O) (ha:z1m [.int (n:Nat),.tup (l.map .str)] O=.ok (.bl true) O):z1c [.tup (fs.map .tup),.tup (l.map .str)] O=.ok (.bl (shB fs l)) O:=by
 have h1:=hf.n1
 have h4:=hf.n4
 obtain ⟨f,f1,f2⟩:=z4b hf O
 let A:Option D:=some (.tup (fs.map .tup))
 let T:Option D:=some (.tup (l.map .str))
 show fin (z1I [A,T,none] O)=_
 unfold z1I shB
 have hthing:∀ q ∈ thg fs,∀ t ∈ l,z1A [.tup (fs.map .tup),.str t,pr q] O=.ok (.bl ((hld fs t).contains q)) O:=fun q hq t h=>by
  obtain ⟨q1,q2⟩:=(zgA hf).mp hq
  show fin (z1S [A,some (.str t),some (pr q)] O)=_
  unfold z1S
  refine z9a ((z6e (a:=z8n (fs.getD q.1 []) t) (b:=(pts t).contains q.2) (z1d (z1a (z1f rfl (z1f (x:=pr q) rfl rfl rfl) (zkO hf q1 O)) rfl) (z6c (z95 hf q1) (ht t h) O)) fun _=>z1d (z1a rfl (z1f (x:=pr q) rfl rfl rfl)) (z5C (z2O h1 h4 (ht t h)) (by rw [z1X h1 h4 (ht t h),<- (z95 hf q1).len];exact (mQ.mp q2).1) O)).trans ?_)
  congr 2
  rw [cV,bh,bV,bV,zhS]
  unfold z1b
  rw [dg,bv]
  exact ⟨fun ⟨a,b⟩=>⟨⟨q1,a⟩,b⟩,fun ⟨⟨_,a⟩,b⟩=>⟨a,b⟩⟩
 obtain ⟨y',hfor⟩:=ziu (l:=thg fs) (inj:=pr) (i:=2) (it:=dIt (dFn 1 z2n (z0T (z0U 0) z0X))) (body:=(sIf (z1W (dOp (fPy eqF) (z1i false 1 (dIt (z0U 1)) (.one 3) [(z37 (dFn 3 z1A (z0T (z0U 0) (z0T (z0U 3) (z0T (z0U 2) z0X)))))] [] (z0U 3)) (z2J z0X))) (z1v (dC (.bl false))) z2j)) (τ:=fun y=>[A,T,y]) (O:=O) (q:=fun q=>l.any fun t=>(hld fs t).contains q) (d:=.bl false) (y:=none) (z2T (z1d (z10 rfl) (z8o hf hO))) (fun _ _=>rfl) (fun q hq=>by
  rw [z2b (b:=(l.filter fun t=>(hld fs t).contains q).isEmpty) (O1:=O) (z1s ((z1f ((z9W (l:=l) (inj:=D.str) (p:=fun t=>(hld fs t).contains q) (e:=D.str) (τ:=fun t=>[A,T,some (pr q),some (.str t)]) (z4p rfl) (by omega) (fun _=>rfl) (fun t h=>z1w (z1d (z1T rfl (z1a rfl rfl)) (hthing q hq t h))) (fun _ _ _=>rfl)).trans rfl) rfl (ziG O h1 h4 fun c hc=>ht c (dg.mp hc).1))))]
  rw [z5n,jg]
  simp only [kM]
  cases (l.any fun t=>(hld fs t).contains q) <;> rfl)
 have e1:z2W (z37 (dFn 2 z1m (z0T (dFn 1 z1j (z0T (dOp fIx (z0U 0) (dC (.int 0))) z0X)) (z0T (z0U 1) z0X)))) [A,T,none] O=.ok false O:=z25 (b:=true) (z1w (z1d (z1a (z1d (z10 (z1f rfl rfl f2)) (z2o f1 O)) rfl) ha))
 have e2:z1W (dOp (fPy neF) (z1i false 1 (dIt (z0U 1)) (.one 3) [(z1W (dOp (fPy eqF) (dFn 2 z1u (z0T (z0U 0) (z0T (z0U 3) z0X))) (z2J z0X)))] [] (z0U 3)) (z2J z0X)) [A,T,none] O=.ok (!(l.all fun t=>!(z1b fs t).isEmpty)) O:=by
  refine z1s ((z1f ((z9W (l:=l) (inj:=D.str) (p:=fun t=>(z1b fs t).isEmpty) (e:=D.str) (τ:=fun t=>[A,T,none,some (.str t)]) (z4p rfl) (by omega) (fun _=>rfl) (fun t h=>z1s (z1f (z1d (z1a rfl rfl) (z3X hf (ht t h) O)) rfl (zcd O _))) (fun _ _ _=>rfl)).trans rfl) rfl (zhC O h1 h4 fun c hc=>ht c (dg.mp hc).1)).trans ?_)
  rw [z5n]
 cases hg:(l.all fun t=>!(z1b fs t).isEmpty) with
 | false=>
  rw [hg] at e2
  exact z1N (z3f e1 (z9q e2 rfl))
 | true=>
  rw [hg] at e2
  cases hF:((thg fs).all fun q=>l.any fun t=>(hld fs t).contains q) with
  | true=>
   rw [hF,if_pos rfl] at hfor
   exact z1N (z3f e1 (z3f e2 (z3n hfor (z1h rfl))))
  | false=>
   rw [hF] at hfor
   exact z1N (z3f e1 (z3f e2 (z5j hfor)))
end
theorem z9m (hf:Tog n fs) (h:Ask d) (hO:z4z O):∃ b,z1B [.tup (fs.map .tup),d] O=.ok (.bl b) O/\z1c [.tup (fs.map .tup),d] O=.ok (.bl b) O:=by
 obtain ⟨f,f1,f2⟩:=z4b hf O
 have no:∀ d,z1k [.int (n:Nat),d] O=.ok (.bl false) O->z1m [.int (n:Nat),d] O=.ok (.bl false) O->∃ b,z1B [.tup (fs.map .tup),d] O=.ok (.bl b) O/\z1c [.tup (fs.map .tup),d] O=.ok (.bl b) O:=fun d q1 q2=>by
  refine ⟨false,?_,?_⟩
  ·show fin (z2U [some (.tup (fs.map .tup)),some d,none] O)=_
   unfold z2U
   exact z1N (zcb (z1d (z10 rfl) (zba hf O)) (z9q (O1:=O) (z25 (b:=false) (z1w (z1d (z1a (z1d (z10 (z1f rfl rfl f2)) (z3E f1 O)) rfl) q1))) rfl))
  ·show fin (z1I [some (.tup (fs.map .tup)),some d,none] O)=_
   unfold z1I
   exact z1N (z9q (O1:=O) (z25 (b:=false) (z1w (z1d (z1a (z1d (z10 (z1f rfl rfl f2)) (z2o f1 O)) rfl) q2))) rfl)
 rcases h with ⟨ds,rfl,hd,hl⟩|⟨xs,rfl⟩|rfl|rfl|⟨w,rfl⟩
 ·have q1:=z8G (n:=n) hd hl O
  have q2:=z9k hf.n1 hf.n4 hd hl O
  cases hk:okT n ds with
  | false=>rw [hk] at q1 q2;exact no _ q1 q2
  | true=>
   rw [hk] at q1 q2
   have ha:ds.all (zc1 n)=true:=(eC.mp hk).1
   obtain ⟨e,ht⟩:=z6i ha
   have hl':(ds.map z57).length < 64:=by rw [az];exact hl
   rw [e] at q1 q2
   have p1:=za9 hf ht hl' O q1
   have p2:=z7q hf ht hl' O hO q2
   rw [<- e] at p1 p2
   exact ⟨_,p1,p2⟩
 ·exact no _ rfl rfl
 ·exact no _ rfl rfl
 ·exact no _ rfl rfl
 ·exact no _ rfl rfl
theorem zeL (h1:1 <= n) (h4:n <= 4):(z16 n).Pairwise (· < ·):=by
 rcases zhW h1 h4 with rfl|rfl|rfl|rfl <;> decide +kernel
theorem zaS (x:List Nat):∀ l:List (List Nat),(zah x l).length <= l.length + 1
 | []=>by simp [zah]
 | y :: r=>by
  unfold zah
  split
  ·simp
  ·split
   ·simp
   ·have:=zaS x r;simp;omega
theorem z7T (ss:List (List Nat)):(z3K ss).length <= ss.length:=by
 have:∀ (l acc:List (List Nat)),(l.foldl (fun l x=>zah x l) acc).length <= acc.length + l.length:=fun l=>by
  induction l with
  | nil=>intro acc;simp
  | cons a l ih=>
   intro acc
   rw [fH]
   have h1:=ih (zah a acc)
   have h2:=zaS a acc
   rw [bX];omega
 have h:=this ss []
 simpa [z3K] using h
theorem zaN (h:sgn c=true):c ∈ A7:=by
 unfold sgn at h
 simp only [gN,beq_iff_eq] at h
 rcases h with (rfl|rfl)|rfl <;> decide
theorem z7P (h1:1 <= n) (h4:n <= 4) (h:cs ∈ z16 n):Odd (.str cs):=.inl ⟨cs,rfl,fun c hc=>zaN (z6q h1 h4 h c hc),by rw [z1X h1 h4 h];omega⟩
theorem z36 {n:Nat} (h1:1 <= n) (h4:n <= 4) {l:List (List Nat)} (h:∀ t ∈ l,t ∈ z16 n):∀ d ∈ l.map D.str,Odd d:=fun d hd=>by
 obtain ⟨cs,hcs,rfl⟩:=aO.mp hd
 exact z7P h1 h4 (h cs hcs)
theorem zdE (h1:1 <= n) (h4:n <= 4) (h:cs ∈ z16 n):zc1 n (.str cs)=true:=by
 show (cs.length == n && cs.all sgn)=true
 rw [z1X h1 h4 h,aG.mpr (z6q h1 h4 h)];simp
theorem zh2 {n:Nat} (h1:1 <= n) (h4:n <= 4) {l:List (List Nat)} (h:∀ t ∈ l,t ∈ z16 n) (hp:l.Pairwise (· < ·)):okT n (l.map D.str)=true:=by
 unfold okT
 have e:(l.map D.str).map z57=l:=by
  rw [bK]
  exact (dI fun a _=>rfl).trans (jw l)
 rw [e,mI.mpr hp,Bool.and_true,aG]
 intro d hd
 obtain ⟨cs,hcs,rfl⟩:=aO.mp hd
 exact zdE h1 h4 (h cs hcs)
def zli:DE:=z17 z3R (z0T (z17 za7 (z0T (z0U 3) z0X)) z0X)
theorem zec (h3:z0U 3 σ O=.ok (.own k) O) (hk:O[k]?=some (l.map .str)) (hn:l.Nodup) (hl:l.length < 64):zli σ O=.ok (.tup ((z3K l).map .str)) O:=
 z1t (z10 (z1t (z10 h3) (zig hk hn hl))) rfl
def zlf:DS:=z35 (zbN (z0U 3) (z0T (z8I (z0U 2) (z0T (dFn 2 z11 (z0T (z0U 0) (z0T (z17 z38 (z0T (z0U 2) z0X)) z0X))) z0X)) z0X))
def z7R:DT:=z4s (z1W (dOp (fPy neF) (z0U 2) (z2J z0X))) (z37 (z0U 4))
def Br (n:Nat) (fs:List (List D)):List (List Nat):=(z16 n).filter (z2X n fs)
theorem z63 (h:t ∈ Br n fs):t ∈ z16 n:=(dg.mp h).1
theorem zaD (hf:Tog n fs):(Br n fs).length <= 27:=by
 refine bb (cm _ _) ?_
 have:=hf.n1
 have:=hf.n3
 have:n=1 \/ n=2 \/ n=3:=by omega
 rcases this with rfl|rfl|rfl <;> decide
theorem zgh (hf:Tog n fs):(Br n fs).Pairwise (· < ·):=(zeL hf.n1 hf.n4).filter _
theorem zdy (h:Q.length=k):(Q ++ ([a] ++ X ++ [c]))[k]?=some a:=by
 subst h
 rw [bp (aB _),gT];rfl
theorem zd5 (h:Q.length=k):(Q ++ ([a] ++ X ++ [c]))[k + 1 + X.length]?=some c:=by
 subst h
 rw [bp (by omega),j9,eN,bp (by simp;omega)]
 have:1 + X.length - ([a] ++ X).length=0:=by simp;omega
 rw [this];rfl
theorem zjr (h:Q.length=k):(Q ++ ([a] ++ X ++ [c])).set k d=Q ++ ([d] ++ X ++ [c]):=by
 subst h
 rw [ee _ _ (aB _),gT];rfl
theorem zk3 (h:Q.length=k):(Q ++ ([a] ++ X ++ [c])).set (k + 1 + X.length) d=Q ++ ([a] ++ X ++ [d]):=by
 subst h
 rw [ee _ _ (by omega),j9,eN,ee _ _ (by simp;omega)]
 have:1 + X.length - ([a] ++ X).length=0:=by simp;omega
 rw [this];rfl
def z7d:DS:=(z1e (sIf (z37 (dFn 2 z1c (z0T (z0U 1) (z0T zli z0X)))) (z24 4 (dOp (fPy eqF) (dFn 2 z11 (z0T (z0U 0) (z0T (dC (.int 4)) z0X))) (dC (.int 0)))) z2j) (sIf (z37 (z0U 4)) zlf z2j))
section
variable {n m:Nat} {fs:List (List D)} (hg:Tog n fs) {O X:Ow} (hO:z4z O) (hX:zm0 X) {b:Bool}
def OO (O X:Ow) (m:Nat) (b:Bool) (s:Int) (L Fd:List (List Nat)):Ow:=O.set m [.int s,.bl b] ++ ([L.map .str] ++ X ++ [Fd.map .str])
def stW (O X:Ow) (m:Nat) (fs:List (List D)) (mo:Bool):Sg:=[some (.own m),some (.tup (fs.map .tup)),some (.own O.length),some (.own (O.length + 1 + X.length)),some (.bl mo)]
include hO hX in
theorem zi9:z4z (OO O X m b s L Fd):=z7Y (z2L hO m s b) fun c hc d hd=>by
 have:∃ t,d=D.str t:=by
  rcases bg.mp hc with hc|hc
  ·rcases bg.mp hc with hc|hc
   ·have e:c=L.map D.str:=by simpa using hc
    rw [e] at hd
    obtain ⟨t,_,rfl⟩:=aO.mp hd
    exact ⟨t,rfl⟩
   ·exact hX c hc d hd
  ·have e:c=Fd.map D.str:=by simpa using hc
   rw [e] at hd
   obtain ⟨t,_,rfl⟩:=aO.mp hd
   exact ⟨t,rfl⟩
 obtain ⟨t,rfl⟩:=this
 rfl
include hg hO hX
theorem zjm (hs:mh (O.set m [.int s,.bl b]) m s b) (hp:(Fd ++ L).Perm (Br n fs)) (hL:L ≠ []):
  ∃ s' r,∃ hr:r < L.length,zlf (stW O X m fs mo) (OO O X m b s L Fd)=.nx (stW O X m fs mo) (OO O X m b s' (L.eraseIdx r) (Fd ++ [L[r]]))/\mh (O.set m [.int s',.bl b]) m s' b:=by
 have hlen:∀ s',(O.set m [D.int s',D.bl b]).length=O.length:=fun s'=>bT
 have hfew:=zaD hg
 have hpl:=hp.length_eq
 rw [aE] at hpl
 have hpos:0 < L.length:=List.length_pos_iff.mpr hL
 obtain ⟨r,s',r1,r2,r3⟩:=z47 hs ([L.map .str] ++ X ++ [Fd.map .str]) (k:=L.length) (by omega) (by omega)
 refine ⟨s',r,r1,?_,r3⟩
 unfold zlf
 have hidx:(((r:Nat):Int)).toNat=r:=by omega
 have e1:z8I (z0U 2) (z0T (dFn 2 z11 (z0T (z0U 0) (z0T (z17 z38 (z0T (z0U 2) z0X)) z0X))) z0X) (stW O X m fs mo) (OO O X m b s L Fd)=.ok (.str L[r]) (OO O X m b s' (L.eraseIdx r) Fd):=by
  have ha:z0T (dFn 2 z11 (z0T (z0U 0) (z0T (z17 z38 (z0T (z0U 2) z0X)) z0X))) z0X (stW O X m fs mo) (OO O X m b s L Fd)=.ok [.int (r:Nat)] (OO O X m b s' L Fd):=
   z10 (z1d (z1a rfl (z1t (z10 rfl) ((zi3 (O:=OO O X m b s L Fd) (x:=.own O.length) (xs:=L.map .str) (zdy (hlen s))).trans (by rw [az];rfl)))) r2)
  show (((z0T _ _ (stW O X m fs mo) (OO O X m b s L Fd)).bnd fun ys O2=>match ys,O2[O.length]? with|[.int i],some ds=>if 0 <= i/\i < 100000 then (match ds[i.toNat]? with|some d=>R.ok d (O2.set O.length (ds.eraseIdx i.toNat))|none=>R.bad) else R.bad|_,_=>R.bad))=_
  rw [ha]
  show (match [D.int (r:Nat)],(OO O X m b s' L Fd)[O.length]? with|[.int i],some ds=>if 0 <= i/\i < 100000 then (match ds[i.toNat]? with|some d=>R.ok d ((OO O X m b s' L Fd).set O.length (ds.eraseIdx i.toNat))|none=>R.bad) else R.bad|_,_=>R.bad)=_
  rw [show (OO O X m b s' L Fd)[O.length]?=some (L.map .str) from zdy (hlen s')]
  dsimp only
  rw [if_pos (by omega),hidx,bc,aw r1]
  dsimp only [eZ]
  congr 1
  rw [z9j]
  exact zjr (hlen s')
 rw [z66 (σ:=stW O X m fs mo) (k:=O.length + 1 + X.length) (ds:=Fd.map .str) rfl e1 (zd5 (hlen s')) (by rw [az];omega)]
 congr 1
 show (OO O X m b s' (L.eraseIdx r) Fd).set (O.length + 1 + X.length) (Fd.map .str ++ [.str L[r]])=_
 unfold OO
 rw [zk3 (hlen s'),cW];rfl
theorem zf3 {s:Int} (hs:mh (O.set m [.int s,.bl b]) m s b) {L Fd:List (List Nat)} (hp:(Fd ++ L).Perm (Br n fs)) (hL:L ≠ []):
  ∃ s' mo L' Fd',z7d (stW O X m fs true) (OO O X m b s L Fd)=.nx (stW O X m fs mo) (OO O X m b s' L' Fd')/\mh (O.set m [.int s',.bl b]) m s' b/\(Fd' ++ L').Perm (Br n fs)/\((mo=true/\L'.length + 1=L.length) \/ (mo=false/\L'=L)):=by
 have hlen:∀ s',(O.set m [D.int s',D.bl b]).length=O.length:=fun s'=>bT
 have hfew:=zaD hg
 have hpl:=hp.length_eq
 rw [aE] at hpl
 have hnd:Fd.Nodup:=by
  have:(Br n fs).Nodup:=(zgh hg).imp fun h e=>by subst e;exact absurd h (fV _)
  exact (dG.mp (hp.nodup_iff.mpr this)).1
 have hmem:∀ t ∈ Fd,t ∈ Br n fs:=fun t ht=>hp.mem_iff.mp (cK _ ht)
 have hform:z37 (dFn 2 z1c (z0T (z0U 1) (z0T zli z0X))) (stW O X m fs true) (OO O X m b s L Fd)=.ok (shB fs (z3K Fd)) (OO O X m b s L Fd):=by
  have hlt:∀ t ∈ z3K Fd,t ∈ z16 n:=fun t ht=>z63 (hmem t ((z3G Fd).mp ht))
  have hll:(z3K Fd).length < 64:=by have:=z7T Fd;omega
  have e:=z7q hg hlt hll (OO O X m b s L Fd) (zi9 hO hX) ((z9k hg.n1 hg.n4 (z36 hg.n1 hg.n4 hlt) (by rw [az];exact hll) _).trans (by rw [zh2 hg.n1 hg.n4 hlt (z55 Fd)]))
  exact z1w (z1d (z1a rfl (zec (k:=O.length + 1 + X.length) rfl (zd5 (hlen s)) hnd (by omega))) e)
 have popped:∀ s1,mh (O.set m [.int s1,.bl b]) m s1 b->∃ s' mo L' Fd',sIf (z37 (z0U 4)) zlf z2j (stW O X m fs true) (OO O X m b s1 L Fd)=.nx (stW O X m fs mo) (OO O X m b s' L' Fd')/\mh (O.set m [.int s',.bl b]) m s' b/\(Fd' ++ L').Perm (Br n fs)/\((mo=true/\L'.length + 1=L.length) \/ (mo=false/\L'=L)):=fun s1 hs1=>by
  obtain ⟨s',r,hr,e1,e2⟩:=zjm hg hO hX hs1 hp hL (mo:=true)
  refine ⟨s',true,L.eraseIdx r,Fd ++ [L[r]],?_,e2,?_,.inl ⟨rfl,by rw [fA hr];omega⟩⟩
  ·rw [z2b (b:=true) (O1:=OO O X m b s1 L Fd) rfl,if_pos rfl];exact e1
  ·rw [f8]
   exact ((z3v L r hr).append_left Fd).trans hp
 unfold z7d
 cases hF:shB fs (z3K Fd) with
 | false=>
  rw [hF] at hform
  obtain ⟨s',mo,L',Fd',e1,e2,e3,e4⟩:=popped s hs
  exact ⟨s',mo,L',Fd',z3f hform e1,e2,e3,e4⟩
 | true=>
  rw [hF] at hform
  obtain ⟨r,s1,r1,r2,r3⟩:=z47 hs ([L.map .str] ++ X ++ [Fd.map .str]) (k:=4) (by decide) (by decide)
  have eset:sIf (z37 (dFn 2 z1c (z0T (z0U 1) (z0T zli z0X)))) (z24 4 (dOp (fPy eqF) (dFn 2 z11 (z0T (z0U 0) (z0T (dC (.int 4)) z0X))) (dC (.int 0)))) z2j (stW O X m fs true) (OO O X m b s L Fd)=.nx (stW O X m fs ((r:Int) == 0)) (OO O X m b s1 L Fd):=by
   rw [z2b hform,if_pos rfl]
   exact z5c (z1f (z1d (z1a rfl rfl) r2) rfl rfl)
  cases hr0:((r:Int) == 0) with
  | true=>
   rw [hr0] at eset
   obtain ⟨s',mo,L',Fd',e1,e2,e3,e4⟩:=popped s1 r3
   exact ⟨s',mo,L',Fd',z3n eset e1,e2,e3,e4⟩
  | false=>
   rw [hr0] at eset
   refine ⟨s1,false,L,Fd,z3n eset ?_,r3,hp,.inr ⟨rfl,rfl⟩⟩
   rw [z2b (b:=false) (O1:=OO O X m b s1 L Fd) rfl];rfl
theorem zdq (hp:(Fd ++ L).Perm (Br n fs)):z7R (stW O X m fs mo) (OO O X m b s L Fd)=.ok (!L.isEmpty && mo) (OO O X m b s L Fd):=by
 have hlen:∀ s',(O.set m [D.int s',D.bl b]).length=O.length:=fun s'=>bT
 exact z65 (z1s (z1f rfl rfl (zhs _ hg.n1 hg.n4 (fun t ht=>z63 (hp.mem_iff.mp (bw _ ht))) (zdy (hlen s))))) fun _=>z1w rfl
theorem zaZ:∀ (f:Nat) {s:Int} {L Fd:List (List Nat)} {mo:Bool},mh (O.set m [.int s,.bl b]) m s b->(Fd ++ L).Perm (Br n fs)->(mo=true->L.length + 2 <= f)->1 <= f->
  ∃ s' mo' L' Fd',z3t z7R z7d f (stW O X m fs mo) (OO O X m b s L Fd)=.nx (stW O X m fs mo') (OO O X m b s' L' Fd')/\mh (O.set m [.int s',.bl b]) m s' b/\(Fd' ++ L').Perm (Br n fs)
 | 0,s,L,Fd,mo,_,_,_,h1=>by omega
 | f + 1,s,L,Fd,mo,hs,hp,hf,_=>by
  have hstop:(!L.isEmpty && mo)=false->∃ s' mo' L' Fd',z3t z7R z7d (f + 1) (stW O X m fs mo) (OO O X m b s L Fd)=.nx (stW O X m fs mo') (OO O X m b s' L' Fd')/\mh (O.set m [.int s',.bl b]) m s' b/\(Fd' ++ L').Perm (Br n fs):=fun hc=>by
   refine ⟨s,mo,L,Fd,?_,hs,hp⟩
   show ((z7R (stW O X m fs mo) (OO O X m b s L Fd)).bnS _)=_
   rw [zdq hg hO hX hp,hc];rfl
  cases mo with
  | false=>exact hstop (by simp)
  | true=>
   by_cases hL:L=[]
   ·exact hstop (by simp [hL])
   ·have hc:(!L.isEmpty && true)=true:=by
     cases L with
     | nil=>exact absurd rfl hL
     | cons _ _=>rfl
    obtain ⟨s',mo,L',Fd',e1,e2,e3,e4⟩:=zf3 hg hO hX hs hp hL
    have hf':=hf rfl
    obtain ⟨s2,mo2,L2,Fd2,q1,q2,q3⟩:=zaZ f (s:=s') (L:=L') (Fd:=Fd') (mo:=mo) e2 e3 (fun h=>by
     rcases e4 with ⟨_,z⟩|⟨z,_⟩
     ·omega
     ·rw [h] at z;cases z) (by omega)
    refine ⟨s2,mo2,L2,Fd2,?_,q2,q3⟩
    show ((z7R (stW O X m fs true) (OO O X m b s L Fd)).bnS fun k O1=>if k=true then (match z7d (stW O X m fs true) O1 with|.nx σ' O'=>z3t z7R z7d f σ' O'|.ct σ' O'=>z3t z7R z7d f σ' O'|.bk σ' O'=>.nx σ' O'|r=>r) else .nx (stW O X m fs true) O1)=_
    rw [zdq hg hO hX hp,hc]
    show (match z7d (stW O X m fs true) (OO O X m b s L Fd) with|.nx σ' O'=>z3t z7R z7d f σ' O'|.ct σ' O'=>z3t z7R z7d f σ' O'|.bk σ' O'=>.nx σ' O'|r=>r)=_
    rw [e1]
    exact q1
end
theorem z74 (hg:Tog n fs) (hO:z4z O) (hs:mh O m s b):∃ (l:List (List Nat)) (s':Int),z1y [.own m,.tup (fs.map .tup)] O=.ok (.tup (l.map .str)) (O.set m [.int s',.bl b])/\mh (O.set m [.int s',.bl b]) m s' b/\(∀ t ∈ l,t ∈ z16 n)/\l.length <= 54:=by
 have hlen:∀ s',(O.set m [D.int s',D.bl b]).length=O.length:=fun s'=>bT
 have hfew:=zaD hg
 obtain ⟨X,x1,hX⟩:=z5B hg hO
 have hs':mh (O.set m [.int s,.bl b]) m s b:=by rw [z8j hs.at_];exact hs
 obtain ⟨s',mo,L,Fd,e1,e2,e3⟩:=zaZ hg hO hX (m:=m) (b:=b) 100 (s:=s) (L:=Br n fs) (Fd:=[]) (mo:=true) hs' (jK _) (fun _=>by omega) (by decide)
 have hpl:=e3.length_eq
 rw [aE] at hpl
 have hnd:Fd.Nodup:=by
  have:(Br n fs).Nodup:=(zgh hg).imp fun h e=>by subst e;exact absurd h (fV _)
  exact (dG.mp (e3.nodup_iff.mpr this)).1
 have hl2:=z7T Fd
 refine ⟨z3K Fd,s',?_,e2,fun t ht=>z63 (e3.mem_iff.mp (cK _ ((z3G Fd).mp ht))),by omega⟩
 show zb7 O.length (fin (z1R [some (.own m),some (.tup (fs.map .tup)),none,none,none] O))=_
 have hstart:O ++ ([(Br n fs).map .str] ++ X) ++ [[]]=OO O X m b s (Br n fs) []:=by
  unfold OO
  rw [z8j hs.at_,f8];rfl
 have hB:z1R [some (.own m),some (.tup (fs.map .tup)),none,none,none] O=.rt (.tup ((z3K Fd).map .str)) (OO O X m b s' L Fd):=by
  unfold z1R
  refine z1z (x:=.own O.length) (O1:=O ++ ([(Br n fs).map .str] ++ X)) (z1d (z10 rfl) x1) (z1z (x:=.own (O.length + 1 + X.length)) (O1:=OO O X m b s (Br n fs) []) ?_ (z1z (x:=.bl true) (O1:=OO O X m b s (Br n fs) []) rfl (z3n (σ':=stW O X m fs mo) (O1:=OO O X m b s' L Fd) e1 (z1h ?_))))
  ·rw [<- hstart]
   show R.ok (D.own (O ++ ([(Br n fs).map D.str] ++ X)).length) _=_
   rw [aE,aE,<- j9];rfl
  ·exact zec (k:=O.length + 1 + X.length) rfl (zd5 (hlen s')) hnd (by omega)
 rw [z1N hB]
 have:=z7U (z2L hO m s' b) ([L.map .str] ++ X ++ [Fd.map .str]) (d:=.tup ((z3K Fd).map .str)) (d':=.tup ((z3K Fd).map .str)) (z7J fun d hd=>by obtain ⟨x,_,rfl⟩:=aO.mp hd;rfl)
 rw [hlen] at this
 exact this
theorem zhg (h:d ∈ zbd ds lo hi):d ∈ ds:=List.mem_of_mem_drop (jX h)
theorem ziH (ds:List D) (lo hi:Option Int):(zbd ds lo hi).length <= ds.length:=by unfold zbd;rw [dJ,iZ];omega
structure Sub (ds l:List D) (lo hi:Option Int):Prop where
 mem:∀ d ∈ l,d ∈ ds
 len:l.length <= ds.length
 cut:l.length <= HT.sIx ds.length ds.length hi - HT.sIx ds.length 0 lo
theorem zfi {σ:Sg} {O:Ow} {te:DE} {tl th:DO} {ds:List D} {lo hi:Option Int} (h:te σ O=.ok (.tup ds) O) (h1:tl σ O=.ok lo O) (h2:th σ O=.ok hi O):∃ l,z8v te tl th σ O=.ok (.tup l) O/\Sub ds l lo hi:=by
 have e:z8v te tl th σ O=zmm O (.tup ds) lo hi:=by
  show ((te σ O).bnd _)=_
  rw [h]
  show ((tl σ O).bnd _)=_
  rw [h1]
  show ((th σ O).bnd _)=_
  rw [h2];rfl
 rw [e]
 show ∃ l,(if HT.sIx ds.length 0 lo=0/\HT.sIx ds.length ds.length hi=ds.length then R.ok (D.tup ds) O else R.ok (D.tup (zbd ds lo hi)) O)=_/\_
 split
 ·rename_i hw
  exact ⟨ds,rfl,fun _ h=>h,aB _,by rw [hw.1,hw.2];exact aB _⟩
 ·exact ⟨_,rfl,fun _ h=>zhg h,ziH _ _ _,g7 _ _⟩
theorem zia (O:Ow) {xs ys:List D} (hl:xs.length + ys.length <= 100000):z39 O (.tup xs) (.tup ys)=.ok (.tup (xs ++ ys)) O:=by
 cases xs with
 | nil=>rfl
 | cons x xs=>
  show (if x :: xs ≠ []/\(x :: xs).length + ys.length <= 100000 then R.ok (D.tup (x :: xs ++ ys)) O else R.bad)=_
  rw [if_pos ⟨by simp,hl⟩]
theorem zmN (O:Ow) {xs ys:List D} (hl:xs.length + ys.length <= 100000):z39 O (.lst xs) (.lst ys)=.ok (.lst (xs ++ ys)) O:=by
 show (if xs.length + ys.length <= 100000 then R.ok (D.lst (xs ++ ys)) O else R.bad)=_
 rw [if_pos hl]
def zmH:DE:=(z2J (z0T (z0U 4) (z0T (dOp z94 (dC (.str [45])) (z0U 2)) (z0T (z8v (z0U 4) z3u (z3k (zfc (dC (.int 1))))) (z0T (dOp z39 (z0U 4) (dC (.str [48]))) (z0T (zfy [48] [50] (z0U 4)) (z0T (dC .non) (z0T (dC (.int 0)) (z0T (z3T (z0T (z0U 4) z0X)) (z0T (dC (.str [])) (z0T (dC (.bl true)) z0X)))))))))))
def zhk (cs:List Nat):List D:=[.str cs,.str (aq cs.length 45),.str cs.dropLast,.str (cs ++ [48]),.str (cs.map fun c=>if c == 48 then 50 else c),.non,.int 0,.tup [.str cs],.str [],.bl true]
theorem zhb (O:Ow) (x0 x1 x3 x5 x6:Option D):(mx.map fun cs=>zmH [x0,x1,some (.int (cs.length:Nat)),x3,some (.str cs),x5,x6] O)=mx.map fun cs=>R.ok (.lst (zhk cs)) O:=by kernel_rfl
theorem zgZ {n:Nat} (h1:1 <= n) (h4:n <= 4) {cs:List Nat} (h:cs ∈ z16 n):∀ d ∈ zhk cs,Odd d:=fun d hd=>by
 have hl:=z1X h1 h4 h
 have hs:=z6q h1 h4 h
 unfold zhk at hd
 simp only [av,aM,or_false] at hd
 rcases hd with rfl|rfl|rfl|rfl|rfl|rfl|rfl|rfl|rfl|rfl
 ·exact z7P h1 h4 h
 ·exact .inl ⟨_,rfl,fun c hc=>by rw [jc hc];decide,by rw [gy];omega⟩
 ·exact .inl ⟨_,rfl,fun c hc=>zaN (hs c ((List.dropLast_sublist cs).subset hc)),by rw [List.length_dropLast];omega⟩
 ·refine .inl ⟨_,rfl,fun c hc=>?_,by simp;omega⟩
  rcases bg.mp hc with hc|hc
  ·exact zaN (hs c hc)
  ·have:c=48:=by simpa using hc
   rw [this];decide
 ·refine .inl ⟨_,rfl,fun c hc=>?_,by simp;omega⟩
  obtain ⟨x,hx,rfl⟩:=aO.mp hc
  split
  ·decide
  ·exact zaN (hs x hx)
 ·exact .inr (.inr (.inl rfl))
 ·exact .inr (.inr (.inr (.inl rfl)))
 ·exact .inr (.inl ⟨_,rfl⟩)
 ·exact .inl ⟨[],rfl,fun c hc=>(by cases hc),by simp⟩
 ·exact .inr (.inr (.inr (.inr rfl)))
theorem z6R:∀ l:List (List Nat),(∀ t ∈ l,t.length <= 4)->∃ zs,z9E (l.map D.str)=some zs/\zs.length=l.length/\(zs.map (·.length)).sum <= 4 * l.length
 | [],_=>⟨[],rfl,rfl,aB _⟩
 | t :: l,h=>by
  obtain ⟨zs,e1,e2,e3⟩:=z6R l fun x hx=>h x (au _ hx)
  have ht:=h t aH
  refine ⟨⟨t.toArray⟩ :: zs,?_,by simp [e2],?_⟩
  ·show (z9E (l.map D.str)).map _=_
   rw [e1];rfl
  ·rw [bM,List.sum_cons,bX]
   have:(⟨t.toArray⟩:Str).length=t.length:=by show t.toArray.size=_;simp
   omega
theorem zeU {σ:Sg} {O:Ow} {l:List (List Nat)} (h:z0U 1 σ O=.ok (.tup (l.map .str)) O) (hl:∀ t ∈ l,t.length <= 4) (hlen:l.length <= 54):∃ w,zbA (dC (.str [32])) (z0T (z0U 1) z0X) σ O=.ok (.str w) O:=by
 obtain ⟨zs,e1,e2,e3⟩:=z6R l hl
 refine ⟨(jU ⟨[32].toArray⟩ zs).cps.toList,?_⟩
 show ((z0T (z0U 1) z0X σ O).bnd _)=_
 rw [z10 h]
 show (match z9E (l.map D.str) with|some zs=>if [32].length <= 16/\(zs.map fun z:Str=>z.length).sum + zs.length <= 1048576 then R.ok (D.str (jU ⟨[32].toArray⟩ zs).cps.toList) O else .bad|none=>.bad)=_
 rw [e1]
 show (if [32].length <= 16/\(zs.map fun z:Str=>z.length).sum + zs.length <= 1048576 then R.ok (D.str (jU ⟨[32].toArray⟩ zs).cps.toList) O else .bad)=_
 rw [if_pos ⟨by decide,by omega⟩]
def C14:List Nat:=[0,0,1,1,2,2,3,4,5,6,7,8,8,9]
theorem zkv:(C14.all fun q=>decide (q < 10))=true:=by decide
section
variable {n m:Nat} (h1:1 <= n) (h4:n <= 4) {l:List (List Nat)} (hlt:∀ t ∈ l,t ∈ z16 n) (hlen:l.length <= 54) {O:Ow} {s:Int} {b:Bool}
include h1 h4 hlt hlen
theorem z8R (hs:mh O m s b):∃ d s',z1x [.own m,.tup (l.map .str),.int (n:Nat)] O=.ok d (O.set m [.int s',.bl b])/\mh (O.set m [.int s',.bl b]) m s' b/\Ask d:=by
 let A:Option D:=some (.own m)
 let F:Option D:=some (.tup (l.map .str))
 let N:Option D:=some (.int (n:Nat))
 have hdl:(l.map D.str).length=l.length:=az _
 obtain ⟨r,s1,r1,r2,r3⟩:=z3i hs (k:=l.length + 1) (by omega) (by omega)
 obtain ⟨vs,s2,c1,c2,c3,c4⟩:=zam (o:=false) (ext:=1) (i:=7) (σ:=[A,F,N,some (.int (r:Nat)),none,none,none]) (it0:=z31 (z0T (z0U 2) z0X)) (ds:=(aU n).map fun (i:Nat)=>D.int (i:Int)) (te:=dOp fIx (dC (.str [48,49,45])) (dFn 2 z11 (z0T (z0U 0) (z0T (dC (.int 3)) z0X)))) (P:=fun v=>∃ c,v=D.str [c]/\sgn c=true) r3 (z2z (z10 rfl) (by omega)) (by simp;omega) (fun d hd s' hs'=>by
  rw [bD] at hs'
  obtain ⟨j,s'',j1,j2,j3⟩:=z3i hs' (k:=3) (by decide) (by decide)
  rw [bD] at j2 j3
  have:∃ c,fIx (O.set m [.int s'',.bl b]) (.str [48,49,45]) (.int (j:Nat))=.ok (.str [c]) (O.set m [.int s'',.bl b])/\sgn c=true:=by
   have:j=0 \/ j=1 \/ j=2:=by omega
   rcases this with rfl|rfl|rfl
   ·exact ⟨48,rfl,rfl⟩
   ·exact ⟨49,rfl,rfl⟩
   ·exact ⟨45,rfl,rfl⟩
  obtain ⟨c,k1,k2⟩:=this
  refine ⟨.str [c],s'',?_,?_,c,rfl,k2⟩
  ·rw [bD,bD]
   exact z1f (x:=.str [48,49,45]) rfl (z1d (z1a rfl rfl) j2) k1
  ·rw [bD];exact j3)
 rw [bD] at c1 c2
 obtain ⟨cs,rfl,hcs⟩:=zcB vs c4
 have hcl:cs.length=n:=by simpa using c3
 have hct:cs ∈ z16 n:=z54 n cs hcl hcs
 have eT:=zhq (σ:=[A,F,N,some (.int (r:Nat)),none,none,none]) cs (by omega) (by omega) (z10 c1)
 obtain ⟨j,s3,j1,j2,j3⟩:=z3i c2 (k:=10) (by decide) (by decide)
 rw [bD] at j2 j3
 have hj:j < (zhk cs).length:=j1
 have eO:=cS.mp (zhb (O.set m [.int s2,.bl b]) A F (some (.int (r:Nat))) none none) cs (z2O h1 h4 hct)
 rw [hcl] at eO
 generalize hx:(zhk cs)[j]=x at *
 have hxo:Odd x:=by rw [<- hx];exact zgZ h1 h4 hct _ (bG hj)
 generalize hO3:O.set m [.int s3,.bl b]=O3 at *
 let st (z:Option D):Sg:=[A,F,N,some (.int (r:Nat)),some (.str cs),some x,z]
 obtain ⟨a1,ea1,sa1⟩:=zfi (σ:=st none) (O:=O3) (te:=z0U 1) (tl:=z3u) (th:=z3k (z0U 3)) (ds:=l.map .str) (lo:=none) (hi:=some (r:Int)) rfl rfl rfl
 obtain ⟨a2,ea2,sa2⟩:=zfi (σ:=st none) (O:=O3) (te:=z0U 1) (tl:=z3k (z0U 3)) (th:=z3u) (ds:=l.map .str) (lo:=some (r:Int)) (hi:=none) rfl rfl rfl
 obtain ⟨a3,ea3,sa3⟩:=zfi (σ:=st none) (O:=O3) (te:=z0U 1) (tl:=z3k (dOp z39 (z0U 3) (dC (.int 1)))) (th:=z3u) (ds:=l.map .str) (lo:=some ((r:Int) + 1)) (hi:=none) rfl rfl rfl
 have n1:=sa1.len
 have n2:=sa2.len
 have n3:=sa3.len
 have eX:z3T (z0T (z0U 5) z0X) (st none) O3=.ok (.tup [x]) O3:=z7t (z10 rfl) (by show 1 <= 100000;decide)
 have i0:=z1f (z1f ea1 eX (zia O3 (by simp;omega))) ea2 (zia O3 (by simp;omega))
 have i1:=z1f (z1f ea1 eX (zia O3 (by simp;omega))) ea3 (zia O3 (by simp;omega))
 have i2:=z1f ea1 ea3 (zia O3 (by omega))
 let L1:List D:=[.tup (a1 ++ [x] ++ a2),.tup (a1 ++ [x] ++ a3),.tup (a1 ++ a3),.lst (l.map .str)]
 have f1:=zdM (z1T i0 (z1T i1 (z1T i2 (z10 (t:=z17 (zbG false) (z0T (z0U 1) z0X)) (x:=.lst (l.map .str)) (z1t (z10 rfl) rfl))))) (by show 4 <= 100000;decide)
 obtain ⟨a4,ea4,sa4⟩:=zfi (σ:=st (some (.lst L1))) (O:=O3) (te:=z0U 1) (tl:=z3k (zfc (dC (.int 1)))) (th:=z3u) (ds:=l.map .str) (lo:=some (-1)) (hi:=none) rfl rfl rfl
 have n4:=sa4.len
 have k1:=sa1.cut
 have k2:=sa2.cut
 have k3:=sa3.cut
 have k4:=sa4.cut
 rw [HT.sIx_none,HT.sIx_nat,hdl] at k1 k2
 rw [show ((r:Int) + 1)=((r + 1:Nat):Int) by omega,HT.sIx_none,HT.sIx_nat,hdl] at k3
 have e4:HT.sIx (l.map D.str).length 0 (some (-1))=l.length - 1:=by
  show (if (-1:Int) < 0 then ((-1:Int) + ((l.map D.str).length:Int)).toNat else min (-1:Int).toNat (l.map D.str).length)=_
  rw [if_pos (by decide),hdl];omega
 rw [HT.sIx_none,e4,hdl] at k4
 have i4:zeC (z0U 1) (z3k (zfc (dC (.int 1)))) (st (some (.lst L1))) O3=.ok (.tup (l.map D.str).reverse) O3:=rfl
 have i5:dOp z39 (z0U 1) (z8v (z0U 1) (z3k (zfc (dC (.int 1)))) z3u) (st (some (.lst L1))) O3=.ok (.tup (l.map .str ++ a4)) O3:=z1f rfl ea4 (zia O3 (by omega))
 have i8:z17 z3R (z0T (z9S false (z0T (dOp z39 (z0U 1) (z3T (z0T (z0U 4) z0X))) z0X)) z0X) (st (some (.lst L1))) O3=.ok (.tup ((z3K (l ++ [cs])).map .str)) O3:=
  z1t (z10 (zci (l:=l ++ [cs]) (z10 (z1f (x:=.tup (l.map .str)) (y:=.tup [.str cs]) rfl (z7t (z10 rfl) (by show 1 <= 100000;decide)) (zia O3 (by simp;omega)))) (.inr (by rw [cW];rfl)) (by simp;omega))) rfl
 obtain ⟨w,i9⟩:=zeU (σ:=st (some (.lst L1))) (O:=O3) (l:=l) rfl (fun t ht=>by rw [z1X h1 h4 (hlt t ht)];exact h4) hlen
 let L2:List D:=[.tup (l.map D.str).reverse,.tup (l.map .str ++ a4),.non,.dct,.tup ((z3K (l ++ [cs])).map .str),.str w]
 have f2:=z1f (t:=z0U 6) (σ:=st (some (.lst L1))) (O:=O3) (x:=.lst L1) rfl (zdM (z1T i4 (z1T i5 (z1T (t:=dC .non) (x:=.non) rfl (z1T (t:=zkB) (x:=.dct) rfl (z1T i8 (z10 i9)))))) (by show 6 <= 100000;decide)) (zmN O3 (by show 4 + 6 <= 100000;decide))
 rw [<- hO3] at j3
 obtain ⟨q,s4,q1,q2,q3⟩:=z3i j3 (k:=14) (by decide) (by decide)
 rw [bD] at q2 q3
 rw [hO3] at q2
 have hq:q < C14.length:=q1
 have hlst:(L1 ++ L2).length=10:=rfl
 have hq2:C14[q] < (L1 ++ L2).length:=by
  rw [hlst]
  have:=aG.mp zkv C14[q] (bG hq)
  simpa using this
 have hsub:∀ {a:List D} {lo hi:Option Int},Sub (l.map .str) a lo hi->∀ d ∈ a,Odd d:=fun hs d hd=>z36 h1 h4 hlt d (hs.mem d hd)
 have happ:∀ {a c:List D},(∀ d ∈ a,Odd d)->(∀ d ∈ c,Odd d)->∀ d ∈ a ++ c,Odd d:=fun ha hc d hd=>by
  rcases bg.mp hd with h|h
  ·exact ha d h
  ·exact hc d h
 have hone:∀ d ∈ [x],Odd d:=fun d hd=>by
  have:d=x:=by simpa using hd
  rw [this];exact hxo
 have hall:∀ d ∈ L1 ++ L2,Ask d:=fun d hd=>by
  simp only [L1,L2,gq,cG,av,aM,or_false] at hd
  rcases hd with rfl|rfl|rfl|rfl|rfl|rfl|rfl|rfl|rfl|rfl
  ·refine .inl ⟨_,rfl,?_,by rw [aE,aE,d7];omega⟩
   exact happ (happ (hsub sa1) hone) (hsub sa2)
  ·refine .inl ⟨_,rfl,?_,by rw [aE,aE,d7];omega⟩
   exact happ (happ (hsub sa1) hone) (hsub sa3)
  ·refine .inl ⟨_,rfl,?_,by rw [aE];omega⟩
   exact happ (hsub sa1) (hsub sa3)
  ·exact .inr (.inl ⟨_,rfl⟩)
  ·refine .inl ⟨_,rfl,fun d hd=>?_,by simp;omega⟩
   exact z36 h1 h4 hlt d (List.mem_reverse.mp hd)
  ·refine .inl ⟨_,rfl,?_,by rw [aE,hdl];omega⟩
   exact happ (z36 h1 h4 hlt) (hsub sa4)
  ·exact .inr (.inr (.inl rfl))
  ·exact .inr (.inr (.inr (.inl rfl)))
  ·have hq:=z7T (l ++ [cs])
   rw [aE] at hq
   refine .inl ⟨_,rfl,z36 h1 h4 fun t ht=>?_,by rw [az];simp at hq;omega⟩
   rcases bg.mp ((z3G _).mp ht) with h|h
   ·exact hlt t h
   ·have:t=cs:=by simpa using h
    rw [this];exact hct
  ·exact .inr (.inr (.inr (.inr ⟨_,rfl⟩)))
 refine ⟨(L1 ++ L2)[C14[q]],s4,?_,q3,hall _ (bG hq2)⟩
 show fin (z2H [A,F,N,none,none,none,none] O)=_
 unfold z2H
 have hC:fIx (O.set m [.int s4,.bl b]) (.lst (C14.map fun (k:Nat)=>D.int (k:Int))) (.int (q:Nat))=.ok (.int (C14[q]:Nat)) (O.set m [.int s4,.bl b]):=by
  rw [z6d (by rw [az];exact hq),eL]
 refine z1N (z1z (x:=.int (r:Nat)) (z1d (z1a rfl (z1f (y:=.int 1) (z1t (z10 rfl) (z4W O _)) rfl (by rw [hdl];rfl))) r2) (z1z (x:=.str cs) eT (z1z (x:=.lst (zhk cs)) eO (z1z (x:=x) (O1:=O3) (z1f (x:=.lst (zhk cs)) rfl (z1d (z1a rfl rfl) j2) (by rw [z6d hj,hx])) (z1z (x:=.lst L1) f1 (z1z (x:=.lst (L1 ++ L2)) f2 (z1h ?_)))))))
 exact z1f (x:=.lst (L1 ++ L2)) rfl (z1f (x:=.lst (C14.map fun (k:Nat)=>D.int (k:Int))) rfl (z1d (z1a rfl rfl) q2) hC) (z6d hq2)
end
theorem zeA (hr:z9K Ca 4 1 z4j (.exc c O)=.ok (.lst [.int k]) O) (h1:t1 σ O=.exc c O) (h2:t2 σ O=.exc c O) (h3:t3 σ O=.exc c O):z3b (z9K Ca 4 1 z4j) [t1,t2,t3] σ O=.ok (.lst [.lst [.int k],.lst [.int k],.lst [.int k]]) O:=by
 unfold z3b
 have:z5x (z9K Ca 4 1 z4j) [t1,t2,t3] σ O []=.ok [.lst [.int k],.lst [.int k],.lst [.int k]] O:=by
  unfold z5x z5x z5x z5x
  rw [h1,hr]
  show ((z9K Ca 4 1 z4j (t2 σ O)).bnd _)=_
  rw [h2,hr]
  show ((z9K Ca 4 1 z4j (t3 σ O)).bnd _)=_
  rw [h3,hr];rfl
 rw [this];rfl
theorem ziv (O:Ow) (b:Bool):z30 [.bl b,.bl b] O=.ok (.bl true) O:=by cases b <;> kernel_rfl
def zbO:D:=.tup [.int 0,.int 1,.int 1,.int 0]
def Nb0:List D:=[.non,.tup [],.tup [zbO],.tup [zbO,.tup [.int 1,.non]],.tup [zbO,zbO,zbO,zbO],.lst [zbO,zbO],.tup [.tup (aq 16 (.int 0)),.tup (aq 16 (.int 1))],zbO,.tup [.non,zbO],.dct]
def Nb:List D:=Nb0 ++ [.tup [zbO,.tup [.int 0,.int 1,.int 2,.int 0]],.tup [.str [48,49],.str [49,48]],.tup [zbO,.lst [.int 0,.int 0,.int 0,.int 1]]]
theorem zbo (O:Ow):(Nb.map fun d=>z1B [d,.tup []] O)=Nb.map fun _=>R.exc 0 O:=by kernel_rfl
theorem zcY (O:Ow):(Nb.map fun d=>z26 [d] O)=Nb.map fun _=>R.exc 0 O:=by kernel_rfl
theorem zda (O:Ow):(Nb.map fun d=>z2a [d] O)=Nb.map fun _=>R.exc 0 O:=by kernel_rfl
theorem zfj (O:Ow):z9K Ca 4 1 z4j (.exc 0 O)=.ok (.lst [.int 0]) O:=by kernel_rfl
theorem ne3 (O:Ow):fPy neF O (.lst [.lst [.int 0],.lst [.int 0],.lst [.int 0]]) (.lst [.lst [.int 0],.lst [.int 0],.lst [.int 0]])=.ok (.bl false) O:=by kernel_rfl
theorem z5V (hs:mh O m s b):∃ z s',z1o [.own m] O=.ok z (O.set m [.int s',.bl b])/\mh (O.set m [.int s',.bl b]) m s' b/\z ∈ Nb:=by
 obtain ⟨r,s1,r1,r2,h1⟩:=z3i hs (k:=13) (by decide) (by decide)
 have hr:r < Nb.length:=r1
 refine ⟨Nb[r],s1,?_,h1,bG hr⟩
 show fin (z27 [some (.own m),none,none,none] O)=_
 unfold z27
 exact z1N (z3n (σ':=[some (.own m),some zbO,some (.tup [.int 1,.non]),none]) (O1:=O) rfl (z1z (x:=.lst Nb0) (O1:=O) rfl (z1h (z1f (x:=.lst Nb) rfl (z1d (z1a rfl rfl) r2) (z6d hr)))))
def z6I (Pt:Nat):DS:=(z6C Pt 10 9 (z9K Ca 4 1 z4j) [(dFn 2 z1B (z0T (z0U 8) (z0T (z3T z0X) z0X))),(dFn 1 z26 (z0T (z0U 8) z0X)),(dFn 1 z2a (z0T (z0U 8) z0X))] (dOp (z8S false) (z2J (z0T (z2J (z0T (dC (.int 0)) z0X)) z0X)) (dC (.int 3))) (z1v (dC (.bl false))) z2j)
theorem zfr (hz:z ∈ Nb):z6I Pt [a0,a1,a2,a3,a4,a5,a6,a7,some z,a9,some (.tab Pt)] O=.nx [a0,a1,a2,a3,a4,a5,a6,a7,some z,none,some (.tab Pt)] O:=by
 have b1:=cS.mp (zbo O) z hz
 have b2:=cS.mp (zcY O) z hz
 have b3:=cS.mp (zda O) z hz
 unfold z6I
 show (if Pt=Pt then z1e _ z2j [a0,a1,a2,a3,a4,a5,a6,a7,some z,none,some (.tab Pt)] O else .bad)=_
 rw [if_pos rfl]
 exact z3f (O1:=O) (z1s (z1f (zeA (zfj O) (z1d (z1a rfl rfl) b1) (z1d (z10 rfl) b2) (z1d (z10 rfl) b3)) (y:=.lst [.lst [.int 0],.lst [.int 0],.lst [.int 0]]) rfl (ne3 O))) rfl
def zj2:DS:=(sIf (z2W (z37 (dFn 2 z30 (z0T (dFn 2 z1B (z0T (z0U 3) (z0T (z0U 7) z0X))) (z0T (dFn 2 z1c (z0T (z0U 3) (z0T (z0U 7) z0X))) z0X))))) (z1v (dC (.bl false))) z2j)
def itB:DE:=(dOp z4i (z0U 6) (z1i false 1 (z31 (z0T (dC (.int 6)) z0X)) (.one 11) [] [] (dFn 3 z1x (z0T (z0U 2) (z0T (z0U 5) (z0T (z0U 4) z0X))))))
def zk2:DE:=(z2J (z0T (z0U 5) (z0T (z3T z0X) (z0T (z3T (z0T (dOp z94 (dC (.str [45])) (z0U 4)) z0X)) (z0T (z17 z3R (z0T (dFn 1 z1E (z0T (z0U 3) z0X)) z0X)) z0X)))))
def zgw (Pt:Nat):DS:=(z1e (z24 2 (dFn 2 z2E (z0T (z0U 0) (z0T (z0U 1) z0X)))) (z1e (z24 3 (dFn 1 z1Z (z0T (z0U 2) z0X))) (z1e (z24 4 (dFn 1 z1j (z0T (dOp fIx (z0U 3) (dC (.int 0))) z0X))) (z1e (z24 5 (dFn 2 z1y (z0T (z0U 2) (z0T (z0U 3) z0X)))) (z1e (z24 6 zk2) (z1e (z7h (dIt itB) (.one 7) zj2) (z1e (z24 8 (dFn 1 z1o (z0T (z0U 2) z0X))) (z6I Pt))))))))
theorem zfw {Pt:Nat} {ns:List Int} {k:Nat} {O:Ow} (hO:z4z O) {y2 y3 y4 y5 y6 y7 y8 y9:Option D}:∃ z2 z3 z4 z5 z6 z7 z8 z9 O',
  zgw Pt [some (.lst (ns.map .int)),some (.int k),y2,y3,y4,y5,y6,y7,y8,y9,some (.tab Pt)] O=.nx [some (.lst (ns.map .int)),some (.int k),z2,z3,z4,z5,z6,z7,z8,z9,some (.tab Pt)] O'/\z4z O':=by
 obtain ⟨s,b,s1,s2⟩:=zeV (ns:=ns) (k:=k) O
 have fl0:z4z (O ++ [[.int s,.bl b]]):=mh.flat hO
 obtain ⟨n,fs,u2,hf,f1,f2⟩:=z6N fl0 s2
 generalize hO2:(O ++ [[D.int s,D.bl b]]).set O.length [.int u2,.bl b]=O2 at *
 have fl2:z4z O2:=by rw [<- hO2];exact z2L fl0 _ _ _
 have n1:=hf.n1
 have n4:=hf.n4
 obtain ⟨f,g1,g2⟩:=z4b hf O2
 obtain ⟨l,u3,l1,l2,l4,l5⟩:=z74 hf fl2 f2
 generalize hO3:O2.set O.length [.int u3,.bl b]=O3 at *
 have fl3:z4z O3:=by rw [<- hO3];exact z2L fl2 _ _ _
 obtain ⟨X,x0,hX⟩:=z5B hf fl3
 have x1:z1E [.tup (fs.map .tup)] O3=.ok (.own O3.length) (O3 ++ ([(Br n fs).map D.str] ++ X)):=x0
 clear x0
 have hBr:=zaD hf
 have fl4:z4z (O3 ++ ([(Br n fs).map D.str] ++ X)):=z7Y fl3 fun c hc d hd=>by
  have:∃ t,d=D.str t:=by
   rcases bg.mp hc with hc|hc
   ·have e:c=(Br n fs).map D.str:=by simpa using hc
    rw [e] at hd
    obtain ⟨t,_,rfl⟩:=aO.mp hd
    exact ⟨t,rfl⟩
   ·exact hX c hc d hd
  obtain ⟨t,rfl⟩:=this
  rfl
 have st4:=l2.more (X:=[(Br n fs).map D.str] ++ X)
 have getB:(O3 ++ ([(Br n fs).map D.str] ++ X))[O3.length]?=some ((Br n fs).map D.str):=zaJ
 generalize hO4:O3 ++ ([(Br n fs).map D.str] ++ X)=O4 at *
 let st:Option D->Option D->Option D->Sg:=fun y6 y7 y8=>[some (.lst (ns.map .int)),some (.int k),some (.own O.length),some (.tup (fs.map .tup)),some (.int n),some (.tup (l.map .str)),y6,y7,y8,y9,some (.tab Pt)]
 let L1:List D:=[.tup (l.map .str),.tup [],.tup [.str (aq n 45)],.tup ((Br n fs).map .str)]
 have x1':z1E [.tup (fs.map .tup)] O3=.ok (.own O3.length) O4:=x1
 have e6:zk2 (st y6 y7 y8) O3=.ok (.lst L1) O4:=
  zdM (z1T rfl (z1T rfl (z1T (z7t (z10 (z1f rfl rfl (zjJ (by omega)))) (by show 1 <= 100000;decide)) (z10 (z1t (z10 (z1d (z10 rfl) x1')) (by
   show (match O4[O3.length]? with|some ds=>R.ok (D.tup ds) O4|none=>_)=_
   rw [getB])))))) (by show 4 <= 100000;decide)
 obtain ⟨vs,u4,v1,v2,v3,v4⟩:=zam (o:=false) (ext:=1) (i:=11) (te:=dFn 3 z1x (z0T (z0U 2) (z0T (z0U 5) (z0T (z0U 4) z0X)))) (σ:=st (some (.lst L1)) y7 y8) (it0:=z31 (z0T (dC (.int 6)) z0X)) (O0:=O4) (P:=Ask) st4
  (z2z (n:=6) (z10 rfl) (by decide)) (by simp) (fun d hd s' hs'=>by
   obtain ⟨v,s'',r1,r2,r3⟩:=z8R n1 n4 l4 l5 hs'
   have e:((O4.set O.length [D.int s',D.bl b]).set O.length [D.int s'',D.bl b])=O4.set O.length [D.int s'',D.bl b]:=bD ..
   rw [e] at r1 r2
   exact ⟨v,s'',z1d (z1T rfl (z1a rfl rfl)) r1,r2,r3⟩)
 generalize hO5:O4.set O.length [.int u4,.bl b]=O5 at *
 have fl5:z4z O5:=by rw [<- hO5];exact z2L fl4 _ _ _
 have vl:vs.length=6:=by simpa using v3
 let L:List D:=L1 ++ vs
 have hall:∀ d ∈ L,Ask d:=fun d hd=>by
  rcases bg.mp hd with hd|hd
  ·simp only [L1,av,aM,or_false] at hd
   rcases hd with rfl|rfl|rfl|rfl
   ·exact .inl ⟨_,rfl,z36 n1 n4 l4,by rw [az];omega⟩
   ·exact .inl ⟨[],rfl,fun x hx=>(by cases hx),by decide⟩
   ·refine .inl ⟨_,rfl,fun x hx=>?_,by show 1 < 64;decide⟩
    have:x=.str (aq n 45):=by simpa using hx
    rw [this]
    exact z7P n1 n4 (z54 n _ (by simp) fun c hc=>by rw [jc hc];rfl)
   ·exact .inl ⟨_,rfl,z36 n1 n4 fun t ht=>z63 ht,by rw [az];omega⟩
  ·exact v4 d hd
 have h7:itB (st (some (.lst L1)) y7 y8) O4=.ok (.lst L) O5:=
  z1f (x:=.lst L1) (y:=.lst vs) rfl v1 (by
   show (if 4 + vs.length <= 100000 then R.ok (D.lst L) O5 else R.bad)=_
   rw [if_pos (by rw [vl];decide)])
 obtain ⟨σ',O',t1,y7',hσ,hO'⟩:=z8x (i:=7) (body:=zj2) (it:=dIt itB) (l:=L) (inj:=fun d=>d) (σ:=st (some (.lst L1)) y7 y8) (O0:=O4) (O:=O5) (by rw [kL];exact z2T h7) (fun j σ O'=>∃ y,σ=st (some (.lst L1)) y y8/\O'=O5) (fun j d σ O' hd hI=>by
  obtain ⟨y,rfl,rfl⟩:=hI
  obtain ⟨c,c1,c2⟩:=z9m hf (hall d (aW hd)) fl5
  refine ⟨st (some (.lst L1)) (some d) y8,O',?_,some d,rfl,rfl⟩
  exact (z2b (b:=false) (O1:=O') (z25 (b:=true) (z1w (z1d (z1a (z1d (z1a rfl rfl) c1) (z1d (z1a rfl rfl) c2)) (ziv O' _))))).trans rfl) ⟨y7,rfl,rfl⟩
 subst hσ
 rw [hO'] at t1
 obtain ⟨z,u5,z1,z2,hz⟩:=z5V v2
 generalize hO6:O5.set O.length [.int u5,.bl b]=O6 at *
 have fl6:z4z O6:=by rw [<- hO6];exact z2L fl5 _ _ _
 refine ⟨some (.own O.length),some (.tup (fs.map .tup)),some (.int n),some (.tup (l.map .str)),some (.lst L1),y7',some z,none,O6,?_,fl6⟩
 unfold zgw
 exact z1z (x:=.own O.length) (z1d (z1a rfl rfl) s1) (z1z (x:=.tup (fs.map .tup)) (O1:=O2) (z1d (z10 rfl) f1) (z1z (x:=.int n) (O1:=O2) (z1d (z10 (z1f rfl rfl g2)) (z2o g1 O2)) (z1z (x:=.tup (l.map .str)) (O1:=O3) (z1d (z1a rfl rfl) l1) (z1z (x:=.lst L1) (O1:=O4) e6 (z3n t1 (z1z (x:=z) (O1:=O6) (z1d (z10 rfl) z1) (zfr hz)))))))
theorem pure_law (Pt:Nat) (ns:List Int) (hn:ns.length <= 63):∃ O,F_law Pt [.lst (ns.map .int)] []=.ok (.bl true) O:=by
 let A:Option D:=some (.lst (ns.map .int))
 let T:Option D:=some (.tab Pt)
 let σ0:Sg:=[A,none,none,none,none,none,none,none,none,none,T]
 obtain ⟨m,hm,hr⟩:=zfB hn σ0 6 (by decide) rfl
 obtain ⟨σ',O',l1,y1,y2,y3,y4,y5,y6,y7,y8,y9,rfl,l2⟩:=z8x (i:=1) (body:=zgw Pt) (z2z (z10 hr) hm) (fun _ σ O'=>∃ y1 y2 y3 y4 y5 y6 y7 y8 y9,σ=[A,y1,y2,y3,y4,y5,y6,y7,y8,y9,T]/\z4z O') (fun _ i σ O' _ hI=>by
   obtain ⟨y1,y2,y3,y4,y5,y6,y7,y8,y9,rfl,fl⟩:=hI
   obtain ⟨z2,z3,z4,z5,z6,z7,z8,z9,O4,t1,t2⟩:=zfw (Pt:=Pt) (ns:=ns) (k:=i) fl (y2:=y2) (y3:=y3) (y4:=y4) (y5:=y5) (y6:=y6) (y7:=y7) (y8:=y8) (y9:=y9)
   exact ⟨_,_,t1,_,_,_,_,_,_,_,_,_,rfl,t2⟩) ⟨none,none,none,none,none,none,none,none,none,rfl,fun c hc=>by cases hc⟩
 refine ⟨O',?_⟩
 show fin (z1e _ (z1v (dC (.bl true))) σ0 [])=_
 exact z1N (z3n l1 rfl)
end K60
open PySem PySem.W PyProof.Rows
set_option maxRecDepth 100000 in
set_option maxHeartbeats 0 in
theorem PySem.Challenge.cw_leastterms_k60_shared_forms_known_holds : PySem.Challenge.rw_leastterms_k60_shared_forms_known.Holds := by
 w_on;o_law;refine PySem.W.holds_openX (q:=K60.Qv) (loose:=K60.Lv) (N:=7572) (Xt:=K60.Xv) (XP:=lZ K60.Qv []) (Yf:=(fun s=>(lc K60.Hk s,decide (0 < s.toks)))) (Ya:=(fun w=>(le K60.Hk w,true))) K60.lw (fun s e=>lL s (eC.mp e).1) lf (by rfl) (by rfl) (by rfl) (fun s e=>ka (eC.mp e).2) (by rfl) (by first|assumption|decide +kernel) (by decide +kernel) ⟨rfl,rfl,rfl,rfl,rfl,by decide +kernel⟩ ?hw ?hc;(case hw=>w_witness2)
 delta K60.Hk;k_fill
 refine DL.walkT (l:=PySem.Challenge.rw_leastterms_k60_shared_forms_known) (k:=12) (x := "_law_script") (Cl:=K60.Cl) (F:=K60.F_law) rfl rfl ⟨rfl,by decide,by decide⟩ (ly K60.Hk) (kn K60.Hk) (fun w h Y=>PySem.W.km_in_of Y) ?R ?F K60.pure_law
 case R=>first|rfl|kernel_rfl
 case F=>
  intro w mg fa h KX G hmg
  refine' K60.all_mk KX G hmg ⟨K60.fa_mk KX G ?_ ?_ ?_ ?_,K60.fa_mk KX G ?_ ?_ ?_ ?_,K60.fa_mk KX G ?_ ?_ ?_ ?_,K60.fa_mk KX G ?_ ?_ ?_ ?_,K60.fa_mk KX G ?_ ?_ ?_ ?_,K60.fa_mk KX G ?_ ?_ ?_ ?_,K60.fa_mk KX G ?_ ?_ ?_ ?_,K60.fa_mk KX G ?_ ?_ ?_ ?_,K60.fa_mk KX G ?_ ?_ ?_ ?_,K60.fa_mk KX G ?_ ?_ ?_ ?_,K60.fa_mk KX G ?_ ?_ ?_ ?_,K60.fa_mk KX G ?_ ?_ ?_ ?_,K60.fa_mk KX G ?_ ?_ ?_ ?_,K60.fa_mk KX G ?_ ?_ ?_ ?_,K60.fa_mk KX G ?_ ?_ ?_ ?_,K60.fa_mk KX G ?_ ?_ ?_ ?_,K60.fa_mk KX G ?_ ?_ ?_ ?_,K60.fa_mk KX G ?_ ?_ ?_ ?_,K60.fa_mk KX G ?_ ?_ ?_ ?_,K60.fa_mk KX G ?_ ?_ ?_ ?_,K60.fa_mk KX G ?_ ?_ ?_ ?_,K60.fa_mk KX G ?_ ?_ ?_ ?_,K60.fa_mk KX G ?_ ?_ ?_ ?_,K60.fa_mk KX G ?_ ?_ ?_ ?_,K60.fa_mk KX G ?_ ?_ ?_ ?_,K60.fa_mk KX G ?_ ?_ ?_ ?_,K60.fa_mk KX G ?_ ?_ ?_ ?_,K60.fa_mk KX G ?_ ?_ ?_ ?_,K60.fa_mk KX G ?_ ?_ ?_ ?_,K60.fa_mk KX G ?_ ?_ ?_ ?_,K60.fa_mk KX G ?_ ?_ ?_ ?_,K60.fa_mk KX G ?_ ?_ ?_ ?_,K60.fa_mk KX G ?_ ?_ ?_ ?_,K60.fa_mk KX G ?_ ?_ ?_ ?_,K60.fa_mk KX G ?_ ?_ ?_ ?_,K60.fa_mk KX G ?_ ?_ ?_ ?_,K60.fa_mk KX G ?_ ?_ ?_ ?_,K60.fa_mk KX G ?_ ?_ ?_ ?_,K60.fa_mk KX G ?_ ?_ ?_ ?_,K60.fa_mk KX G ?_ ?_ ?_ ?_,K60.fa_mk KX G ?_ ?_ ?_ ?_,K60.fa_mk KX G ?_ ?_ ?_ ?_,K60.fa_mk KX G ?_ ?_ ?_ ?_,K60.fa_mk KX G ?_ ?_ ?_ ?_,K60.fa_mk KX G ?_ ?_ ?_ ?_,K60.fa_mk KX G ?_ ?_ ?_ ?_,bt KX G ?_,bt KX G ?_,bt KX G ?_,bt KX G ?_,bt KX G ?_,bt KX G ?_,bt KX G ?_,bt KX G ?_,bt KX G ?_,bt KX G ?_,bt KX G ?_,bt KX G ?_,bt KX G ?_,bt KX G ?_,bt KX G ?_,bt KX G ?_,bt KX G ?_,K60.gs_mk KX G ?_,K60.gt_mk KX G ?_ ?_ ?_ ?_,K60.gi_mk KX G ?_,cg KX G ?_,cg KX G ?_,cg KX G ?_,cg KX G ?_,cg KX G ?_,cg KX G ?_,cg KX G ?_,cg KX G ?_,cg KX G ?_,cg KX G ?_,?_,?_,?_,?_,?_,?_,?_,?_,?_,?_,?_,?_,?_,?_,?_,?_,?_,?_,?_,?_,?_,DL.xck_of ?_ ?_ ?_ ?_ ?_ ?_ ?_ ?_ ?_ ?_ ?_ ?_ ?_ ?_⟩ ?Ha ?Hl ?_ ?_ ?_ ?Gh4 ?Gh5 ?_
  (case' Ha|Hl|Gh4=>k_is)
  (case Gh5=>rfl)
  all_goals first|k_is|kernel_rfl|rfl|skip